/- Contracts of the document's own answers for layer 2: At, Peak, Steep. -/
import Derived.Test.YtioiffhbbhlgeaaTabRef2
namespace Go.Proofs.Ytioiffhbbhlgeaa
namespace TabC
open Go.RowKit

set_option maxRecDepth 100000 in
set_option maxHeartbeats 8000000 in
theorem rat_ok (A B : Option Addr) (ca cb : Nat) (xs ys : List Int) (x : Int) (w : World) (hT : TabIn w A B xs ys) (h : Tb.okB xs ys = true) :
    Calls Try.prog 40 #[.agg #[.slice A xs.length ca, .slice B ys.length cb], .int .i64 x] w fun e w' => e = .returned (.int .i64 (Tb.atO xs ys x)) ∧ Below w.heap.size w w' := by
  have HT := Lib.hid hT
  have HO := Lib.hid h
  have HK0 := Lib.hid ((Tb.ok_iff xs ys).1 h)
  have h2 := HK0.out.two
  have h16 := HK0.out.most
  have HSM := Lib.hid HK0.out.same
  have hyl : 0 < ys.length := by rw [HSM.out]; omega
  have hxl : 0 < xs.length := by omega
  clear hT h
  go_enter Try.func40, Try.ntmps40
  go_wp2_with fail
  refine (rcheck_ok A B ca cb xs ys _ (HT.out.alloc _) HO.out).mono ?_
  rintro e w1 ⟨rfl, hb⟩
  have hb2 : Below w.heap.size w w1 := ((Below.refl _ _).alloc (Nat.le_refl _) _).trans (hb.mono (by simp))
  have bT := (Lk.BoxV.new w 24 #[.slice A xs.length ca, .slice B ys.length cb]).below hb (by simp)
  have t0 := bT.cell 0
  have t1 := bT.cell 1
  simp only [List.getElem?_toArray, List.getElem?_cons_zero, List.getElem?_cons_succ] at t0 t1
  have HTB := Lib.hid (HT.out.box hb2 bT)
  have HB2 := Lib.hid hb2
  clear hb hb2 bT
  obtain ⟨b1, o1, rfl, hb1, c1⟩ := HTB.out.xa 0 hxl
  obtain ⟨b3, o3, rfl, hb3, c3⟩ := HTB.out.ya 0 hyl
  have HXA : Hid (∀ j, j < xs.length → w1.cell? ⟨b1, o1 + j, none⟩ = some (.int .i64 (Tb.g xs j))) := fun j hj => by
    obtain ⟨b1', o1', e1, _, c2⟩ := HTB.out.xa j hj
    simp only [Option.some.injEq, Addr.mk.injEq, and_true] at e1
    obtain ⟨rfl, rfl⟩ := e1
    exact c2
  have HYA : Hid (∀ j, j < xs.length → w1.cell? ⟨b3, o3 + j, none⟩ = some (.int .i64 (Tb.g ys j))) := fun j hj => by
    obtain ⟨b1', o1', e1, _, c2⟩ := HTB.out.ya j (by rw [HSM.out]; exact hj)
    simp only [Option.some.injEq, Addr.mk.injEq, and_true] at e1
    obtain ⟨rfl, rfl⟩ := e1
    exact c2
  rw [Nat.add_zero] at c1 c3
  clear HTB
  rw [HSM.out] at t1
  generalize hx0 : Tb.g xs 0 = X0 at c1
  generalize hy0 : Tb.g ys 0 = Y0 at c3
  have GX := Lib.hid hx0
  have GY := Lib.hid hy0
  clear hx0 hy0
  by_cases p1 : x ≤ X0
  · have E : Hid (Tb.atO xs ys x = Y0) := by show _ = _; rw [← GY.out]; exact Tb.at_lo HK0.out (by rw [GX.out]; exact p1)
    go_wp2_with fail
    go_ret
    exact ⟨ret_int E.out.symm, HB2.out⟩
  · have cl := HXA.out (xs.length - 1) (by omega)
    have cy := HYA.out (xs.length - 1) (by omega)
    have e2 : 0 ≤ (xs.length : Int) - 1 := by omega
    have e1 : (xs.length : Int) - 1 < (xs.length : Int) := by omega
    have e3 : ((xs.length : Int) - 1).toNat = xs.length - 1 := by omega
    generalize hxl1 : Tb.g xs (xs.length - 1) = XL at cl
    generalize hyl1 : Tb.g ys (xs.length - 1) = YL at cy
    have GXL := Lib.hid hxl1
    have GYL := Lib.hid hyl1
    clear hxl1 hyl1
    by_cases p2 : XL ≤ x
    · have E : Hid (Tb.atO xs ys x = YL) := by show _ = _; rw [← GYL.out]; exact Tb.at_hi HK0.out (by rw [GXL.out]; exact p2)
      go_wp2_with fail
      go_ret
      exact ⟨ret_int E.out.symm, HB2.out⟩
    · go_wp2_with fail
      go_loop [6] (fun i => ∃ k : Nat, k + 1 < xs.length ∧ i = .int .i64 k ∧ Tb.g xs k ≤ x) (fun i => xs.length - (intOf i).toNat)
      case atStart => exact ⟨0, by omega, rfl, by rw [GX.out]; omega⟩
      case round =>
        obtain ⟨k, hk, rfl, hle⟩ := hrel
        have ck := HXA.out (k + 1) hk
        have g1 : (k : Int) + 1 < (xs.length : Int) := by omega
        have g2 : 0 ≤ (k : Int) + 1 := by omega
        have g3 : ((k : Int) + 1).toNat = k + 1 := by omega
        generalize hx1 : Tb.g xs (k + 1) = X1 at ck
        have GX1 := Lib.hid hx1
        have HLE := Lib.hid hle
        clear hx1 hle
        by_cases p3 : X1 ≤ x
        · have hk2 : k + 1 + 1 < xs.length := by
            by_cases e : k + 1 = xs.length - 1
            · have := GXL.out; rw [← e, GX1.out] at this; omega
            · omega
          have HN : Hid (Tb.g xs (k + 1) ≤ x) := by show _ ≤ _; rw [GX1.out]; exact p3
          go_wp2_with fail
          go_round
          case rel => exact ⟨k + 1, hk2, by go_num, HN.out⟩
          case measure => simp [intOf]; omega
        · have d3 : decide (X1 ≤ x) = false := by simp [p3]
          have cx := HXA.out k (by omega)
          have cy0 := HYA.out k (by omega)
          have cy1 := HYA.out (k + 1) hk
          have E := Lib.hid (Tb.at_seg HK0.out hk (x := x) HLE.out (by rw [GX1.out]; omega))
          have xb0 := HK0.out.xb k (by omega)
          have xb1 := HK0.out.xb (k + 1) hk
          have yb0 := HK0.out.yb k (by omega)
          have yb1 := HK0.out.yb (k + 1) hk
          have hle := HLE.out
          unfold Tb.seg at E
          rw [GX1.out] at xb1 E
          clear GXL GYL cl cy GX GY p1 p2
          generalize Tb.g xs k = XK at cx xb0 E hle
          generalize Tb.g ys k = YK at cy0 yb0 E
          generalize Tb.g ys (k + 1) = Y1 at cy1 yb1 E
          have m := mul_bd (a := x - XK) (b := Y1 - YK) (by omega) (by omega) (by omega) (by omega)
          have q := div_bd (a := (x - XK) * (Y1 - YK)) (b := X1 - XK) (by omega) m.1 m.2 (by omega)
          have v1 : IntKind.i64.wrap (x - XK) = x - XK := IntWalk.i64_in _ (by omega)
          have v2 : IntKind.i64.wrap (Y1 - YK) = Y1 - YK := IntWalk.i64_in _ (by omega)
          have v3 : IntKind.i64.wrap ((x - XK) * (Y1 - YK)) = (x - XK) * (Y1 - YK) := IntWalk.i64_in _ (by omega)
          have v4 : IntKind.i64.wrap (X1 - XK) = X1 - XK := IntWalk.i64_in _ (by omega)
          have v5 : IntKind.i64.wrap (YK + (x - XK) * (Y1 - YK) / (X1 - XK)) = YK + (x - XK) * (Y1 - YK) / (X1 - XK) := IntWalk.i64_in _ (by omega)
          have v6 : IntKind.i64.wrap ((k : Int) + 1) = (k : Int) + 1 := IntWalk.i64_in _ (by omega)
          have bc : ∀ W, Calls Try.prog 65 #[.int .i64 ((x - XK) * (Y1 - YK)), .int .i64 (X1 - XK)] W fun e w' => e = .returned (.int .i64 ((x - XK) * (Y1 - YK) / (X1 - XK))) ∧ w' = W :=
            fun W => (rbelow_c ((x - XK) * (Y1 - YK)) (X1 - XK) W (by omega) (by omega) (by omega) (by omega)).mono fun _ _ h => ⟨h.1, h.2.symm⟩
          have BC := Lib.hid bc
          have g0 : k < xs.length := by omega
          clear bc
          go_wp2_with fail
          go_quiet ((go_at_call 65; exact Calls.quiet_of_same (BC.out _)))
          go_wp2_with fail
          go_ret
          exact ⟨ret_int E.out.symm, below_drewN HB2.out _⟩

theorem rat_no (A B : Option Addr) (ca cb : Nat) (xs ys : List Int) (x : Int) (w : World) (hT : TabIn w A B xs ys) (h : Tb.okB xs ys = false) :
    Calls Try.prog 40 #[.agg #[.slice A xs.length ca, .slice B ys.length cb], .int .i64 x] w fun e w' => e = .returned (.int .i64 0) ∧ Below w.heap.size w w' := by
  have HT := Lib.hid hT
  have HO := Lib.hid h
  clear hT h
  go_enter Try.func40, Try.ntmps40
  go_wp2_with fail
  refine (rcheck_no A B ca cb xs ys _ (HT.out.alloc _) HO.out).mono ?_
  rintro e w1 ⟨rfl, hb⟩
  have hb2 : Below w.heap.size w w1 := ((Below.refl _ _).alloc (Nat.le_refl _) _).trans (hb.mono (by simp))
  go_wp2_with fail
  go_ret
  exact ⟨rfl, hb2⟩

theorem rat_c (A B : Option Addr) (ca cb : Nat) (xs ys : List Int) (x : Int) (w : World) (hT : TabIn w A B xs ys) :
    Calls Try.prog 40 #[.agg #[.slice A xs.length ca, .slice B ys.length cb], .int .i64 x] w fun e w' => e = .returned (.int .i64 (Tb.atv xs ys x)) ∧ Below w.heap.size w w' := by
  cases h : Tb.okB xs ys with
  | true => have := rat_ok A B ca cb xs ys x w hT h; rwa [show Tb.atv xs ys x = Tb.atO xs ys x from by simp [Tb.atv, h]]
  | false => have := rat_no A B ca cb xs ys x w hT h; rwa [show Tb.atv xs ys x = 0 from by simp [Tb.atv, h]]

set_option maxHeartbeats 1000000 in
theorem rpeak_c (A B : Option Addr) (ca cb : Nat) (xs ys : List Int) (w : World) (hT : TabIn w A B xs ys) :
    Calls Try.prog 29 #[.agg #[.slice A xs.length ca, .slice B ys.length cb]] w fun e w' => e = .returned (.int .i64 (Tb.pk xs ys)) ∧ Below w.heap.size w w' := by
  have HT := Lib.hid hT
  clear hT
  cases h : Tb.okB xs ys with
  | false =>
    have E : Hid (Tb.pk xs ys = 0) := by show _ = _; simp [Tb.pk, h]
    have HO := Lib.hid h
    clear h
    go_enter Try.func29, Try.ntmps29
    go_wp2_with fail
    refine (rcheck_no A B ca cb xs ys _ (HT.out.alloc _) HO.out).mono ?_
    rintro e w1 ⟨rfl, hb⟩
    have hb2 : Below w.heap.size w w1 := ((Below.refl _ _).alloc (Nat.le_refl _) _).trans (hb.mono (by simp))
    go_wp2_with fail
    go_ret
    exact ⟨ret_int E.out.symm, hb2⟩
  | true =>
    have HO := Lib.hid h
    have E : Hid (Tb.pk xs ys = Tb.mx ys) := by show _ = _; simp [Tb.pk, h]
    have hyl := HT.out.yl
    clear h
    go_enter Try.func29, Try.ntmps29
    go_wp2_with fail
    refine (rcheck_ok A B ca cb xs ys _ (HT.out.alloc _) HO.out).mono ?_
    rintro e w1 ⟨rfl, hb⟩
    have hb2 : Below w.heap.size w w1 := ((Below.refl _ _).alloc (Nat.le_refl _) _).trans (hb.mono (by simp))
    have bT := (Lk.BoxV.new w 24 #[.slice A xs.length ca, .slice B ys.length cb]).below hb (by simp)
    have t1 := bT.cell 1
    simp only [List.getElem?_toArray, List.getElem?_cons_zero, List.getElem?_cons_succ] at t1
    have HTB := Lib.hid (HT.out.box hb2 bT)
    have HB2 := Lib.hid hb2
    clear hb hb2 bT
    go_wp2_with fail
    go_loop [3, 4] (fun m i => ∃ k : Nat, k ≤ ys.length ∧ i = .int .i64 k ∧ m = .int .i64 (Tb.mx (ys.take k))) (fun _ i => ys.length - (intOf i).toNat)
    case atStart => exact ⟨0, Nat.zero_le _, rfl, rfl⟩
    case round =>
      obtain ⟨k, hk, rfl, rfl⟩ := hrel
      by_cases hlt : k < ys.length
      · obtain ⟨b3, o3, rfl, hb3, c3⟩ := HTB.out.ya k hlt
        have HM := Lib.hid (Tb.mx_take ys k hlt)
        generalize Tb.g ys k = v at c3 HM
        generalize Tb.mx (ys.take k) = m at HM ⊢
        go_wp2_with fail
        go_round
        case rel => exact ⟨k + 1, by omega, by go_num, by rw [HM.out, max_if]⟩
        case measure => simp [intOf]; omega
      · go_wp2_with fail
        go_ret
        exact ⟨ret_int (by rw [E.out, List.take_of_length_le (by omega)]), HB2.out⟩

end TabC
end Go.Proofs.Ytioiffhbbhlgeaa
