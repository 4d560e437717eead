/- Contract of the document's own Back. -/
import Derived.Test.YtnaiphhadfolpaaTabRef3
namespace Go.Proofs.Ytnaiphhadfolpaa
namespace TabC
open Go.RowKit

/-- A step in which so much is reached, and two places of it. -/
structure Mids (xs ys : List Int) (y : Int) (k : Nat) (lo hi : Int) : Prop where
  ge : Tb.g xs k ≤ lo
  lt : lo < hi
  le : hi ≤ Tb.g xs (k + 1)
  no : Tb.atO xs ys lo < y
  yes : y ≤ Tb.atO xs ys hi

theorem Mids.found {xs ys : List Int} {y : Int} {k : Nat} {lo hi : Int} (h : Mids xs ys y k lo hi) (ok : Tb.Ok xs ys) (hk : k + 1 < xs.length) (hy : ∀ j, j ≤ k → Tb.g ys j < y) (hy1 : y ≤ Tb.g ys (k + 1)) (h1 : hi - lo ≤ 1) : Tb.bkO xs ys y = hi := by
  have a := h.ge
  have b := h.lt
  have c := h.le
  have d := h.no
  have e := h.yes
  obtain rfl : lo = hi - 1 := by omega
  rw [Tb.at_seg ok hk (by omega) (by omega)] at d e
  exact Tb.bk_seg ok hk hy hy1 (by omega) c d e

set_option maxRecDepth 100000 in
set_option maxHeartbeats 8000000 in
theorem rback_ok (A B : Option Addr) (ca cb : Nat) (xs ys : List Int) (y : Int) (w : World) (hT : TabIn w A B xs ys) (h : Tb.okB xs ys = true) :
    Calls Try.prog 30 #[.agg #[.slice A xs.length ca, .slice B ys.length cb], .int .i64 y] w fun e w' => e = .returned (.int .i64 (Tb.bkO xs ys y)) ∧ Below w.heap.size w w' := by
  have HT := Lib.hid hT
  have HO := Lib.hid h
  have HK0 := Lib.hid ((Tb.ok_iff xs ys).1 h)
  have h2 := HK0.out.two
  have h16 := HK0.out.most
  have HSM := Lib.hid HK0.out.same
  have hyl : 0 < ys.length := by rw [HSM.out]; omega
  have hxl : 0 < xs.length := by omega
  clear hT h
  go_enter Try.func30, Try.ntmps30
  go_wp2_with fail
  refine (rcheck_ok A B ca cb xs ys _ (HT.out.alloc _) HO.out).mono ?_
  rintro e w1 ⟨rfl, hb⟩
  have hb2 : Below w.heap.size w w1 := ((Below.refl _ _).alloc (Nat.le_refl _) _).trans (hb.mono (by simp))
  have bT := (Lk.BoxV.new w 25 #[.slice A xs.length ca, .slice B ys.length cb]).below hb (by simp)
  have t0 := bT.cell 0
  have t1 := bT.cell 1
  simp only [List.getElem?_toArray, List.getElem?_cons_zero, List.getElem?_cons_succ] at t0 t1
  have HTB := Lib.hid (HT.out.box hb2 bT)
  have HB2 := Lib.hid hb2
  have HBT := Lib.hid bT
  have hlt0 := bT.lt
  clear hb hb2 bT
  obtain ⟨b1, o1, rfl, hb1, c1⟩ := HTB.out.xa 0 hxl
  obtain ⟨b3, o3, rfl, hb3, c3⟩ := HTB.out.ya 0 hyl
  have HXA : Hid (∀ j, j < xs.length → w1.cell? ⟨b1, o1 + j, none⟩ = some (.int .i64 (Tb.g xs j))) := fun j hj => by
    obtain ⟨b1', o1', e1, _, c2⟩ := HTB.out.xa j hj
    simp only [Option.some.injEq, Addr.mk.injEq, and_true] at e1
    obtain ⟨rfl, rfl⟩ := e1
    exact c2
  have HYA : Hid (∀ j, j < xs.length → w1.cell? ⟨b3, o3 + j, none⟩ = some (.int .i64 (Tb.g ys j))) := fun j hj => by
    obtain ⟨b1', o1', e1, _, c2⟩ := HTB.out.ya j (by rw [HSM.out]; exact hj)
    simp only [Option.some.injEq, Addr.mk.injEq, and_true] at e1
    obtain ⟨rfl, rfl⟩ := e1
    exact c2
  clear HTB c1 c3
  have t1s := t1
  rw [HSM.out] at t1
  have HT1 := Lib.hid t1s
  clear t1s
  go_wp2_with fail
  go_loop [6] (fun i => ∃ k : Nat, k ≤ xs.length ∧ i = .int .i64 k ∧ ∀ j, j < k → Tb.g ys j < y) (fun i => xs.length - (intOf i).toNat)
  case atStart => exact ⟨0, Nat.zero_le _, rfl, fun j hj => by omega⟩
  case round =>
    obtain ⟨k, hk, rfl, hF⟩ := hrel
    have HF := Lib.hid hF
    clear hF
    by_cases hlt : k < xs.length
    · have cy := HYA.out k hlt
      have cx := HXA.out k hlt
      generalize hy : Tb.g ys k = Y at cy
      have GY := Lib.hid hy
      clear hy
      by_cases p1 : Y < y
      · have HN : Hid (∀ j, j < k + 1 → Tb.g ys j < y) := fun j hj => by
          by_cases e : j = k
          · subst e; rw [GY.out]; exact p1
          · exact HF.out j (by omega)
        go_wp2_with fail
        go_round
        case rel => exact ⟨k + 1, by omega, by go_num, HN.out⟩
        case measure => simp [intOf]; omega
      · cases k with
        | zero =>
          have E := Lib.hid (Tb.bk_first HK0.out (y := y) (by rw [GY.out]; omega))
          rw [Nat.add_zero] at cy cx
          rw [show ((0 : Nat) : Int) = 0 from rfl]
          have q0 : ((0 : Int) == 0) = true := rfl
          go_wp2_with fail
          go_ret
          exact ⟨ret_int E.out.symm, HB2.out⟩
        | succ k =>
          have HY : Hid (∀ j, j ≤ k → Tb.g ys j < y) := fun j hj => HF.out j (by omega)
          have cp := HYA.out k (by omega)
          have cq := HXA.out k (by omega)
          have q0 : ((k : Int) + 1 == 0) = false := by simp; omega
          have e5 : IntKind.i64.wrap (k : Int) = k := IntWalk.i64_in _ (by omega)
          have g0 : k < xs.length := by omega
          have g1 : (k : Int) + 1 < (xs.length : Int) := by omega
          have g2 : 0 ≤ (k : Int) + 1 := by omega
          have g3 : ((k : Int) + 1).toNat = k + 1 := by omega
          have hpk := HY.out k (Nat.le_refl _)
          have xb0 := HK0.out.xb k (by omega)
          have xb1 := HK0.out.xb (k + 1) hlt
          have hup := HK0.out.up k hlt
          have HMS : Hid (Mids xs ys y k (Tb.g xs k) (Tb.g xs (k + 1))) := ⟨Int.le_refl _, hup, Int.le_refl _, by rw [Tb.at_point HK0.out g0]; exact hpk, by rw [Tb.at_point HK0.out hlt, GY.out]; omega⟩
          have HFD : Hid (∀ lo hi, Mids xs ys y k lo hi → hi - lo ≤ 1 → Tb.bkO xs ys y = hi) := fun lo hi hm h1 => hm.found HK0.out hlt HY.out (by rw [GY.out]; omega) h1
          have HBD : Hid (∀ lo hi, Mids xs ys y k lo hi → 0 ≤ lo ∧ lo < hi ∧ hi ≤ 1048576) := fun lo hi hm => by have := hm.ge; have := hm.lt; have := hm.le; omega
          generalize hp : Tb.g ys k = P at cp hpk
          clear hp
          generalize hX0 : Tb.g xs k = X0 at cq HMS
          generalize hX1 : Tb.g xs (k + 1) = X1 at cx HMS
          clear hX0 hX1 xb0 xb1 hup
          go_wp2_with fail
          go_loopw [7, 8] (fun a b wr => ∃ lo hi, Mids xs ys y k lo hi ∧ a = .int .i64 lo ∧ b = .int .i64 hi ∧ Below w1.heap.size w1 wr) (fun a b _ => (intOf b - intOf a).toNat)
          case atStart => exact ⟨X0, X1, HMS.out, rfl, rfl, Below.refl _ _⟩
          case round =>
            obtain ⟨lo, hi, hm, rfl, rfl, hB⟩ := hrel
            have hbd := HBD.out _ _ hm
            have HM := Lib.hid hm
            have r0 := (hB.cell (p := ⟨w.heap.size, 0, none⟩) hlt0).trans t0
            have r1 := (hB.cell (p := ⟨w.heap.size, 1, none⟩) hlt0).trans HT1.out
            have HB3 := Lib.hid (HB2.out.trans (hB.mono HB2.out.size))
            clear hm
            by_cases p2 : 1 < hi - lo
            · clear t0 t1 cy cx cp cq
              go_wp2_with fail
              refine (rat_ok _ _ ca cb xs ys _ _ (HT.out.below HB3.out) HO.out).mono ?_
              rintro e w2 ⟨rfl, hb5⟩
              have HB4 := Lib.hid (hB.trans (hb5.mono hB.size))
              obtain ⟨m, hmm⟩ : ∃ m, (lo + hi) / 2 = m := ⟨_, rfl⟩
              have m0 : lo < m := by omega
              have m1 : m < hi := by omega
              rw [hmm]
              clear hmm hb5
              by_cases p3 : y ≤ Tb.atO xs ys m
              · have d3 : decide (y ≤ Tb.atO xs ys m) = true := by simp [p3]
                have HN : Hid (Mids xs ys y k lo m) := ⟨HM.out.ge, m0, by have := HM.out.le; omega, HM.out.no, p3⟩
                clear p3
                generalize Tb.atO xs ys m = v at d3 ⊢
                go_wp2_with fail
                go_roundw
                case rel => exact ⟨lo, m, HN.out, rfl, rfl, HB4.out⟩
                case measure => simp [intOf]; omega
              · have d3 : decide (y ≤ Tb.atO xs ys m) = false := by simp [p3]
                have HN : Hid (Mids xs ys y k m hi) := ⟨by have := HM.out.ge; omega, m1, HM.out.le, by omega, HM.out.yes⟩
                clear p3
                generalize Tb.atO xs ys m = v at d3 ⊢
                go_wp2_with fail
                go_roundw
                case rel => exact ⟨m, hi, HN.out, rfl, rfl, HB4.out⟩
                case measure => simp [intOf]; omega
            · have E := Lib.hid (HFD.out _ _ HM.out (by omega))
              go_wp2_with fail
              go_ret
              exact ⟨ret_int E.out.symm, HB3.out⟩
    · obtain rfl : k = xs.length := by omega
      have E := Lib.hid (Tb.bk_none HK0.out HF.out)
      have cl := HXA.out (xs.length - 1) (by omega)
      have e2 : 0 ≤ (xs.length : Int) - 1 := by omega
      have e1 : (xs.length : Int) - 1 < (xs.length : Int) := by omega
      have e3 : ((xs.length : Int) - 1).toNat = xs.length - 1 := by omega
      go_wp2_with fail
      go_ret
      exact ⟨ret_int E.out.symm, HB2.out⟩

end TabC
end Go.Proofs.Ytnaiphhadfolpaa
