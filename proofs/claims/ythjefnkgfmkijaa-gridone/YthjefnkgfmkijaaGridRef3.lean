/- Contract of the document's own At of a grid. -/
import Derived.Test.YthjefnkgfmkijaaGridRef2
namespace Go.Proofs.Ythjefnkgfmkijaa
namespace GridC
open Go.RowKit TabC

set_option maxHeartbeats 4000000 in
theorem grat_no (A B : Option Addr) (ca cb : Nat) (zs : List Int) (n : Nat) (T : Nat → Tv) (z x : Int) (w : World) (hG : GridIn w A B zs n T) (h : Gd.okB zs n (X T) (Y T) = false) :
    Calls Try.prog 11 #[.agg #[.slice A zs.length ca, .slice B n cb], .int .i64 z, .int .i64 x] w fun e w' => e = .returned (.int .i64 0) ∧ Below w.heap.size w w' := by
  have HH := Lib.hid (GHeld.new (ca := ca) (cb := cb) hG)
  have HO := Lib.hid h
  clear hG h
  go_enter Try.func11, Try.ntmps11
  go_wp2_with fail
  refine (grcheck_no _ _ ca cb zs n T _ HH.out.grid HO.out).mono ?_
  rintro e w9 ⟨rfl, hb⟩
  replace HH := Lib.hid (HH.out.below hb)
  clear hb
  go_wp2_with fail
  go_ret
  exact ⟨rfl, HH.out.old⟩

set_option maxRecDepth 100000 in
set_option maxHeartbeats 8000000 in
theorem grat_ok (A B : Option Addr) (ca cb : Nat) (zs : List Int) (n : Nat) (T : Nat → Tv) (z x : Int) (w : World) (hG : GridIn w A B zs n T) (h : Gd.okB zs n (X T) (Y T) = true) :
    Calls Try.prog 11 #[.agg #[.slice A zs.length ca, .slice B n cb], .int .i64 z, .int .i64 x] w fun e w' => e = .returned (.int .i64 (Gd.atO zs n (X T) (Y T) z x)) ∧ Below w.heap.size w w' := by
  have HK := Lib.hid ((Gd.ok_iff _ _ _ _).1 h)
  have h1 := HK.out.one
  have h8 := HK.out.most
  have hs := HK.out.same
  obtain ⟨b1, o1, b2, o2, L⟩ := glies_of hG (by omega) (by omega)
  obtain rfl := L.ea
  obtain rfl := L.eb
  have HL := Lib.hid L
  have HS := Lib.hid hs
  have HH := Lib.hid (GHeld.new (ca := ca) (cb := cb) hG)
  have HO := Lib.hid h
  have hz1 : 0 < zs.length := by omega
  have hn1 : 0 < n := by omega
  clear hG h L hs h1
  go_enter Try.func11, Try.ntmps11
  go_wp2_with fail
  refine (grcheck_ok _ _ ca cb zs n T _ HH.out.grid HO.out).mono ?_
  rintro e w9 ⟨rfl, hb⟩
  replace HH := Lib.hid (HH.out.below hb)
  clear hb
  have c0 := HH.out.c0
  have c1 := HH.out.c1
  have z0 := HH.out.cell (HL.out.zc 0 hz1)
  rw [Nat.add_zero] at z0
  generalize hx0 : Tb.g zs 0 = Z0 at z0
  have GX := Lib.hid hx0
  clear hx0
  by_cases p1 : z ≤ Z0
  · have E : Hid (Gd.atO zs n (X T) (Y T) z x = Tb.atv (T 0).xs (T 0).ys x) := Gd.at_lo HK.out (by rw [GX.out]; exact p1) x
    have t0 := HH.out.cell (HL.out.tc0 0 hn1)
    have t1 := HH.out.cell (HL.out.tc1 0 hn1)
    rw [Nat.zero_mul, Nat.add_zero] at t0 t1
    go_wp2_with fail
    refine (rat_c _ _ _ _ (T 0).xs (T 0).ys x _ (HH.out.tab hn1)).mono ?_
    rintro e w8 ⟨rfl, hb⟩
    replace HH := Lib.hid (HH.out.below hb)
    clear hb
    go_wp2_with fail
    go_ret
    exact ⟨ret_int E.out.symm, HH.out.old⟩
  · have zl := HH.out.cell (HL.out.zc (zs.length - 1) (by omega))
    have e2 : 0 ≤ (zs.length : Int) - 1 := by omega
    have e1 : (zs.length : Int) - 1 < (zs.length : Int) := by omega
    have e1n : (zs.length : Int) - 1 < (n : Int) := by have := HS.out; omega
    have e3 : ((zs.length : Int) - 1).toNat = zs.length - 1 := by omega
    generalize hxl : Tb.g zs (zs.length - 1) = ZL at zl
    have GXL := Lib.hid hxl
    clear hxl
    by_cases p2 : ZL ≤ z
    · have E : Hid (Gd.atO zs n (X T) (Y T) z x = Tb.atv (T (zs.length - 1)).xs (T (zs.length - 1)).ys x) := Gd.at_hi HK.out (by rw [GXL.out]; exact p2) x
      have hl : zs.length - 1 < n := by have := HS.out; omega
      have t0 := HH.out.cell (HL.out.tc0 (zs.length - 1) hl)
      have t1 := HH.out.cell (HL.out.tc1 (zs.length - 1) hl)
      go_wp2_with fail
      refine (rat_c _ _ _ _ (T (zs.length - 1)).xs (T (zs.length - 1)).ys x _ (HH.out.tab hl)).mono ?_
      rintro e w8 ⟨rfl, hb⟩
      replace HH := Lib.hid (HH.out.below hb)
      clear hb
      go_wp2_with fail
      go_ret
      exact ⟨ret_int E.out.symm, HH.out.old⟩
    · have hz2 : 1 < zs.length := by
        have a := GX.out
        have b := GXL.out
        by_cases e : zs.length = 1
        · rw [e, a] at b; omega
        · omega
      go_wp2_with fail
      go_loop [8] (fun i => ∃ k : Nat, k + 1 < zs.length ∧ i = .int .i64 k ∧ Tb.g zs k ≤ z) (fun i => zs.length - (intOf i).toNat)
      case atStart => exact ⟨0, by omega, rfl, by rw [GX.out]; omega⟩
      case round =>
        obtain ⟨k, hk, rfl, hle⟩ := hrel
        have ck := HH.out.cell (HL.out.zc (k + 1) hk)
        have g1 : (k : Int) + 1 < (zs.length : Int) := by omega
        have g2 : 0 ≤ (k : Int) + 1 := by omega
        have g3 : ((k : Int) + 1).toNat = k + 1 := by omega
        generalize hx1 : Tb.g zs (k + 1) = Z1 at ck
        have GX1 := Lib.hid hx1
        have HLE := Lib.hid hle
        clear hx1 hle
        by_cases p3 : Z1 ≤ z
        · have hk2 : k + 1 + 1 < zs.length := by
            by_cases e : k + 1 = zs.length - 1
            · have := GXL.out; rw [← e, GX1.out] at this; omega
            · omega
          have HN : Hid (Tb.g zs (k + 1) ≤ z) := by show _ ≤ _; rw [GX1.out]; exact p3
          go_wp2_with fail
          go_round
          case rel => exact ⟨k + 1, hk2, by go_num, HN.out⟩
          case measure => simp [intOf]; omega
        · have d3 : decide (Z1 ≤ z) = false := by simp [p3]
          have hl0 : k < n := by have := HS.out; omega
          have hl1 : k + 1 < n := by have := HS.out; omega
          have t0 := HH.out.cell (HL.out.tc0 k hl0)
          have t1 := HH.out.cell (HL.out.tc1 k hl0)
          have g1n : (k : Int) + 1 < (n : Int) := by omega
          have g0 : k < zs.length := by omega
          have E := Lib.hid (Gd.at_seg HK.out hk (z := z) HLE.out (by rw [GX1.out]; omega) x)
          have zb0 := HK.out.zb k (by omega)
          have zb1 := HK.out.zb (k + 1) hk
          have yb0 := Gd.atv_bd HK.out (k := k) (by omega) x
          have yb1 := Gd.atv_bd HK.out (k := k + 1) hk x
          have hle := HLE.out
          unfold Gd.seg at E
          rw [GX1.out] at zb1 E
          have hup := HK.out.up k hk
          rw [GX1.out] at hup
          go_wp2_with fail
          refine (rat_c _ _ _ _ (T k).xs (T k).ys x _ (HH.out.tab hl0)).mono ?_
          rintro e w8 ⟨rfl, hb⟩
          replace HH := Lib.hid (HH.out.below hb)
          clear hb c0 c1 z0 zl ck t0 t1
          have c1 := HH.out.c1
          have t0 := HH.out.cell (HL.out.tc0 (k + 1) hl1)
          have t1 := HH.out.cell (HL.out.tc1 (k + 1) hl1)
          go_wp2_with fail
          refine (rat_c _ _ _ _ (T (k + 1)).xs (T (k + 1)).ys x _ (HH.out.tab hl1)).mono ?_
          rintro e w7 ⟨rfl, hb⟩
          replace HH := Lib.hid (HH.out.below hb)
          clear hb c1 t0 t1
          have c0 := HH.out.c0
          have cx := HH.out.cell (HL.out.zc k (by omega))
          have ck := HH.out.cell (HL.out.zc (k + 1) hk)
          rw [GX1.out] at ck
          change 0 ≤ Tb.atv (T k).xs (T k).ys x ∧ Tb.atv (T k).xs (T k).ys x ≤ 1048576 at yb0
          change 0 ≤ Tb.atv (T (k + 1)).xs (T (k + 1)).ys x ∧ Tb.atv (T (k + 1)).xs (T (k + 1)).ys x ≤ 1048576 at yb1
          replace E : Hid (Gd.atO zs n (X T) (Y T) z x = Tb.atv (T k).xs (T k).ys x + (z - Tb.g zs k) * (Tb.atv (T (k + 1)).xs (T (k + 1)).ys x - Tb.atv (T k).xs (T k).ys x) / (Z1 - Tb.g zs k)) := E.out
          generalize Tb.g zs k = ZK at cx zb0 E hle hup
          generalize Tb.atv (T k).xs (T k).ys x = C at yb0 E ⊢
          generalize Tb.atv (T (k + 1)).xs (T (k + 1)).ys x = D at yb1 E ⊢
          have m := mul_bd (a := z - ZK) (b := D - C) (by omega) (by omega) (by omega) (by omega)
          have q := div_bd (a := (z - ZK) * (D - C)) (b := Z1 - ZK) (by omega) m.1 m.2 (by omega)
          have v1 : IntKind.i64.wrap (z - ZK) = z - ZK := IntWalk.i64_in _ (by omega)
          have v2 : IntKind.i64.wrap (D - C) = D - C := IntWalk.i64_in _ (by omega)
          have v3 : IntKind.i64.wrap ((z - ZK) * (D - C)) = (z - ZK) * (D - C) := IntWalk.i64_in _ (by omega)
          have v4 : IntKind.i64.wrap (Z1 - ZK) = Z1 - ZK := IntWalk.i64_in _ (by omega)
          have BE := Lib.hid (below_eq (a := (z - ZK) * (D - C)) (b := Z1 - ZK) (by omega))
          have hq := tdivB (a := (z - ZK) * (D - C)) (b := Z1 - ZK) (by omega) (by omega)
          have hm := tdiv_mul_bd (a := (z - ZK) * (D - C)) (b := Z1 - ZK) (by omega) (by omega) (by omega) (by omega)
          have hb0 : (Z1 - ZK == 0) = false := by simp; omega
          by_cases c : (z - ZK) * (D - C) < ((z - ZK) * (D - C)).tdiv (Z1 - ZK) * (Z1 - ZK)
          · have E2 : Hid ((z - ZK) * (D - C) / (Z1 - ZK) = ((z - ZK) * (D - C)).tdiv (Z1 - ZK) - 1) := by rw [BE.out, if_pos c]; rfl
            rw [E2.out] at q
            have E3 := Lib.hid (show Gd.atO zs n (X T) (Y T) z x = C + (((z - ZK) * (D - C)).tdiv (Z1 - ZK) - 1) by rw [E.out, E2.out])
            clear BE E E2
            generalize hp : (z - ZK) * (D - C) = p at *
            generalize hqq : p.tdiv (Z1 - ZK) = Qt at *
            go_wp2_with fail
            go_quiet (fail)
            go_wp2_with fail
            go_ret
            exact ⟨ret_int E3.out.symm, below_drewN HH.out.old _⟩
          · have E2 : Hid ((z - ZK) * (D - C) / (Z1 - ZK) = ((z - ZK) * (D - C)).tdiv (Z1 - ZK)) := by rw [BE.out, if_neg c]; rfl
            rw [E2.out] at q
            have E3 := Lib.hid (show Gd.atO zs n (X T) (Y T) z x = C + ((z - ZK) * (D - C)).tdiv (Z1 - ZK) by rw [E.out, E2.out])
            clear BE E E2
            generalize hp : (z - ZK) * (D - C) = p at *
            generalize hqq : p.tdiv (Z1 - ZK) = Qt at *
            go_wp2_with fail
            go_quiet (fail)
            go_wp2_with fail
            go_ret
            exact ⟨ret_int E3.out.symm, below_drewN HH.out.old _⟩

theorem grat_c (A B : Option Addr) (ca cb : Nat) (zs : List Int) (n : Nat) (T : Nat → Tv) (z x : Int) (w : World) (hG : GridIn w A B zs n T) :
    Calls Try.prog 11 #[.agg #[.slice A zs.length ca, .slice B n cb], .int .i64 z, .int .i64 x] w fun e w' => e = .returned (.int .i64 (Gd.atv zs n (X T) (Y T) z x)) ∧ Below w.heap.size w w' := by
  cases h : Gd.okB zs n (X T) (Y T) with
  | true => have := grat_ok A B ca cb zs n T z x w hG h; rwa [show Gd.atv zs n (X T) (Y T) z x = Gd.atO zs n (X T) (Y T) z x from by simp [Gd.atv, h]]
  | false => have := grat_no A B ca cb zs n T z x w hG h; rwa [show Gd.atv zs n (X T) (Y T) z x = 0 from by simp [Gd.atv, h]]

end GridC
end Go.Proofs.Ythjefnkgfmkijaa
