/- The walks of GridNames, GridRises, GridBetween. -/
import Derived.Test.YthjefnkgfmkijaaGridAwake
namespace Go.Proofs.Ythjefnkgfmkijaa
namespace GridC
open Go.RowKit TabC

theorem GridNames_walk (w : World) : Calls Try.prog 3 #[] w fun e w' => e = .returned (.bool true) ∧ Below w.heap.size w w' := by
  go_enter Try.func3, Try.ntmps3
  go_wp2_with (go_at_call 9; refine (awake_c _).mono ?_; rintro e w1 ⟨rfl, hb⟩)
  go_ret
  exact ⟨rfl, by assumption⟩

theorem few_is {A B : Option Addr} {ca cb : Nat} {zs : List Int} {n : Nat} {T : Nat → Tv} {W : World} (hG : GridIn W A B zs n T) {b : Bool} (h : fewG zs n T = b) :
    Calls Try.prog 10 #[.agg #[.slice A zs.length ca, .slice B n cb]] W fun e w' => e = .returned (.bool b) ∧ Below W.heap.size W w' := by
  have := fewG_c A B ca cb zs n T W hG
  rwa [h] at this
theorem rising_is {A B : Option Addr} {ca cb : Nat} {zs : List Int} {n : Nat} {T : Nat → Tv} {W : World} (hG : GridIn W A B zs n T) {b : Bool} (h : Gd.rsB zs n (X T) (Y T) = b) :
    Calls Try.prog 15 #[.agg #[.slice A zs.length ca, .slice B n cb]] W fun e w' => e = .returned (.bool b) ∧ Below W.heap.size W w' := by
  have := grising_c A B ca cb zs n T W hG
  rwa [h] at this
theorem at_is {A B : Option Addr} {ca cb : Nat} {zs : List Int} {n : Nat} {T : Nat → Tv} {W : World} (hG : GridIn W A B zs n T) {z x v : Int} (h : Gd.atv zs n (X T) (Y T) z x = v) :
    Calls Try.prog 12 #[.agg #[.slice A zs.length ca, .slice B n cb], .int .i64 z, .int .i64 x] W fun e w' => e = .returned (.int .i64 v) ∧ Below W.heap.size W w' := by
  have := gat_c A B ca cb zs n T z x W hG
  rwa [h] at this
theorem tat_is {W : World} {T : Nat → Tv} {k : Nat} (hT : TabIn W (T k).A (T k).B (T k).xs (T k).ys) {x v : Int} (h : Tb.atv (T k).xs (T k).ys x = v) :
    Calls Try.prog 19 #[.agg #[.slice (T k).A (T k).xs.length (T k).ca, .slice (T k).B (T k).ys.length (T k).cb], .int .i64 x] W fun e w' => e = .returned (.int .i64 v) ∧ Below W.heap.size W w' := by
  have := atv_c (T k).A (T k).B (T k).ca (T k).cb (T k).xs (T k).ys x W hT
  rwa [h] at this
theorem gatv_ok {zs : List Int} {n : Nat} {T : Nat → Tv} (h : Gd.okB zs n (X T) (Y T) = true) (z x : Int) : Gd.atv zs n (X T) (Y T) z x = Gd.atO zs n (X T) (Y T) z x := by simp [Gd.atv, h]

set_option maxRecDepth 100000 in
set_option maxHeartbeats 8000000 in
theorem rises_few (A B : Option Addr) (ca cb : Nat) (zs : List Int) (n : Nat) (T : Nat → Tv) (z x u1 u2 : Int) (w : World) (hG : GridIn w A B zs n T) (hf : fewG zs n T = false) :
    Calls Try.prog 7 #[.agg #[.slice A zs.length ca, .slice B n cb], .int .i64 z, .int .i64 x, .int .u16 u1, .int .u16 u2] w fun e w' => e = .returned (.bool true) ∧ Below w.heap.size w w' := by
  have HH := Lib.hid (GHeld.new (ca := ca) (cb := cb) hG)
  have HF := Lib.hid hf
  clear hG hf
  go_enter Try.func7, Try.ntmps7
  go_wp2_with fail
  refine (awake_c _).mono ?_
  rintro e w9 ⟨rfl, hb⟩
  replace HH := Lib.hid (HH.out.below hb)
  replace c0 := HH.out.c0
  replace c1 := HH.out.c1
  clear hb
  go_wp2_with fail
  refine (few_is HH.out.grid HF.out).mono ?_
  rintro e w9 ⟨rfl, hb⟩
  replace HH := Lib.hid (HH.out.below hb)
  replace c0 := HH.out.c0
  replace c1 := HH.out.c1
  clear hb
  go_wp2_with fail
  go_ret
  exact ⟨rfl, HH.out.old⟩

set_option maxRecDepth 100000 in
set_option maxHeartbeats 8000000 in
theorem rises_no (A B : Option Addr) (ca cb : Nat) (zs : List Int) (n : Nat) (T : Nat → Tv) (z x u1 u2 : Int) (w : World) (hG : GridIn w A B zs n T) (hf : fewG zs n T = true) (hr : Gd.rsB zs n (X T) (Y T) = false) :
    Calls Try.prog 7 #[.agg #[.slice A zs.length ca, .slice B n cb], .int .i64 z, .int .i64 x, .int .u16 u1, .int .u16 u2] w fun e w' => e = .returned (.bool true) ∧ Below w.heap.size w w' := by
  have HH := Lib.hid (GHeld.new (ca := ca) (cb := cb) hG)
  have HF := Lib.hid hf
  have HR := Lib.hid hr
  clear hG hf hr
  go_enter Try.func7, Try.ntmps7
  go_wp2_with fail
  refine (awake_c _).mono ?_
  rintro e w9 ⟨rfl, hb⟩
  replace HH := Lib.hid (HH.out.below hb)
  replace c0 := HH.out.c0
  replace c1 := HH.out.c1
  clear hb
  go_wp2_with fail
  refine (few_is HH.out.grid HF.out).mono ?_
  rintro e w9 ⟨rfl, hb⟩
  replace HH := Lib.hid (HH.out.below hb)
  replace c0 := HH.out.c0
  replace c1 := HH.out.c1
  clear hb
  go_wp2_with fail
  refine (rising_is HH.out.grid HR.out).mono ?_
  rintro e w9 ⟨rfl, hb⟩
  replace HH := Lib.hid (HH.out.below hb)
  replace c0 := HH.out.c0
  replace c1 := HH.out.c1
  clear hb
  go_wp2_with fail
  go_ret
  exact ⟨rfl, HH.out.old⟩

set_option maxRecDepth 100000 in
set_option maxHeartbeats 8000000 in
theorem rises_out (A B : Option Addr) (ca cb : Nat) (zs : List Int) (n : Nat) (T : Nat → Tv) (z x u1 u2 : Int) (w : World) (hG : GridIn w A B zs n T) (hf : fewG zs n T = true) (hr : Gd.rsB zs n (X T) (Y T) = true) (ho : 1099511627776 < z ∨ 1099511627776 < x) :
    Calls Try.prog 7 #[.agg #[.slice A zs.length ca, .slice B n cb], .int .i64 z, .int .i64 x, .int .u16 u1, .int .u16 u2] w fun e w' => e = .returned (.bool true) ∧ Below w.heap.size w w' := by
  have HH := Lib.hid (GHeld.new (ca := ca) (cb := cb) hG)
  have HF := Lib.hid hf
  have HR := Lib.hid hr
  clear hG hf hr
  by_cases h1 : 1099511627776 < z
  · clear ho
    have d1 : decide (1099511627776 < z) = true := by simp [h1]
    go_enter Try.func7, Try.ntmps7
    go_wp2_with fail
    refine (awake_c _).mono ?_
    rintro e w9 ⟨rfl, hb⟩
    replace HH := Lib.hid (HH.out.below hb)
    replace c0 := HH.out.c0
    replace c1 := HH.out.c1
    clear hb
    go_wp2_with fail
    refine (few_is HH.out.grid HF.out).mono ?_
    rintro e w9 ⟨rfl, hb⟩
    replace HH := Lib.hid (HH.out.below hb)
    replace c0 := HH.out.c0
    replace c1 := HH.out.c1
    clear hb
    go_wp2_with fail
    refine (rising_is HH.out.grid HR.out).mono ?_
    rintro e w9 ⟨rfl, hb⟩
    replace HH := Lib.hid (HH.out.below hb)
    replace c0 := HH.out.c0
    replace c1 := HH.out.c1
    clear hb
    go_wp2_with fail
    go_ret
    exact ⟨rfl, HH.out.old⟩
  · have d1 : decide (1099511627776 < z) = false := by simp [h1]
    have h2 : 1099511627776 < x := by omega
    have d2 : decide (1099511627776 < x) = true := by simp [h2]
    clear ho
    go_enter Try.func7, Try.ntmps7
    go_wp2_with fail
    refine (awake_c _).mono ?_
    rintro e w9 ⟨rfl, hb⟩
    replace HH := Lib.hid (HH.out.below hb)
    replace c0 := HH.out.c0
    replace c1 := HH.out.c1
    clear hb
    go_wp2_with fail
    refine (few_is HH.out.grid HF.out).mono ?_
    rintro e w9 ⟨rfl, hb⟩
    replace HH := Lib.hid (HH.out.below hb)
    replace c0 := HH.out.c0
    replace c1 := HH.out.c1
    clear hb
    go_wp2_with fail
    refine (rising_is HH.out.grid HR.out).mono ?_
    rintro e w9 ⟨rfl, hb⟩
    replace HH := Lib.hid (HH.out.below hb)
    replace c0 := HH.out.c0
    replace c1 := HH.out.c1
    clear hb
    go_wp2_with fail
    go_ret
    exact ⟨rfl, HH.out.old⟩

set_option maxRecDepth 100000 in
set_option maxHeartbeats 8000000 in
theorem rises_ok (A B : Option Addr) (ca cb : Nat) (zs : List Int) (n : Nat) (T : Nat → Tv) (z x u1 u2 : Int) (v0 v1 v2 v3 : Int) (w : World) (hG : GridIn w A B zs n T) (hf : fewG zs n T = true) (hr : Gd.rsB zs n (X T) (Y T) = true) (hz0 : -9223372036854775808 ≤ z) (hx0 : -9223372036854775808 ≤ x) (hz : z ≤ 1099511627776) (hx : x ≤ 1099511627776) (hu1 : 0 ≤ u1) (hu2 : u1 ≤ 65535) (hu3 : 0 ≤ u2) (hu4 : u2 ≤ 65535)
    (e0 : Gd.atv zs n (X T) (Y T) z x = v0) (e1 : Gd.atv zs n (X T) (Y T) (z + u1) x = v1) (e2 : Gd.atv zs n (X T) (Y T) z (x + u2) = v2) (e3 : Gd.atv zs n (X T) (Y T) (z + u1) (x + u2) = v3) (l1 : v0 ≤ v1) (l2 : v0 ≤ v2) (l3 : v0 ≤ v3) :
    Calls Try.prog 7 #[.agg #[.slice A zs.length ca, .slice B n cb], .int .i64 z, .int .i64 x, .int .u16 u1, .int .u16 u2] w fun e w' => e = .returned (.bool true) ∧ Below w.heap.size w w' := by
  have HH := Lib.hid (GHeld.new (ca := ca) (cb := cb) hG)
  have HF := Lib.hid hf
  have HR := Lib.hid hr
  have E0 := Lib.hid e0
  have E1 := Lib.hid e1
  have E2 := Lib.hid e2
  have E3 := Lib.hid e3
  have d1 : decide (1099511627776 < z) = false := by simp; omega
  have d2 : decide (1099511627776 < x) = false := by simp; omega
  have q1 : decide (v0 ≤ v1) = true := by simp [l1]
  have q2 : decide (v0 ≤ v2) = true := by simp [l2]
  have q3 : decide (v0 ≤ v3) = true := by simp [l3]
  have i1 : IntKind.i64.wrap u1 = u1 := IntWalk.i64_in _ (by omega)
  have i2 : IntKind.i64.wrap u2 = u2 := IntWalk.i64_in _ (by omega)
  have i3 : IntKind.i64.wrap (z + u1) = z + u1 := IntWalk.i64_in _ (by omega)
  have i4 : IntKind.i64.wrap (x + u2) = x + u2 := IntWalk.i64_in _ (by omega)
  clear hG hf hr e0 e1 e2 e3
  go_enter Try.func7, Try.ntmps7
  go_wp2_with fail
  refine (awake_c _).mono ?_
  rintro e w9 ⟨rfl, hb⟩
  replace HH := Lib.hid (HH.out.below hb)
  replace c0 := HH.out.c0
  replace c1 := HH.out.c1
  clear hb
  go_wp2_with fail
  refine (few_is HH.out.grid HF.out).mono ?_
  rintro e w9 ⟨rfl, hb⟩
  replace HH := Lib.hid (HH.out.below hb)
  replace c0 := HH.out.c0
  replace c1 := HH.out.c1
  clear hb
  go_wp2_with fail
  refine (rising_is HH.out.grid HR.out).mono ?_
  rintro e w9 ⟨rfl, hb⟩
  replace HH := Lib.hid (HH.out.below hb)
  replace c0 := HH.out.c0
  replace c1 := HH.out.c1
  clear hb
  go_wp2_with fail
  refine (at_is HH.out.grid E0.out).mono ?_
  rintro e w9 ⟨rfl, hb⟩
  replace HH := Lib.hid (HH.out.below hb)
  replace c0 := HH.out.c0
  replace c1 := HH.out.c1
  clear hb
  go_wp2_with fail
  refine (at_is HH.out.grid E1.out).mono ?_
  rintro e w9 ⟨rfl, hb⟩
  replace HH := Lib.hid (HH.out.below hb)
  replace c0 := HH.out.c0
  replace c1 := HH.out.c1
  clear hb
  go_wp2_with fail
  refine (at_is HH.out.grid E2.out).mono ?_
  rintro e w9 ⟨rfl, hb⟩
  replace HH := Lib.hid (HH.out.below hb)
  replace c0 := HH.out.c0
  replace c1 := HH.out.c1
  clear hb
  go_wp2_with fail
  refine (at_is HH.out.grid E3.out).mono ?_
  rintro e w9 ⟨rfl, hb⟩
  replace HH := Lib.hid (HH.out.below hb)
  replace c0 := HH.out.c0
  replace c1 := HH.out.c1
  clear hb
  go_wp2_with fail
  go_ret
  exact ⟨rfl, HH.out.old⟩

theorem GridRises_walk (A B : Option Addr) (ca cb : Nat) (zs : List Int) (n : Nat) (T : Nat → Tv) (z : Int) (hzw : (Lit.int .i64 z).wf = true) (x : Int) (hxw : (Lit.int .i64 x).wf = true) (u1 : Int) (h1w : (Lit.int .u16 u1).wf = true) (u2 : Int) (h2w : (Lit.int .u16 u2).wf = true) (w : World) (hG : GridIn w A B zs n T) :
    Calls Try.prog 7 #[.agg #[.slice A zs.length ca, .slice B n cb], .int .i64 z, .int .i64 x, .int .u16 u1, .int .u16 u2] w fun e w' => e = .returned (.bool true) ∧ Below w.heap.size w w' := by
  have bz := bounds_i64 hzw
  have bx := bounds_i64 hxw
  have b1 := bounds_u16 h1w
  have b2 := bounds_u16 h2w
  cases hf : fewG zs n T with
  | false => exact rises_few A B ca cb zs n T z x u1 u2 w hG hf
  | true =>
    cases hr : Gd.rsB zs n (X T) (Y T) with
    | false => exact rises_no A B ca cb zs n T z x u1 u2 w hG hf hr
    | true =>
      by_cases ho : 1099511627776 < z ∨ 1099511627776 < x
      · exact rises_out A B ca cb zs n T z x u1 u2 w hG hf hr ho
      · have hr' := hr
        rw [Gd.rsB, Bool.and_eq_true] at hr'
        have ok := (Gd.ok_iff _ _ _ _).1 hr'.1
        refine rises_ok A B ca cb zs n T z x u1 u2 _ _ _ _ w hG hf hr (by omega) (by omega) (by omega) (by omega) b1.1 b1.2 b2.1 b2.2 (gatv_ok hr'.1 _ _) (gatv_ok hr'.1 _ _) (gatv_ok hr'.1 _ _) (gatv_ok hr'.1 _ _) ?_ ?_ ?_
        · exact Gd.at_mono ok hr'.2 (by omega) (by omega)
        · exact Gd.at_mono ok hr'.2 (by omega) (by omega)
        · exact Gd.at_mono ok hr'.2 (by omega) (by omega)

set_option maxRecDepth 100000 in
set_option maxHeartbeats 8000000 in
theorem btw_few (A B : Option Addr) (ca cb : Nat) (zs : List Int) (n : Nat) (T : Nat → Tv) (z x t : Int) (w : World) (hG : GridIn w A B zs n T) (hf : fewG zs n T = false) :
    Calls Try.prog 6 #[.agg #[.slice A zs.length ca, .slice B n cb], .int .i64 z, .int .i64 x, .int .u8 t] w fun e w' => e = .returned (.bool true) ∧ Below w.heap.size w w' := by
  have HH := Lib.hid (GHeld.new (ca := ca) (cb := cb) hG)
  have HF := Lib.hid hf
  clear hG hf
  go_enter Try.func6, Try.ntmps6
  go_wp2_with fail
  refine (awake_c _).mono ?_
  rintro e w9 ⟨rfl, hb⟩
  replace HH := Lib.hid (HH.out.below hb)
  replace c0 := HH.out.c0
  replace c1 := HH.out.c1
  clear hb
  go_wp2_with fail
  refine (few_is HH.out.grid HF.out).mono ?_
  rintro e w9 ⟨rfl, hb⟩
  replace HH := Lib.hid (HH.out.below hb)
  replace c0 := HH.out.c0
  replace c1 := HH.out.c1
  clear hb
  go_wp2_with fail
  go_ret
  exact ⟨rfl, HH.out.old⟩

set_option maxRecDepth 100000 in
set_option maxHeartbeats 8000000 in
theorem btw_no (A B : Option Addr) (ca cb : Nat) (zs : List Int) (n : Nat) (T : Nat → Tv) (z x t : Int) (w : World) (hG : GridIn w A B zs n T) (hf : fewG zs n T = true) (ho : Gd.okB zs n (X T) (Y T) = false) :
    Calls Try.prog 6 #[.agg #[.slice A zs.length ca, .slice B n cb], .int .i64 z, .int .i64 x, .int .u8 t] w fun e w' => e = .returned (.bool true) ∧ Below w.heap.size w w' := by
  have HH := Lib.hid (GHeld.new (ca := ca) (cb := cb) hG)
  have HF := Lib.hid hf
  have HO := Lib.hid ho
  clear hG hf ho
  go_enter Try.func6, Try.ntmps6
  go_wp2_with fail
  refine (awake_c _).mono ?_
  rintro e w9 ⟨rfl, hb⟩
  replace HH := Lib.hid (HH.out.below hb)
  replace c0 := HH.out.c0
  replace c1 := HH.out.c1
  clear hb
  go_wp2_with fail
  refine (few_is HH.out.grid HF.out).mono ?_
  rintro e w9 ⟨rfl, hb⟩
  replace HH := Lib.hid (HH.out.below hb)
  replace c0 := HH.out.c0
  replace c1 := HH.out.c1
  clear hb
  go_wp2_with fail
  refine (gcheck_no _ _ ca cb zs n T _ HH.out.grid HO.out).mono ?_
  rintro e w9 ⟨rfl, hb⟩
  replace HH := Lib.hid (HH.out.below hb)
  replace c0 := HH.out.c0
  replace c1 := HH.out.c1
  clear hb
  go_wp2_with fail
  go_ret
  exact ⟨rfl, HH.out.old⟩

set_option maxRecDepth 100000 in
set_option maxHeartbeats 8000000 in
theorem btw_one (A B : Option Addr) (ca cb : Nat) (zs : List Int) (n : Nat) (T : Nat → Tv) (z x t : Int) (w : World) (hG : GridIn w A B zs n T) (hf : fewG zs n T = true) (ho : Gd.okB zs n (X T) (Y T) = true) (h1 : zs.length < 2) :
    Calls Try.prog 6 #[.agg #[.slice A zs.length ca, .slice B n cb], .int .i64 z, .int .i64 x, .int .u8 t] w fun e w' => e = .returned (.bool true) ∧ Below w.heap.size w w' := by
  have HH := Lib.hid (GHeld.new (ca := ca) (cb := cb) hG)
  have HF := Lib.hid hf
  have HO := Lib.hid ho
  have d1 : decide ((zs.length : Int) < 2) = true := by simp; omega
  clear hG hf ho
  go_enter Try.func6, Try.ntmps6
  go_wp2_with fail
  refine (awake_c _).mono ?_
  rintro e w9 ⟨rfl, hb⟩
  replace HH := Lib.hid (HH.out.below hb)
  replace c0 := HH.out.c0
  replace c1 := HH.out.c1
  clear hb
  go_wp2_with fail
  refine (few_is HH.out.grid HF.out).mono ?_
  rintro e w9 ⟨rfl, hb⟩
  replace HH := Lib.hid (HH.out.below hb)
  replace c0 := HH.out.c0
  replace c1 := HH.out.c1
  clear hb
  go_wp2_with fail
  refine (gcheck_ok _ _ ca cb zs n T _ HH.out.grid HO.out).mono ?_
  rintro e w9 ⟨rfl, hb⟩
  replace HH := Lib.hid (HH.out.below hb)
  replace c0 := HH.out.c0
  replace c1 := HH.out.c1
  clear hb
  go_wp2_with fail
  go_ret
  exact ⟨rfl, HH.out.old⟩

set_option maxRecDepth 100000 in
set_option maxHeartbeats 8000000 in
theorem btw_out (b1 o1 b2 o2 ca cb : Nat) (zs : List Int) (n : Nat) (T : Nat → Tv) (z x t : Int) (k : Nat) (Z0 Z1 : Int) (w : World) (hG : GridIn w (some ⟨b1, o1, none⟩) (some ⟨b2, o2, none⟩) zs n T) (hf : fewG zs n T = true) (ho : Gd.okB zs n (X T) (Y T) = true) (hk : k + 1 < zs.length) (hs : n = zs.length) (h8 : zs.length ≤ 8) (ht0 : 0 ≤ t) (ht1 : t ≤ 255) (hm : t.tmod ((zs.length : Int) - 1) = (k : Int))
    (cz0 : w.cell? ⟨b1, o1 + k, none⟩ = some (.int .i64 Z0)) (cz1 : w.cell? ⟨b1, o1 + (k + 1), none⟩ = some (.int .i64 Z1)) (hz : z < Z0 ∨ Z1 < z) :
    Calls Try.prog 6 #[.agg #[.slice (some ⟨b1, o1, none⟩) zs.length ca, .slice (some ⟨b2, o2, none⟩) n cb], .int .i64 z, .int .i64 x, .int .u8 t] w fun e w' => e = .returned (.bool true) ∧ Below w.heap.size w w' := by
  have HH := Lib.hid (GHeld.new (ca := ca) (cb := cb) hG)
  have HF := Lib.hid hf
  have HO := Lib.hid ho
  have d1 : decide ((zs.length : Int) < 2) = false := by simp; omega
  have i0 : k < zs.length := by omega
  have i2 : (k : Int) + 1 < (zs.length : Int) := by omega
  have i4 : 0 ≤ (k : Int) + 1 := by omega
  have i5 : ((k : Int) + 1).toNat = k + 1 := by omega
  have i6 : IntKind.i64.wrap ((k : Int) + 1) = (k : Int) + 1 := IntWalk.i64_in _ (by omega)
  have i7 : ((zs.length : Int) - 1 == 0) = false := by simp; omega
  have i8 : IntKind.i64.wrap t = t := IntWalk.i64_in _ (by omega)
  have i9 : IntKind.i64.wrap ((zs.length : Int) - 1) = (zs.length : Int) - 1 := IntWalk.i64_in _ (by omega)
  have i10 : IntKind.i64.wrap (k : Int) = (k : Int) := IntWalk.i64_in _ (by omega)
  have i11 : k < n := by omega
  have i12 : (k : Int) + 1 < (n : Int) := by omega
  have CZ0 := Lib.hid cz0
  have CZ1 := Lib.hid cz1
  clear hG hf ho cz0 cz1 hs
  by_cases h1 : z < Z0
  · clear hz
    have q1 : decide (z < Z0) = true := by simp [h1]
    go_enter Try.func6, Try.ntmps6
    go_wp2_with fail
    refine (awake_c _).mono ?_
    rintro e w9 ⟨rfl, hb⟩
    replace HH := Lib.hid (HH.out.below hb)
    replace c0 := HH.out.c0
    replace c1 := HH.out.c1
    clear hb
    go_wp2_with fail
    refine (few_is HH.out.grid HF.out).mono ?_
    rintro e w9 ⟨rfl, hb⟩
    replace HH := Lib.hid (HH.out.below hb)
    replace c0 := HH.out.c0
    replace c1 := HH.out.c1
    clear hb
    go_wp2_with fail
    refine (gcheck_ok _ _ ca cb zs n T _ HH.out.grid HO.out).mono ?_
    rintro e w9 ⟨rfl, hb⟩
    replace HH := Lib.hid (HH.out.below hb)
    replace c0 := HH.out.c0
    replace c1 := HH.out.c1
    clear hb
    have cz0 := HH.out.cell CZ0.out
    have cz1 := HH.out.cell CZ1.out
    go_wp2_with fail
    go_ret
    exact ⟨rfl, HH.out.old⟩
  · have h2 : Z1 < z := by omega
    clear hz
    have q1 : decide (z < Z0) = false := by simp [h1]
    have q2 : decide (Z1 < z) = true := by simp [h2]
    go_enter Try.func6, Try.ntmps6
    go_wp2_with fail
    refine (awake_c _).mono ?_
    rintro e w9 ⟨rfl, hb⟩
    replace HH := Lib.hid (HH.out.below hb)
    replace c0 := HH.out.c0
    replace c1 := HH.out.c1
    clear hb
    go_wp2_with fail
    refine (few_is HH.out.grid HF.out).mono ?_
    rintro e w9 ⟨rfl, hb⟩
    replace HH := Lib.hid (HH.out.below hb)
    replace c0 := HH.out.c0
    replace c1 := HH.out.c1
    clear hb
    go_wp2_with fail
    refine (gcheck_ok _ _ ca cb zs n T _ HH.out.grid HO.out).mono ?_
    rintro e w9 ⟨rfl, hb⟩
    replace HH := Lib.hid (HH.out.below hb)
    replace c0 := HH.out.c0
    replace c1 := HH.out.c1
    clear hb
    have cz0 := HH.out.cell CZ0.out
    have cz1 := HH.out.cell CZ1.out
    go_wp2_with fail
    go_ret
    exact ⟨rfl, HH.out.old⟩

set_option maxRecDepth 100000 in
set_option maxHeartbeats 8000000 in
theorem btw_ok (b1 o1 b2 o2 ca cb : Nat) (zs : List Int) (n : Nat) (T : Nat → Tv) (z x t : Int) (k : Nat) (Z0 Z1 : Int) (a b v : Int) (w : World) (hG : GridIn w (some ⟨b1, o1, none⟩) (some ⟨b2, o2, none⟩) zs n T) (hf : fewG zs n T = true) (ho : Gd.okB zs n (X T) (Y T) = true) (hk : k + 1 < zs.length) (hs : n = zs.length) (h8 : zs.length ≤ 8) (ht0 : 0 ≤ t) (ht1 : t ≤ 255) (hm : t.tmod ((zs.length : Int) - 1) = (k : Int))
    (cz0 : w.cell? ⟨b1, o1 + k, none⟩ = some (.int .i64 Z0)) (cz1 : w.cell? ⟨b1, o1 + (k + 1), none⟩ = some (.int .i64 Z1)) (hz0 : Z0 ≤ z) (hz1 : z ≤ Z1) (tc0 : w.cell? ⟨b2, o2 + k * 2, none⟩ = some (.slice (T k).A (T k).xs.length (T k).ca)) (tc1 : w.cell? ⟨b2, o2 + k * 2 + 1, none⟩ = some (.slice (T k).B (T k).ys.length (T k).cb)) (sc0 : w.cell? ⟨b2, o2 + (k + 1) * 2, none⟩ = some (.slice (T (k + 1)).A (T (k + 1)).xs.length (T (k + 1)).ca)) (sc1 : w.cell? ⟨b2, o2 + (k + 1) * 2 + 1, none⟩ = some (.slice (T (k + 1)).B (T (k + 1)).ys.length (T (k + 1)).cb))
    (ea : Tb.atv (T k).xs (T k).ys x = a) (eb : Tb.atv (T (k + 1)).xs (T (k + 1)).ys x = b) (ev : Gd.atv zs n (X T) (Y T) z x = v) (l1 : min a b ≤ v) (l2 : v ≤ max a b) :
    Calls Try.prog 6 #[.agg #[.slice (some ⟨b1, o1, none⟩) zs.length ca, .slice (some ⟨b2, o2, none⟩) n cb], .int .i64 z, .int .i64 x, .int .u8 t] w fun e w' => e = .returned (.bool true) ∧ Below w.heap.size w w' := by
  have HH := Lib.hid (GHeld.new (ca := ca) (cb := cb) hG)
  have HF := Lib.hid hf
  have HO := Lib.hid ho
  have d1 : decide ((zs.length : Int) < 2) = false := by simp; omega
  have i0 : k < zs.length := by omega
  have i2 : (k : Int) + 1 < (zs.length : Int) := by omega
  have i4 : 0 ≤ (k : Int) + 1 := by omega
  have i5 : ((k : Int) + 1).toNat = k + 1 := by omega
  have i6 : IntKind.i64.wrap ((k : Int) + 1) = (k : Int) + 1 := IntWalk.i64_in _ (by omega)
  have i7 : ((zs.length : Int) - 1 == 0) = false := by simp; omega
  have i8 : IntKind.i64.wrap t = t := IntWalk.i64_in _ (by omega)
  have i9 : IntKind.i64.wrap ((zs.length : Int) - 1) = (zs.length : Int) - 1 := IntWalk.i64_in _ (by omega)
  have i10 : IntKind.i64.wrap (k : Int) = (k : Int) := IntWalk.i64_in _ (by omega)
  have i11 : k < n := by omega
  have i12 : (k : Int) + 1 < (n : Int) := by omega
  have CZ0 := Lib.hid cz0
  have CZ1 := Lib.hid cz1
  have T0 := Lib.hid tc0
  have T1 := Lib.hid tc1
  have S0 := Lib.hid sc0
  have S1 := Lib.hid sc1
  have EA := Lib.hid ea
  have EB := Lib.hid eb
  have EV := Lib.hid ev
  have hk1 : k + 1 < n := by omega
  have q1 : decide (z < Z0) = false := by simp; omega
  have q2 : decide (Z1 < z) = false := by simp; omega
  clear hG hf ho cz0 cz1 hs tc0 tc1 sc0 sc1 ea eb ev
  go_enter Try.func6, Try.ntmps6
  go_wp2_with fail
  refine (awake_c _).mono ?_
  rintro e w9 ⟨rfl, hb⟩
  replace HH := Lib.hid (HH.out.below hb)
  replace c0 := HH.out.c0
  replace c1 := HH.out.c1
  clear hb
  go_wp2_with fail
  refine (few_is HH.out.grid HF.out).mono ?_
  rintro e w9 ⟨rfl, hb⟩
  replace HH := Lib.hid (HH.out.below hb)
  replace c0 := HH.out.c0
  replace c1 := HH.out.c1
  clear hb
  go_wp2_with fail
  refine (gcheck_ok _ _ ca cb zs n T _ HH.out.grid HO.out).mono ?_
  rintro e w9 ⟨rfl, hb⟩
  replace HH := Lib.hid (HH.out.below hb)
  replace c0 := HH.out.c0
  replace c1 := HH.out.c1
  clear hb
  have cz0 := HH.out.cell CZ0.out
  have cz1 := HH.out.cell CZ1.out
  have t0 := HH.out.cell T0.out
  have t1 := HH.out.cell T1.out
  go_wp2_with fail
  refine (tat_is (HH.out.tab i11) EA.out).mono ?_
  rintro e w9 ⟨rfl, hb⟩
  replace HH := Lib.hid (HH.out.below hb)
  replace c0 := HH.out.c0
  replace c1 := HH.out.c1
  clear hb
  clear cz0 cz1
  clear t0 t1
  have s0 := HH.out.cell S0.out
  have s1 := HH.out.cell S1.out
  go_wp2_with fail
  refine (tat_is (HH.out.tab hk1) EB.out).mono ?_
  rintro e w9 ⟨rfl, hb⟩
  replace HH := Lib.hid (HH.out.below hb)
  replace c0 := HH.out.c0
  replace c1 := HH.out.c1
  clear hb
  clear s0 s1
  go_wp2_with fail
  refine (at_is HH.out.grid EV.out).mono ?_
  rintro e w9 ⟨rfl, hb⟩
  replace HH := Lib.hid (HH.out.below hb)
  replace c0 := HH.out.c0
  replace c1 := HH.out.c1
  clear hb
  rcases Int.lt_trichotomy a b with p | p | p
  · have l3 : a ≤ v := by omega
    have l4 : v ≤ b := by omega
    have r1 : decide (a ≤ v) = true := by simp [l3]
    have r2 : decide (v ≤ b) = true := by simp [l4]
    go_wp2_with fail
    all_goals
      go_ret
      exact ⟨rfl, HH.out.old⟩
  · subst p
    have l3 : a ≤ v := by omega
    have l4 : v ≤ a := by omega
    have r1 : decide (a ≤ v) = true := by simp [l3]
    have r2 : decide (v ≤ a) = true := by simp [l4]
    go_wp2_with fail
    all_goals
      go_ret
      exact ⟨rfl, HH.out.old⟩
  · have l3 : b ≤ v := by omega
    have l4 : v ≤ a := by omega
    have r1 : decide (b ≤ v) = true := by simp [l3]
    have r2 : decide (v ≤ a) = true := by simp [l4]
    go_wp2_with fail
    all_goals
      go_ret
      exact ⟨rfl, HH.out.old⟩

theorem GridBetween_walk (A B : Option Addr) (ca cb : Nat) (zs : List Int) (n : Nat) (T : Nat → Tv) (z x t : Int) (htw : (Lit.int .u8 t).wf = true) (w : World) (hG : GridIn w A B zs n T) :
    Calls Try.prog 6 #[.agg #[.slice A zs.length ca, .slice B n cb], .int .i64 z, .int .i64 x, .int .u8 t] w fun e w' => e = .returned (.bool true) ∧ Below w.heap.size w w' := by
  have bt := bounds_u8 htw
  cases hf : fewG zs n T with
  | false => exact btw_few A B ca cb zs n T z x t w hG hf
  | true =>
    cases ho : Gd.okB zs n (X T) (Y T) with
    | false => exact btw_no A B ca cb zs n T z x t w hG hf ho
    | true =>
      by_cases h1 : zs.length < 2
      · exact btw_one A B ca cb zs n T z x t w hG hf ho h1
      · have ok := (Gd.ok_iff _ _ _ _).1 ho
        have hs := ok.same
        obtain ⟨b1, o1, b2, o2, L⟩ := glies_of hG (by omega) (by omega)
        obtain rfl := L.ea
        obtain rfl := L.eb
        have k1 := Int.emod_nonneg t (show (zs.length : Int) - 1 ≠ 0 by omega)
        have k2 := Int.emod_lt_of_pos t (show (0 : Int) < (zs.length : Int) - 1 by omega)
        obtain ⟨k, hk⟩ : ∃ k : Nat, t % ((zs.length : Int) - 1) = (k : Int) := ⟨(t % ((zs.length : Int) - 1)).toNat, by omega⟩
        have hk1 : k + 1 < zs.length := by omega
        have hm1 : t.tmod ((zs.length : Int) - 1) = (k : Int) := by rw [Int.tmod_eq_emod_of_nonneg bt.1]; exact hk
        by_cases hz : z < Tb.g zs k ∨ Tb.g zs (k + 1) < z
        · exact btw_out b1 o1 b2 o2 ca cb zs n T z x t k _ _ w hG hf ho hk1 hs ok.most bt.1 bt.2 hm1 (L.zc k (by omega)) (L.zc (k + 1) hk1) hz
        · have bw := Gd.at_between ok hk1 (z := z) (by omega) (by omega) x
          exact btw_ok b1 o1 b2 o2 ca cb zs n T z x t k _ _ _ _ _ w hG hf ho hk1 hs ok.most bt.1 bt.2 hm1 (L.zc k (by omega)) (L.zc (k + 1) hk1) (by omega) (by omega) (L.tc0 k (by omega)) (L.tc1 k (by omega)) (L.tc0 (k + 1) (by omega)) (L.tc1 (k + 1) (by omega)) rfl rfl (gatv_ok ho z x) bw.1 bw.2

end GridC
end Go.Proofs.Ythjefnkgfmkijaa
