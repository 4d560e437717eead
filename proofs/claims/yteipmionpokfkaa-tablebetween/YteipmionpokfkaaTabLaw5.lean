/- The walk of TableBetween. -/
import Derived.Test.YteipmionpokfkaaTabLawKit
import Derived.Deep.RegionHeld3
namespace Go.Proofs.Yteipmionpokfkaa
namespace TabC
open Go.RowKit

set_option maxRecDepth 100000 in
set_option maxHeartbeats 8000000 in
theorem between_few (A B : Option Addr) (ca cb : Nat) (xs ys : List Int) (x at_ : Int) (w : World) (hT : TabIn w A B xs ys) (hf : 40 < xs.length ∨ 40 < ys.length) :
    Calls Try.prog 7 #[.agg #[.slice A xs.length ca, .slice B ys.length cb], .int .i64 x, .int .u8 at_] w fun e w' => e = .returned (.bool true) ∧ Below w.heap.size w w' := by
  have HH := Lib.hid (Held.new (ca := ca) (cb := cb) hT)
  clear hT
  go_enter Try.func7, Try.ntmps7
  go_wp2_with (first
      | (go_at_call 11; refine (awake_c _).mono ?_; rintro e w9 ⟨rfl, hb⟩; replace HH := Lib.hid (HH.out.below hb); replace c0 := HH.out.c0; replace c1 := HH.out.c1; clear hb)
      | (go_at_call 12; refine (few_no A B ca cb xs ys _ hf).mono ?_; rintro e w9 ⟨rfl, hb⟩; replace HH := Lib.hid (HH.out.below hb); replace c0 := HH.out.c0; replace c1 := HH.out.c1; clear hb)
      | (go_at_call 13; refine (check_ok A B ca cb xs ys _ HH.out.tab HO.out).mono ?_; rintro e w9 ⟨rfl, hb⟩; replace HH := Lib.hid (HH.out.below hb); replace c0 := HH.out.c0; replace c1 := HH.out.c1; clear hb))
  go_ret
  exact ⟨rfl, HH.out.old⟩

set_option maxRecDepth 100000 in
set_option maxHeartbeats 8000000 in
theorem between_no (A B : Option Addr) (ca cb : Nat) (xs ys : List Int) (x at_ : Int) (w : World) (hT : TabIn w A B xs ys) (hf1 : xs.length ≤ 40) (hf2 : ys.length ≤ 40) (hO : Tb.okB xs ys = false) :
    Calls Try.prog 7 #[.agg #[.slice A xs.length ca, .slice B ys.length cb], .int .i64 x, .int .u8 at_] w fun e w' => e = .returned (.bool true) ∧ Below w.heap.size w w' := by
  have HH := Lib.hid (Held.new (ca := ca) (cb := cb) hT)
  clear hT
  have HO := Lib.hid hO
  clear hO
  go_enter Try.func7, Try.ntmps7
  go_wp2_with (first
      | (go_at_call 11; refine (awake_c _).mono ?_; rintro e w9 ⟨rfl, hb⟩; replace HH := Lib.hid (HH.out.below hb); replace c0 := HH.out.c0; replace c1 := HH.out.c1; clear hb)
      | (go_at_call 12; refine (few_yes A B ca cb xs ys _ hf1 hf2).mono ?_; rintro e w9 ⟨rfl, hb⟩; replace HH := Lib.hid (HH.out.below hb); replace c0 := HH.out.c0; replace c1 := HH.out.c1; clear hb)
      | (go_at_call 13; refine (check_no A B ca cb xs ys _ HH.out.tab HO.out).mono ?_; rintro e w9 ⟨rfl, hb⟩; replace HH := Lib.hid (HH.out.below hb); replace c0 := HH.out.c0; replace c1 := HH.out.c1; clear hb))
  go_ret
  exact ⟨rfl, HH.out.old⟩

set_option maxRecDepth 100000 in
set_option maxHeartbeats 8000000 in
theorem between_out (A B : Option Addr) (ca cb : Nat) (xs ys : List Int) (x at_ : Int) (w : World) (hT : TabIn w A B xs ys) (hf1 : xs.length ≤ 40) (hf2 : ys.length ≤ 40) (hO : Tb.okB xs ys = true) (hx : x < 0 ∨ 2097152 < x) :
    Calls Try.prog 7 #[.agg #[.slice A xs.length ca, .slice B ys.length cb], .int .i64 x, .int .u8 at_] w fun e w' => e = .returned (.bool true) ∧ Below w.heap.size w w' := by
  have HH := Lib.hid (Held.new (ca := ca) (cb := cb) hT)
  clear hT
  have HO := Lib.hid hO
  clear hO
  by_cases h1 : x < 0
  · clear hx
    go_enter Try.func7, Try.ntmps7
    go_wp2_with (first
      | (go_at_call 11; refine (awake_c _).mono ?_; rintro e w9 ⟨rfl, hb⟩; replace HH := Lib.hid (HH.out.below hb); replace c0 := HH.out.c0; replace c1 := HH.out.c1; clear hb)
      | (go_at_call 12; refine (few_yes A B ca cb xs ys _ hf1 hf2).mono ?_; rintro e w9 ⟨rfl, hb⟩; replace HH := Lib.hid (HH.out.below hb); replace c0 := HH.out.c0; replace c1 := HH.out.c1; clear hb)
      | (go_at_call 13; refine (check_ok A B ca cb xs ys _ HH.out.tab HO.out).mono ?_; rintro e w9 ⟨rfl, hb⟩; replace HH := Lib.hid (HH.out.below hb); replace c0 := HH.out.c0; replace c1 := HH.out.c1; clear hb))
    go_ret
    exact ⟨rfl, HH.out.old⟩
  · have h3 : 2097152 < x := by omega
    clear hx
    go_enter Try.func7, Try.ntmps7
    go_wp2_with (first
      | (go_at_call 11; refine (awake_c _).mono ?_; rintro e w9 ⟨rfl, hb⟩; replace HH := Lib.hid (HH.out.below hb); replace c0 := HH.out.c0; replace c1 := HH.out.c1; clear hb)
      | (go_at_call 12; refine (few_yes A B ca cb xs ys _ hf1 hf2).mono ?_; rintro e w9 ⟨rfl, hb⟩; replace HH := Lib.hid (HH.out.below hb); replace c0 := HH.out.c0; replace c1 := HH.out.c1; clear hb)
      | (go_at_call 13; refine (check_ok A B ca cb xs ys _ HH.out.tab HO.out).mono ?_; rintro e w9 ⟨rfl, hb⟩; replace HH := Lib.hid (HH.out.below hb); replace c0 := HH.out.c0; replace c1 := HH.out.c1; clear hb))
    go_ret
    exact ⟨rfl, HH.out.old⟩

set_option maxRecDepth 100000 in
set_option maxHeartbeats 8000000 in
theorem between_1_0 (b1 o1 b3 o3 ca cb : Nat) (xs ys : List Int) (x at_ : Int) (k : Nat) (a b sp m X0 X1 Y0 Y1 : Int) (w : World) (hT : TabIn w (some ⟨b1, o1, none⟩) (some ⟨b3, o3, none⟩) xs ys) (hO : Tb.okB xs ys = true) (hx0 : 0 ≤ x) (hx1 : x ≤ 2097152) (ht0 : 0 ≤ at_) (ht1 : at_ ≤ 255) (hk : k + 1 < xs.length) (hm1 : at_.tmod ((xs.length : Int) - 1) = (k : Int)) (hm2 : at_ % ((xs.length : Int) - 1) = (k : Int))
    (ha : Tb.atv xs ys x = a) (hb : Tb.atv xs ys (x + 1) = b) (hsp : Tb.st xs ys = sp) (hpk : Tb.pk xs ys = m) (cx0 : w.cell? ⟨b1, o1 + k, none⟩ = some (.int .i64 X0)) (cx1 : w.cell? ⟨b1, o1 + (k + 1), none⟩ = some (.int .i64 X1)) (cy0 : w.cell? ⟨b3, o3 + k, none⟩ = some (.int .i64 Y0)) (cy1 : w.cell? ⟨b3, o3 + (k + 1), none⟩ = some (.int .i64 Y1))
    (a0 : 0 ≤ a) (a1 : a ≤ 1048576) (g0 : 0 ≤ b) (g1 : b ≤ 1048576) (n1 : ¬ a - b < 0) (s1 : a - b ≤ sp) (s2 : a ≤ m) (p1 : decide (x < X0) = true) :
    Calls Try.prog 7 #[.agg #[.slice (some ⟨b1, o1, none⟩) xs.length ca, .slice (some ⟨b3, o3, none⟩) ys.length cb], .int .i64 x, .int .u8 at_] w fun e w' => e = .returned (.bool true) ∧ Below w.heap.size w w' := by
  have HH := Lib.hid (Held.new (ca := ca) (cb := cb) hT)
  have HO := Lib.hid hO
  have hok := (Tb.ok_iff xs ys).1 hO
  have h2 := hok.two
  have h16 := hok.most
  have hs := hok.same
  have hf1 : xs.length ≤ 40 := by omega
  have hf2 : ys.length ≤ 40 := by omega
  have CX0 := Lib.hid cx0
  have CX1 := Lib.hid cx1
  have CY0 := Lib.hid cy0
  have CY1 := Lib.hid cy1
  have ac : ∀ W, TabIn W (some ⟨b1, o1, none⟩) (some ⟨b3, o3, none⟩) xs ys → Calls Try.prog 17 #[.agg #[.slice (some ⟨b1, o1, none⟩) xs.length ca, .slice (some ⟨b3, o3, none⟩) ys.length cb], .int .i64 x] W fun e w' => e = .returned (.int .i64 a) ∧ Below W.heap.size W w' := fun W h => by have := atv_c _ _ ca cb xs ys x W h; rwa [ha] at this
  have bc : ∀ W, TabIn W (some ⟨b1, o1, none⟩) (some ⟨b3, o3, none⟩) xs ys → Calls Try.prog 17 #[.agg #[.slice (some ⟨b1, o1, none⟩) xs.length ca, .slice (some ⟨b3, o3, none⟩) ys.length cb], .int .i64 (x + 1)] W fun e w' => e = .returned (.int .i64 b) ∧ Below W.heap.size W w' := fun W h => by have := atv_c _ _ ca cb xs ys (x + 1) W h; rwa [hb] at this
  have sc : ∀ W, TabIn W (some ⟨b1, o1, none⟩) (some ⟨b3, o3, none⟩) xs ys → Calls Try.prog 21 #[.agg #[.slice (some ⟨b1, o1, none⟩) xs.length ca, .slice (some ⟨b3, o3, none⟩) ys.length cb]] W fun e w' => e = .returned (.int .i64 sp) ∧ Below W.heap.size W w' := fun W h => by have := st_c _ _ ca cb xs ys W h; rwa [hsp] at this
  have pc : ∀ W, TabIn W (some ⟨b1, o1, none⟩) (some ⟨b3, o3, none⟩) xs ys → Calls Try.prog 19 #[.agg #[.slice (some ⟨b1, o1, none⟩) xs.length ca, .slice (some ⟨b3, o3, none⟩) ys.length cb]] W fun e w' => e = .returned (.int .i64 m) ∧ Below W.heap.size W w' := fun W h => by have := peak_c _ _ ca cb xs ys W h; rwa [hpk] at this
  have AC := Lib.hid ac
  have BC := Lib.hid bc
  have SC := Lib.hid sc
  have PC := Lib.hid pc
  have i0 : k < xs.length := by omega
  have i1 : k < ys.length := by omega
  have i2 : (k : Int) + 1 < (xs.length : Int) := by omega
  have i3 : (k : Int) + 1 < (ys.length : Int) := by omega
  have i4 : 0 ≤ (k : Int) + 1 := by omega
  have i5 : ((k : Int) + 1).toNat = k + 1 := by omega
  have i6 : IntKind.i64.wrap ((k : Int) + 1) = (k : Int) + 1 := IntWalk.i64_in _ (by omega)
  have i7 : ((xs.length : Int) - 1 == 0) = false := by simp; omega
  have i8 : IntKind.i64.wrap at_ = at_ := IntWalk.i64_in _ (by omega)
  have HM1 := Lib.hid hm1
  have HM2 := Lib.hid hm2
  have d1 : decide (a - b ≤ sp) = true := by simpa using s1
  have d2 : decide (a ≤ m) = true := by simpa using s2
  have d3 : decide (0 ≤ a) = true := by simpa using a0
  clear hT hO hok hs ha hb hsp hpk ac bc sc pc cx0 cx1 cy0 cy1
  go_enter Try.func7, Try.ntmps7
  go_wp2_with fail
  refine (awake_c _).mono ?_
  rintro e w9 ⟨rfl, hb⟩
  replace HH := Lib.hid (HH.out.below hb)
  replace c0 := HH.out.c0
  replace c1 := HH.out.c1
  clear hb
  go_wp2_with fail
  refine (few_yes _ _ ca cb xs ys _ hf1 hf2).mono ?_
  rintro e w9 ⟨rfl, hb⟩
  replace HH := Lib.hid (HH.out.below hb)
  replace c0 := HH.out.c0
  replace c1 := HH.out.c1
  clear hb
  go_wp2_with fail
  refine (check_ok _ _ ca cb xs ys _ HH.out.tab HO.out).mono ?_
  rintro e w9 ⟨rfl, hb⟩
  replace HH := Lib.hid (HH.out.below hb)
  replace c0 := HH.out.c0
  replace c1 := HH.out.c1
  clear hb
  go_wp2_with fail
  refine (AC.out _ HH.out.tab).mono ?_
  rintro e w9 ⟨rfl, hb⟩
  replace HH := Lib.hid (HH.out.below hb)
  replace c0 := HH.out.c0
  replace c1 := HH.out.c1
  clear hb
  go_wp2_with fail
  refine (BC.out _ HH.out.tab).mono ?_
  rintro e w9 ⟨rfl, hb⟩
  replace HH := Lib.hid (HH.out.below hb)
  replace c0 := HH.out.c0
  replace c1 := HH.out.c1
  clear hb
  go_wp2_with fail
  have cx0 := HH.out.cell CX0.out
  have cx1 := HH.out.cell CX1.out
  have cy0 := HH.out.cell CY0.out
  have cy1 := HH.out.cell CY1.out
  go_quiet (fail)
  replace HH := Lib.hid (HH.out.below (below_drewN (Below.refl _ _) nq))
  clear cx0 cx1 cy0 cy1
  go_wp2_with fail
  refine (SC.out _ HH.out.tab).mono ?_
  rintro e w9 ⟨rfl, hb⟩
  replace HH := Lib.hid (HH.out.below hb)
  replace c0 := HH.out.c0
  replace c1 := HH.out.c1
  clear hb
  go_wp2_with fail
  refine (PC.out _ HH.out.tab).mono ?_
  rintro e w9 ⟨rfl, hb⟩
  replace HH := Lib.hid (HH.out.below hb)
  replace c0 := HH.out.c0
  replace c1 := HH.out.c1
  clear hb
  go_wp2_with fail
  go_ret
  exact ⟨rfl, HH.out.old⟩

set_option maxRecDepth 100000 in
set_option maxHeartbeats 8000000 in
theorem between_1_1 (b1 o1 b3 o3 ca cb : Nat) (xs ys : List Int) (x at_ : Int) (k : Nat) (a b sp m X0 X1 Y0 Y1 : Int) (w : World) (hT : TabIn w (some ⟨b1, o1, none⟩) (some ⟨b3, o3, none⟩) xs ys) (hO : Tb.okB xs ys = true) (hx0 : 0 ≤ x) (hx1 : x ≤ 2097152) (ht0 : 0 ≤ at_) (ht1 : at_ ≤ 255) (hk : k + 1 < xs.length) (hm1 : at_.tmod ((xs.length : Int) - 1) = (k : Int)) (hm2 : at_ % ((xs.length : Int) - 1) = (k : Int))
    (ha : Tb.atv xs ys x = a) (hb : Tb.atv xs ys (x + 1) = b) (hsp : Tb.st xs ys = sp) (hpk : Tb.pk xs ys = m) (cx0 : w.cell? ⟨b1, o1 + k, none⟩ = some (.int .i64 X0)) (cx1 : w.cell? ⟨b1, o1 + (k + 1), none⟩ = some (.int .i64 X1)) (cy0 : w.cell? ⟨b3, o3 + k, none⟩ = some (.int .i64 Y0)) (cy1 : w.cell? ⟨b3, o3 + (k + 1), none⟩ = some (.int .i64 Y1))
    (a0 : 0 ≤ a) (a1 : a ≤ 1048576) (g0 : 0 ≤ b) (g1 : b ≤ 1048576) (n1 : a - b < 0) (s1 : -(a - b) ≤ sp) (s2 : a ≤ m) (p1 : decide (x < X0) = true) :
    Calls Try.prog 7 #[.agg #[.slice (some ⟨b1, o1, none⟩) xs.length ca, .slice (some ⟨b3, o3, none⟩) ys.length cb], .int .i64 x, .int .u8 at_] w fun e w' => e = .returned (.bool true) ∧ Below w.heap.size w w' := by
  have HH := Lib.hid (Held.new (ca := ca) (cb := cb) hT)
  have HO := Lib.hid hO
  have hok := (Tb.ok_iff xs ys).1 hO
  have h2 := hok.two
  have h16 := hok.most
  have hs := hok.same
  have hf1 : xs.length ≤ 40 := by omega
  have hf2 : ys.length ≤ 40 := by omega
  have CX0 := Lib.hid cx0
  have CX1 := Lib.hid cx1
  have CY0 := Lib.hid cy0
  have CY1 := Lib.hid cy1
  have ac : ∀ W, TabIn W (some ⟨b1, o1, none⟩) (some ⟨b3, o3, none⟩) xs ys → Calls Try.prog 17 #[.agg #[.slice (some ⟨b1, o1, none⟩) xs.length ca, .slice (some ⟨b3, o3, none⟩) ys.length cb], .int .i64 x] W fun e w' => e = .returned (.int .i64 a) ∧ Below W.heap.size W w' := fun W h => by have := atv_c _ _ ca cb xs ys x W h; rwa [ha] at this
  have bc : ∀ W, TabIn W (some ⟨b1, o1, none⟩) (some ⟨b3, o3, none⟩) xs ys → Calls Try.prog 17 #[.agg #[.slice (some ⟨b1, o1, none⟩) xs.length ca, .slice (some ⟨b3, o3, none⟩) ys.length cb], .int .i64 (x + 1)] W fun e w' => e = .returned (.int .i64 b) ∧ Below W.heap.size W w' := fun W h => by have := atv_c _ _ ca cb xs ys (x + 1) W h; rwa [hb] at this
  have sc : ∀ W, TabIn W (some ⟨b1, o1, none⟩) (some ⟨b3, o3, none⟩) xs ys → Calls Try.prog 21 #[.agg #[.slice (some ⟨b1, o1, none⟩) xs.length ca, .slice (some ⟨b3, o3, none⟩) ys.length cb]] W fun e w' => e = .returned (.int .i64 sp) ∧ Below W.heap.size W w' := fun W h => by have := st_c _ _ ca cb xs ys W h; rwa [hsp] at this
  have pc : ∀ W, TabIn W (some ⟨b1, o1, none⟩) (some ⟨b3, o3, none⟩) xs ys → Calls Try.prog 19 #[.agg #[.slice (some ⟨b1, o1, none⟩) xs.length ca, .slice (some ⟨b3, o3, none⟩) ys.length cb]] W fun e w' => e = .returned (.int .i64 m) ∧ Below W.heap.size W w' := fun W h => by have := peak_c _ _ ca cb xs ys W h; rwa [hpk] at this
  have AC := Lib.hid ac
  have BC := Lib.hid bc
  have SC := Lib.hid sc
  have PC := Lib.hid pc
  have i0 : k < xs.length := by omega
  have i1 : k < ys.length := by omega
  have i2 : (k : Int) + 1 < (xs.length : Int) := by omega
  have i3 : (k : Int) + 1 < (ys.length : Int) := by omega
  have i4 : 0 ≤ (k : Int) + 1 := by omega
  have i5 : ((k : Int) + 1).toNat = k + 1 := by omega
  have i6 : IntKind.i64.wrap ((k : Int) + 1) = (k : Int) + 1 := IntWalk.i64_in _ (by omega)
  have i7 : ((xs.length : Int) - 1 == 0) = false := by simp; omega
  have i8 : IntKind.i64.wrap at_ = at_ := IntWalk.i64_in _ (by omega)
  have HM1 := Lib.hid hm1
  have HM2 := Lib.hid hm2
  have d1 : decide (-(a - b) ≤ sp) = true := by simpa using s1
  have d2 : decide (a ≤ m) = true := by simpa using s2
  have d3 : decide (0 ≤ a) = true := by simpa using a0
  clear hT hO hok hs ha hb hsp hpk ac bc sc pc cx0 cx1 cy0 cy1
  go_enter Try.func7, Try.ntmps7
  go_wp2_with fail
  refine (awake_c _).mono ?_
  rintro e w9 ⟨rfl, hb⟩
  replace HH := Lib.hid (HH.out.below hb)
  replace c0 := HH.out.c0
  replace c1 := HH.out.c1
  clear hb
  go_wp2_with fail
  refine (few_yes _ _ ca cb xs ys _ hf1 hf2).mono ?_
  rintro e w9 ⟨rfl, hb⟩
  replace HH := Lib.hid (HH.out.below hb)
  replace c0 := HH.out.c0
  replace c1 := HH.out.c1
  clear hb
  go_wp2_with fail
  refine (check_ok _ _ ca cb xs ys _ HH.out.tab HO.out).mono ?_
  rintro e w9 ⟨rfl, hb⟩
  replace HH := Lib.hid (HH.out.below hb)
  replace c0 := HH.out.c0
  replace c1 := HH.out.c1
  clear hb
  go_wp2_with fail
  refine (AC.out _ HH.out.tab).mono ?_
  rintro e w9 ⟨rfl, hb⟩
  replace HH := Lib.hid (HH.out.below hb)
  replace c0 := HH.out.c0
  replace c1 := HH.out.c1
  clear hb
  go_wp2_with fail
  refine (BC.out _ HH.out.tab).mono ?_
  rintro e w9 ⟨rfl, hb⟩
  replace HH := Lib.hid (HH.out.below hb)
  replace c0 := HH.out.c0
  replace c1 := HH.out.c1
  clear hb
  go_wp2_with fail
  have cx0 := HH.out.cell CX0.out
  have cx1 := HH.out.cell CX1.out
  have cy0 := HH.out.cell CY0.out
  have cy1 := HH.out.cell CY1.out
  go_quiet (fail)
  replace HH := Lib.hid (HH.out.below (below_drewN (Below.refl _ _) nq))
  clear cx0 cx1 cy0 cy1
  go_wp2_with fail
  refine (SC.out _ HH.out.tab).mono ?_
  rintro e w9 ⟨rfl, hb⟩
  replace HH := Lib.hid (HH.out.below hb)
  replace c0 := HH.out.c0
  replace c1 := HH.out.c1
  clear hb
  go_wp2_with fail
  refine (PC.out _ HH.out.tab).mono ?_
  rintro e w9 ⟨rfl, hb⟩
  replace HH := Lib.hid (HH.out.below hb)
  replace c0 := HH.out.c0
  replace c1 := HH.out.c1
  clear hb
  go_wp2_with fail
  go_ret
  exact ⟨rfl, HH.out.old⟩

set_option maxRecDepth 100000 in
set_option maxHeartbeats 8000000 in
theorem between_2_0 (b1 o1 b3 o3 ca cb : Nat) (xs ys : List Int) (x at_ : Int) (k : Nat) (a b sp m X0 X1 Y0 Y1 : Int) (w : World) (hT : TabIn w (some ⟨b1, o1, none⟩) (some ⟨b3, o3, none⟩) xs ys) (hO : Tb.okB xs ys = true) (hx0 : 0 ≤ x) (hx1 : x ≤ 2097152) (ht0 : 0 ≤ at_) (ht1 : at_ ≤ 255) (hk : k + 1 < xs.length) (hm1 : at_.tmod ((xs.length : Int) - 1) = (k : Int)) (hm2 : at_ % ((xs.length : Int) - 1) = (k : Int))
    (ha : Tb.atv xs ys x = a) (hb : Tb.atv xs ys (x + 1) = b) (hsp : Tb.st xs ys = sp) (hpk : Tb.pk xs ys = m) (cx0 : w.cell? ⟨b1, o1 + k, none⟩ = some (.int .i64 X0)) (cx1 : w.cell? ⟨b1, o1 + (k + 1), none⟩ = some (.int .i64 X1)) (cy0 : w.cell? ⟨b3, o3 + k, none⟩ = some (.int .i64 Y0)) (cy1 : w.cell? ⟨b3, o3 + (k + 1), none⟩ = some (.int .i64 Y1))
    (a0 : 0 ≤ a) (a1 : a ≤ 1048576) (g0 : 0 ≤ b) (g1 : b ≤ 1048576) (n1 : ¬ a - b < 0) (s1 : a - b ≤ sp) (s2 : a ≤ m) (p1 : decide (x < X0) = false) (p2 : decide (X1 < x) = true) :
    Calls Try.prog 7 #[.agg #[.slice (some ⟨b1, o1, none⟩) xs.length ca, .slice (some ⟨b3, o3, none⟩) ys.length cb], .int .i64 x, .int .u8 at_] w fun e w' => e = .returned (.bool true) ∧ Below w.heap.size w w' := by
  have HH := Lib.hid (Held.new (ca := ca) (cb := cb) hT)
  have HO := Lib.hid hO
  have hok := (Tb.ok_iff xs ys).1 hO
  have h2 := hok.two
  have h16 := hok.most
  have hs := hok.same
  have hf1 : xs.length ≤ 40 := by omega
  have hf2 : ys.length ≤ 40 := by omega
  have CX0 := Lib.hid cx0
  have CX1 := Lib.hid cx1
  have CY0 := Lib.hid cy0
  have CY1 := Lib.hid cy1
  have ac : ∀ W, TabIn W (some ⟨b1, o1, none⟩) (some ⟨b3, o3, none⟩) xs ys → Calls Try.prog 17 #[.agg #[.slice (some ⟨b1, o1, none⟩) xs.length ca, .slice (some ⟨b3, o3, none⟩) ys.length cb], .int .i64 x] W fun e w' => e = .returned (.int .i64 a) ∧ Below W.heap.size W w' := fun W h => by have := atv_c _ _ ca cb xs ys x W h; rwa [ha] at this
  have bc : ∀ W, TabIn W (some ⟨b1, o1, none⟩) (some ⟨b3, o3, none⟩) xs ys → Calls Try.prog 17 #[.agg #[.slice (some ⟨b1, o1, none⟩) xs.length ca, .slice (some ⟨b3, o3, none⟩) ys.length cb], .int .i64 (x + 1)] W fun e w' => e = .returned (.int .i64 b) ∧ Below W.heap.size W w' := fun W h => by have := atv_c _ _ ca cb xs ys (x + 1) W h; rwa [hb] at this
  have sc : ∀ W, TabIn W (some ⟨b1, o1, none⟩) (some ⟨b3, o3, none⟩) xs ys → Calls Try.prog 21 #[.agg #[.slice (some ⟨b1, o1, none⟩) xs.length ca, .slice (some ⟨b3, o3, none⟩) ys.length cb]] W fun e w' => e = .returned (.int .i64 sp) ∧ Below W.heap.size W w' := fun W h => by have := st_c _ _ ca cb xs ys W h; rwa [hsp] at this
  have pc : ∀ W, TabIn W (some ⟨b1, o1, none⟩) (some ⟨b3, o3, none⟩) xs ys → Calls Try.prog 19 #[.agg #[.slice (some ⟨b1, o1, none⟩) xs.length ca, .slice (some ⟨b3, o3, none⟩) ys.length cb]] W fun e w' => e = .returned (.int .i64 m) ∧ Below W.heap.size W w' := fun W h => by have := peak_c _ _ ca cb xs ys W h; rwa [hpk] at this
  have AC := Lib.hid ac
  have BC := Lib.hid bc
  have SC := Lib.hid sc
  have PC := Lib.hid pc
  have i0 : k < xs.length := by omega
  have i1 : k < ys.length := by omega
  have i2 : (k : Int) + 1 < (xs.length : Int) := by omega
  have i3 : (k : Int) + 1 < (ys.length : Int) := by omega
  have i4 : 0 ≤ (k : Int) + 1 := by omega
  have i5 : ((k : Int) + 1).toNat = k + 1 := by omega
  have i6 : IntKind.i64.wrap ((k : Int) + 1) = (k : Int) + 1 := IntWalk.i64_in _ (by omega)
  have i7 : ((xs.length : Int) - 1 == 0) = false := by simp; omega
  have i8 : IntKind.i64.wrap at_ = at_ := IntWalk.i64_in _ (by omega)
  have HM1 := Lib.hid hm1
  have HM2 := Lib.hid hm2
  have d1 : decide (a - b ≤ sp) = true := by simpa using s1
  have d2 : decide (a ≤ m) = true := by simpa using s2
  have d3 : decide (0 ≤ a) = true := by simpa using a0
  clear hT hO hok hs ha hb hsp hpk ac bc sc pc cx0 cx1 cy0 cy1
  go_enter Try.func7, Try.ntmps7
  go_wp2_with fail
  refine (awake_c _).mono ?_
  rintro e w9 ⟨rfl, hb⟩
  replace HH := Lib.hid (HH.out.below hb)
  replace c0 := HH.out.c0
  replace c1 := HH.out.c1
  clear hb
  go_wp2_with fail
  refine (few_yes _ _ ca cb xs ys _ hf1 hf2).mono ?_
  rintro e w9 ⟨rfl, hb⟩
  replace HH := Lib.hid (HH.out.below hb)
  replace c0 := HH.out.c0
  replace c1 := HH.out.c1
  clear hb
  go_wp2_with fail
  refine (check_ok _ _ ca cb xs ys _ HH.out.tab HO.out).mono ?_
  rintro e w9 ⟨rfl, hb⟩
  replace HH := Lib.hid (HH.out.below hb)
  replace c0 := HH.out.c0
  replace c1 := HH.out.c1
  clear hb
  go_wp2_with fail
  refine (AC.out _ HH.out.tab).mono ?_
  rintro e w9 ⟨rfl, hb⟩
  replace HH := Lib.hid (HH.out.below hb)
  replace c0 := HH.out.c0
  replace c1 := HH.out.c1
  clear hb
  go_wp2_with fail
  refine (BC.out _ HH.out.tab).mono ?_
  rintro e w9 ⟨rfl, hb⟩
  replace HH := Lib.hid (HH.out.below hb)
  replace c0 := HH.out.c0
  replace c1 := HH.out.c1
  clear hb
  go_wp2_with fail
  have cx0 := HH.out.cell CX0.out
  have cx1 := HH.out.cell CX1.out
  have cy0 := HH.out.cell CY0.out
  have cy1 := HH.out.cell CY1.out
  go_quiet (fail)
  replace HH := Lib.hid (HH.out.below (below_drewN (Below.refl _ _) nq))
  clear cx0 cx1 cy0 cy1
  go_wp2_with fail
  refine (SC.out _ HH.out.tab).mono ?_
  rintro e w9 ⟨rfl, hb⟩
  replace HH := Lib.hid (HH.out.below hb)
  replace c0 := HH.out.c0
  replace c1 := HH.out.c1
  clear hb
  go_wp2_with fail
  refine (PC.out _ HH.out.tab).mono ?_
  rintro e w9 ⟨rfl, hb⟩
  replace HH := Lib.hid (HH.out.below hb)
  replace c0 := HH.out.c0
  replace c1 := HH.out.c1
  clear hb
  go_wp2_with fail
  go_ret
  exact ⟨rfl, HH.out.old⟩

set_option maxRecDepth 100000 in
set_option maxHeartbeats 8000000 in
theorem between_2_1 (b1 o1 b3 o3 ca cb : Nat) (xs ys : List Int) (x at_ : Int) (k : Nat) (a b sp m X0 X1 Y0 Y1 : Int) (w : World) (hT : TabIn w (some ⟨b1, o1, none⟩) (some ⟨b3, o3, none⟩) xs ys) (hO : Tb.okB xs ys = true) (hx0 : 0 ≤ x) (hx1 : x ≤ 2097152) (ht0 : 0 ≤ at_) (ht1 : at_ ≤ 255) (hk : k + 1 < xs.length) (hm1 : at_.tmod ((xs.length : Int) - 1) = (k : Int)) (hm2 : at_ % ((xs.length : Int) - 1) = (k : Int))
    (ha : Tb.atv xs ys x = a) (hb : Tb.atv xs ys (x + 1) = b) (hsp : Tb.st xs ys = sp) (hpk : Tb.pk xs ys = m) (cx0 : w.cell? ⟨b1, o1 + k, none⟩ = some (.int .i64 X0)) (cx1 : w.cell? ⟨b1, o1 + (k + 1), none⟩ = some (.int .i64 X1)) (cy0 : w.cell? ⟨b3, o3 + k, none⟩ = some (.int .i64 Y0)) (cy1 : w.cell? ⟨b3, o3 + (k + 1), none⟩ = some (.int .i64 Y1))
    (a0 : 0 ≤ a) (a1 : a ≤ 1048576) (g0 : 0 ≤ b) (g1 : b ≤ 1048576) (n1 : a - b < 0) (s1 : -(a - b) ≤ sp) (s2 : a ≤ m) (p1 : decide (x < X0) = false) (p2 : decide (X1 < x) = true) :
    Calls Try.prog 7 #[.agg #[.slice (some ⟨b1, o1, none⟩) xs.length ca, .slice (some ⟨b3, o3, none⟩) ys.length cb], .int .i64 x, .int .u8 at_] w fun e w' => e = .returned (.bool true) ∧ Below w.heap.size w w' := by
  have HH := Lib.hid (Held.new (ca := ca) (cb := cb) hT)
  have HO := Lib.hid hO
  have hok := (Tb.ok_iff xs ys).1 hO
  have h2 := hok.two
  have h16 := hok.most
  have hs := hok.same
  have hf1 : xs.length ≤ 40 := by omega
  have hf2 : ys.length ≤ 40 := by omega
  have CX0 := Lib.hid cx0
  have CX1 := Lib.hid cx1
  have CY0 := Lib.hid cy0
  have CY1 := Lib.hid cy1
  have ac : ∀ W, TabIn W (some ⟨b1, o1, none⟩) (some ⟨b3, o3, none⟩) xs ys → Calls Try.prog 17 #[.agg #[.slice (some ⟨b1, o1, none⟩) xs.length ca, .slice (some ⟨b3, o3, none⟩) ys.length cb], .int .i64 x] W fun e w' => e = .returned (.int .i64 a) ∧ Below W.heap.size W w' := fun W h => by have := atv_c _ _ ca cb xs ys x W h; rwa [ha] at this
  have bc : ∀ W, TabIn W (some ⟨b1, o1, none⟩) (some ⟨b3, o3, none⟩) xs ys → Calls Try.prog 17 #[.agg #[.slice (some ⟨b1, o1, none⟩) xs.length ca, .slice (some ⟨b3, o3, none⟩) ys.length cb], .int .i64 (x + 1)] W fun e w' => e = .returned (.int .i64 b) ∧ Below W.heap.size W w' := fun W h => by have := atv_c _ _ ca cb xs ys (x + 1) W h; rwa [hb] at this
  have sc : ∀ W, TabIn W (some ⟨b1, o1, none⟩) (some ⟨b3, o3, none⟩) xs ys → Calls Try.prog 21 #[.agg #[.slice (some ⟨b1, o1, none⟩) xs.length ca, .slice (some ⟨b3, o3, none⟩) ys.length cb]] W fun e w' => e = .returned (.int .i64 sp) ∧ Below W.heap.size W w' := fun W h => by have := st_c _ _ ca cb xs ys W h; rwa [hsp] at this
  have pc : ∀ W, TabIn W (some ⟨b1, o1, none⟩) (some ⟨b3, o3, none⟩) xs ys → Calls Try.prog 19 #[.agg #[.slice (some ⟨b1, o1, none⟩) xs.length ca, .slice (some ⟨b3, o3, none⟩) ys.length cb]] W fun e w' => e = .returned (.int .i64 m) ∧ Below W.heap.size W w' := fun W h => by have := peak_c _ _ ca cb xs ys W h; rwa [hpk] at this
  have AC := Lib.hid ac
  have BC := Lib.hid bc
  have SC := Lib.hid sc
  have PC := Lib.hid pc
  have i0 : k < xs.length := by omega
  have i1 : k < ys.length := by omega
  have i2 : (k : Int) + 1 < (xs.length : Int) := by omega
  have i3 : (k : Int) + 1 < (ys.length : Int) := by omega
  have i4 : 0 ≤ (k : Int) + 1 := by omega
  have i5 : ((k : Int) + 1).toNat = k + 1 := by omega
  have i6 : IntKind.i64.wrap ((k : Int) + 1) = (k : Int) + 1 := IntWalk.i64_in _ (by omega)
  have i7 : ((xs.length : Int) - 1 == 0) = false := by simp; omega
  have i8 : IntKind.i64.wrap at_ = at_ := IntWalk.i64_in _ (by omega)
  have HM1 := Lib.hid hm1
  have HM2 := Lib.hid hm2
  have d1 : decide (-(a - b) ≤ sp) = true := by simpa using s1
  have d2 : decide (a ≤ m) = true := by simpa using s2
  have d3 : decide (0 ≤ a) = true := by simpa using a0
  clear hT hO hok hs ha hb hsp hpk ac bc sc pc cx0 cx1 cy0 cy1
  go_enter Try.func7, Try.ntmps7
  go_wp2_with fail
  refine (awake_c _).mono ?_
  rintro e w9 ⟨rfl, hb⟩
  replace HH := Lib.hid (HH.out.below hb)
  replace c0 := HH.out.c0
  replace c1 := HH.out.c1
  clear hb
  go_wp2_with fail
  refine (few_yes _ _ ca cb xs ys _ hf1 hf2).mono ?_
  rintro e w9 ⟨rfl, hb⟩
  replace HH := Lib.hid (HH.out.below hb)
  replace c0 := HH.out.c0
  replace c1 := HH.out.c1
  clear hb
  go_wp2_with fail
  refine (check_ok _ _ ca cb xs ys _ HH.out.tab HO.out).mono ?_
  rintro e w9 ⟨rfl, hb⟩
  replace HH := Lib.hid (HH.out.below hb)
  replace c0 := HH.out.c0
  replace c1 := HH.out.c1
  clear hb
  go_wp2_with fail
  refine (AC.out _ HH.out.tab).mono ?_
  rintro e w9 ⟨rfl, hb⟩
  replace HH := Lib.hid (HH.out.below hb)
  replace c0 := HH.out.c0
  replace c1 := HH.out.c1
  clear hb
  go_wp2_with fail
  refine (BC.out _ HH.out.tab).mono ?_
  rintro e w9 ⟨rfl, hb⟩
  replace HH := Lib.hid (HH.out.below hb)
  replace c0 := HH.out.c0
  replace c1 := HH.out.c1
  clear hb
  go_wp2_with fail
  have cx0 := HH.out.cell CX0.out
  have cx1 := HH.out.cell CX1.out
  have cy0 := HH.out.cell CY0.out
  have cy1 := HH.out.cell CY1.out
  go_quiet (fail)
  replace HH := Lib.hid (HH.out.below (below_drewN (Below.refl _ _) nq))
  clear cx0 cx1 cy0 cy1
  go_wp2_with fail
  refine (SC.out _ HH.out.tab).mono ?_
  rintro e w9 ⟨rfl, hb⟩
  replace HH := Lib.hid (HH.out.below hb)
  replace c0 := HH.out.c0
  replace c1 := HH.out.c1
  clear hb
  go_wp2_with fail
  refine (PC.out _ HH.out.tab).mono ?_
  rintro e w9 ⟨rfl, hb⟩
  replace HH := Lib.hid (HH.out.below hb)
  replace c0 := HH.out.c0
  replace c1 := HH.out.c1
  clear hb
  go_wp2_with fail
  go_ret
  exact ⟨rfl, HH.out.old⟩

set_option maxRecDepth 100000 in
set_option maxHeartbeats 8000000 in
theorem between_3a_0 (b1 o1 b3 o3 ca cb : Nat) (xs ys : List Int) (x at_ : Int) (k : Nat) (a b sp m X0 X1 Y0 Y1 : Int) (w : World) (hT : TabIn w (some ⟨b1, o1, none⟩) (some ⟨b3, o3, none⟩) xs ys) (hO : Tb.okB xs ys = true) (hx0 : 0 ≤ x) (hx1 : x ≤ 2097152) (ht0 : 0 ≤ at_) (ht1 : at_ ≤ 255) (hk : k + 1 < xs.length) (hm1 : at_.tmod ((xs.length : Int) - 1) = (k : Int)) (hm2 : at_ % ((xs.length : Int) - 1) = (k : Int))
    (ha : Tb.atv xs ys x = a) (hb : Tb.atv xs ys (x + 1) = b) (hsp : Tb.st xs ys = sp) (hpk : Tb.pk xs ys = m) (cx0 : w.cell? ⟨b1, o1 + k, none⟩ = some (.int .i64 X0)) (cx1 : w.cell? ⟨b1, o1 + (k + 1), none⟩ = some (.int .i64 X1)) (cy0 : w.cell? ⟨b3, o3 + k, none⟩ = some (.int .i64 Y0)) (cy1 : w.cell? ⟨b3, o3 + (k + 1), none⟩ = some (.int .i64 Y1))
    (a0 : 0 ≤ a) (a1 : a ≤ 1048576) (g0 : 0 ≤ b) (g1 : b ≤ 1048576) (n1 : ¬ a - b < 0) (s1 : a - b ≤ sp) (s2 : a ≤ m) (p1 : decide (x < X0) = false) (p2 : decide (X1 < x) = false) (z1 : Y0 < Y1) (_z2 : ¬ Y1 < Y0) (p3 : decide (Y0 ≤ a) = true) (p4 : decide (a ≤ Y1) = true) :
    Calls Try.prog 7 #[.agg #[.slice (some ⟨b1, o1, none⟩) xs.length ca, .slice (some ⟨b3, o3, none⟩) ys.length cb], .int .i64 x, .int .u8 at_] w fun e w' => e = .returned (.bool true) ∧ Below w.heap.size w w' := by
  have HH := Lib.hid (Held.new (ca := ca) (cb := cb) hT)
  have HO := Lib.hid hO
  have hok := (Tb.ok_iff xs ys).1 hO
  have h2 := hok.two
  have h16 := hok.most
  have hs := hok.same
  have hf1 : xs.length ≤ 40 := by omega
  have hf2 : ys.length ≤ 40 := by omega
  have CX0 := Lib.hid cx0
  have CX1 := Lib.hid cx1
  have CY0 := Lib.hid cy0
  have CY1 := Lib.hid cy1
  have ac : ∀ W, TabIn W (some ⟨b1, o1, none⟩) (some ⟨b3, o3, none⟩) xs ys → Calls Try.prog 17 #[.agg #[.slice (some ⟨b1, o1, none⟩) xs.length ca, .slice (some ⟨b3, o3, none⟩) ys.length cb], .int .i64 x] W fun e w' => e = .returned (.int .i64 a) ∧ Below W.heap.size W w' := fun W h => by have := atv_c _ _ ca cb xs ys x W h; rwa [ha] at this
  have bc : ∀ W, TabIn W (some ⟨b1, o1, none⟩) (some ⟨b3, o3, none⟩) xs ys → Calls Try.prog 17 #[.agg #[.slice (some ⟨b1, o1, none⟩) xs.length ca, .slice (some ⟨b3, o3, none⟩) ys.length cb], .int .i64 (x + 1)] W fun e w' => e = .returned (.int .i64 b) ∧ Below W.heap.size W w' := fun W h => by have := atv_c _ _ ca cb xs ys (x + 1) W h; rwa [hb] at this
  have sc : ∀ W, TabIn W (some ⟨b1, o1, none⟩) (some ⟨b3, o3, none⟩) xs ys → Calls Try.prog 21 #[.agg #[.slice (some ⟨b1, o1, none⟩) xs.length ca, .slice (some ⟨b3, o3, none⟩) ys.length cb]] W fun e w' => e = .returned (.int .i64 sp) ∧ Below W.heap.size W w' := fun W h => by have := st_c _ _ ca cb xs ys W h; rwa [hsp] at this
  have pc : ∀ W, TabIn W (some ⟨b1, o1, none⟩) (some ⟨b3, o3, none⟩) xs ys → Calls Try.prog 19 #[.agg #[.slice (some ⟨b1, o1, none⟩) xs.length ca, .slice (some ⟨b3, o3, none⟩) ys.length cb]] W fun e w' => e = .returned (.int .i64 m) ∧ Below W.heap.size W w' := fun W h => by have := peak_c _ _ ca cb xs ys W h; rwa [hpk] at this
  have AC := Lib.hid ac
  have BC := Lib.hid bc
  have SC := Lib.hid sc
  have PC := Lib.hid pc
  have i0 : k < xs.length := by omega
  have i1 : k < ys.length := by omega
  have i2 : (k : Int) + 1 < (xs.length : Int) := by omega
  have i3 : (k : Int) + 1 < (ys.length : Int) := by omega
  have i4 : 0 ≤ (k : Int) + 1 := by omega
  have i5 : ((k : Int) + 1).toNat = k + 1 := by omega
  have i6 : IntKind.i64.wrap ((k : Int) + 1) = (k : Int) + 1 := IntWalk.i64_in _ (by omega)
  have i7 : ((xs.length : Int) - 1 == 0) = false := by simp; omega
  have i8 : IntKind.i64.wrap at_ = at_ := IntWalk.i64_in _ (by omega)
  have HM1 := Lib.hid hm1
  have HM2 := Lib.hid hm2
  have d1 : decide (a - b ≤ sp) = true := by simpa using s1
  have d2 : decide (a ≤ m) = true := by simpa using s2
  have d3 : decide (0 ≤ a) = true := by simpa using a0
  clear hT hO hok hs ha hb hsp hpk ac bc sc pc cx0 cx1 cy0 cy1
  go_enter Try.func7, Try.ntmps7
  go_wp2_with fail
  refine (awake_c _).mono ?_
  rintro e w9 ⟨rfl, hb⟩
  replace HH := Lib.hid (HH.out.below hb)
  replace c0 := HH.out.c0
  replace c1 := HH.out.c1
  clear hb
  go_wp2_with fail
  refine (few_yes _ _ ca cb xs ys _ hf1 hf2).mono ?_
  rintro e w9 ⟨rfl, hb⟩
  replace HH := Lib.hid (HH.out.below hb)
  replace c0 := HH.out.c0
  replace c1 := HH.out.c1
  clear hb
  go_wp2_with fail
  refine (check_ok _ _ ca cb xs ys _ HH.out.tab HO.out).mono ?_
  rintro e w9 ⟨rfl, hb⟩
  replace HH := Lib.hid (HH.out.below hb)
  replace c0 := HH.out.c0
  replace c1 := HH.out.c1
  clear hb
  go_wp2_with fail
  refine (AC.out _ HH.out.tab).mono ?_
  rintro e w9 ⟨rfl, hb⟩
  replace HH := Lib.hid (HH.out.below hb)
  replace c0 := HH.out.c0
  replace c1 := HH.out.c1
  clear hb
  go_wp2_with fail
  refine (BC.out _ HH.out.tab).mono ?_
  rintro e w9 ⟨rfl, hb⟩
  replace HH := Lib.hid (HH.out.below hb)
  replace c0 := HH.out.c0
  replace c1 := HH.out.c1
  clear hb
  go_wp2_with fail
  have cx0 := HH.out.cell CX0.out
  have cx1 := HH.out.cell CX1.out
  have cy0 := HH.out.cell CY0.out
  have cy1 := HH.out.cell CY1.out
  go_quiet (fail)
  replace HH := Lib.hid (HH.out.below (below_drewN (Below.refl _ _) nq))
  clear cx0 cx1 cy0 cy1
  go_wp2_with fail
  refine (SC.out _ HH.out.tab).mono ?_
  rintro e w9 ⟨rfl, hb⟩
  replace HH := Lib.hid (HH.out.below hb)
  replace c0 := HH.out.c0
  replace c1 := HH.out.c1
  clear hb
  go_wp2_with fail
  refine (PC.out _ HH.out.tab).mono ?_
  rintro e w9 ⟨rfl, hb⟩
  replace HH := Lib.hid (HH.out.below hb)
  replace c0 := HH.out.c0
  replace c1 := HH.out.c1
  clear hb
  go_wp2_with fail
  go_ret
  exact ⟨rfl, HH.out.old⟩

set_option maxRecDepth 100000 in
set_option maxHeartbeats 8000000 in
theorem between_3a_1 (b1 o1 b3 o3 ca cb : Nat) (xs ys : List Int) (x at_ : Int) (k : Nat) (a b sp m X0 X1 Y0 Y1 : Int) (w : World) (hT : TabIn w (some ⟨b1, o1, none⟩) (some ⟨b3, o3, none⟩) xs ys) (hO : Tb.okB xs ys = true) (hx0 : 0 ≤ x) (hx1 : x ≤ 2097152) (ht0 : 0 ≤ at_) (ht1 : at_ ≤ 255) (hk : k + 1 < xs.length) (hm1 : at_.tmod ((xs.length : Int) - 1) = (k : Int)) (hm2 : at_ % ((xs.length : Int) - 1) = (k : Int))
    (ha : Tb.atv xs ys x = a) (hb : Tb.atv xs ys (x + 1) = b) (hsp : Tb.st xs ys = sp) (hpk : Tb.pk xs ys = m) (cx0 : w.cell? ⟨b1, o1 + k, none⟩ = some (.int .i64 X0)) (cx1 : w.cell? ⟨b1, o1 + (k + 1), none⟩ = some (.int .i64 X1)) (cy0 : w.cell? ⟨b3, o3 + k, none⟩ = some (.int .i64 Y0)) (cy1 : w.cell? ⟨b3, o3 + (k + 1), none⟩ = some (.int .i64 Y1))
    (a0 : 0 ≤ a) (a1 : a ≤ 1048576) (g0 : 0 ≤ b) (g1 : b ≤ 1048576) (n1 : a - b < 0) (s1 : -(a - b) ≤ sp) (s2 : a ≤ m) (p1 : decide (x < X0) = false) (p2 : decide (X1 < x) = false) (z1 : Y0 < Y1) (_z2 : ¬ Y1 < Y0) (p3 : decide (Y0 ≤ a) = true) (p4 : decide (a ≤ Y1) = true) :
    Calls Try.prog 7 #[.agg #[.slice (some ⟨b1, o1, none⟩) xs.length ca, .slice (some ⟨b3, o3, none⟩) ys.length cb], .int .i64 x, .int .u8 at_] w fun e w' => e = .returned (.bool true) ∧ Below w.heap.size w w' := by
  have HH := Lib.hid (Held.new (ca := ca) (cb := cb) hT)
  have HO := Lib.hid hO
  have hok := (Tb.ok_iff xs ys).1 hO
  have h2 := hok.two
  have h16 := hok.most
  have hs := hok.same
  have hf1 : xs.length ≤ 40 := by omega
  have hf2 : ys.length ≤ 40 := by omega
  have CX0 := Lib.hid cx0
  have CX1 := Lib.hid cx1
  have CY0 := Lib.hid cy0
  have CY1 := Lib.hid cy1
  have ac : ∀ W, TabIn W (some ⟨b1, o1, none⟩) (some ⟨b3, o3, none⟩) xs ys → Calls Try.prog 17 #[.agg #[.slice (some ⟨b1, o1, none⟩) xs.length ca, .slice (some ⟨b3, o3, none⟩) ys.length cb], .int .i64 x] W fun e w' => e = .returned (.int .i64 a) ∧ Below W.heap.size W w' := fun W h => by have := atv_c _ _ ca cb xs ys x W h; rwa [ha] at this
  have bc : ∀ W, TabIn W (some ⟨b1, o1, none⟩) (some ⟨b3, o3, none⟩) xs ys → Calls Try.prog 17 #[.agg #[.slice (some ⟨b1, o1, none⟩) xs.length ca, .slice (some ⟨b3, o3, none⟩) ys.length cb], .int .i64 (x + 1)] W fun e w' => e = .returned (.int .i64 b) ∧ Below W.heap.size W w' := fun W h => by have := atv_c _ _ ca cb xs ys (x + 1) W h; rwa [hb] at this
  have sc : ∀ W, TabIn W (some ⟨b1, o1, none⟩) (some ⟨b3, o3, none⟩) xs ys → Calls Try.prog 21 #[.agg #[.slice (some ⟨b1, o1, none⟩) xs.length ca, .slice (some ⟨b3, o3, none⟩) ys.length cb]] W fun e w' => e = .returned (.int .i64 sp) ∧ Below W.heap.size W w' := fun W h => by have := st_c _ _ ca cb xs ys W h; rwa [hsp] at this
  have pc : ∀ W, TabIn W (some ⟨b1, o1, none⟩) (some ⟨b3, o3, none⟩) xs ys → Calls Try.prog 19 #[.agg #[.slice (some ⟨b1, o1, none⟩) xs.length ca, .slice (some ⟨b3, o3, none⟩) ys.length cb]] W fun e w' => e = .returned (.int .i64 m) ∧ Below W.heap.size W w' := fun W h => by have := peak_c _ _ ca cb xs ys W h; rwa [hpk] at this
  have AC := Lib.hid ac
  have BC := Lib.hid bc
  have SC := Lib.hid sc
  have PC := Lib.hid pc
  have i0 : k < xs.length := by omega
  have i1 : k < ys.length := by omega
  have i2 : (k : Int) + 1 < (xs.length : Int) := by omega
  have i3 : (k : Int) + 1 < (ys.length : Int) := by omega
  have i4 : 0 ≤ (k : Int) + 1 := by omega
  have i5 : ((k : Int) + 1).toNat = k + 1 := by omega
  have i6 : IntKind.i64.wrap ((k : Int) + 1) = (k : Int) + 1 := IntWalk.i64_in _ (by omega)
  have i7 : ((xs.length : Int) - 1 == 0) = false := by simp; omega
  have i8 : IntKind.i64.wrap at_ = at_ := IntWalk.i64_in _ (by omega)
  have HM1 := Lib.hid hm1
  have HM2 := Lib.hid hm2
  have d1 : decide (-(a - b) ≤ sp) = true := by simpa using s1
  have d2 : decide (a ≤ m) = true := by simpa using s2
  have d3 : decide (0 ≤ a) = true := by simpa using a0
  clear hT hO hok hs ha hb hsp hpk ac bc sc pc cx0 cx1 cy0 cy1
  go_enter Try.func7, Try.ntmps7
  go_wp2_with fail
  refine (awake_c _).mono ?_
  rintro e w9 ⟨rfl, hb⟩
  replace HH := Lib.hid (HH.out.below hb)
  replace c0 := HH.out.c0
  replace c1 := HH.out.c1
  clear hb
  go_wp2_with fail
  refine (few_yes _ _ ca cb xs ys _ hf1 hf2).mono ?_
  rintro e w9 ⟨rfl, hb⟩
  replace HH := Lib.hid (HH.out.below hb)
  replace c0 := HH.out.c0
  replace c1 := HH.out.c1
  clear hb
  go_wp2_with fail
  refine (check_ok _ _ ca cb xs ys _ HH.out.tab HO.out).mono ?_
  rintro e w9 ⟨rfl, hb⟩
  replace HH := Lib.hid (HH.out.below hb)
  replace c0 := HH.out.c0
  replace c1 := HH.out.c1
  clear hb
  go_wp2_with fail
  refine (AC.out _ HH.out.tab).mono ?_
  rintro e w9 ⟨rfl, hb⟩
  replace HH := Lib.hid (HH.out.below hb)
  replace c0 := HH.out.c0
  replace c1 := HH.out.c1
  clear hb
  go_wp2_with fail
  refine (BC.out _ HH.out.tab).mono ?_
  rintro e w9 ⟨rfl, hb⟩
  replace HH := Lib.hid (HH.out.below hb)
  replace c0 := HH.out.c0
  replace c1 := HH.out.c1
  clear hb
  go_wp2_with fail
  have cx0 := HH.out.cell CX0.out
  have cx1 := HH.out.cell CX1.out
  have cy0 := HH.out.cell CY0.out
  have cy1 := HH.out.cell CY1.out
  go_quiet (fail)
  replace HH := Lib.hid (HH.out.below (below_drewN (Below.refl _ _) nq))
  clear cx0 cx1 cy0 cy1
  go_wp2_with fail
  refine (SC.out _ HH.out.tab).mono ?_
  rintro e w9 ⟨rfl, hb⟩
  replace HH := Lib.hid (HH.out.below hb)
  replace c0 := HH.out.c0
  replace c1 := HH.out.c1
  clear hb
  go_wp2_with fail
  refine (PC.out _ HH.out.tab).mono ?_
  rintro e w9 ⟨rfl, hb⟩
  replace HH := Lib.hid (HH.out.below hb)
  replace c0 := HH.out.c0
  replace c1 := HH.out.c1
  clear hb
  go_wp2_with fail
  go_ret
  exact ⟨rfl, HH.out.old⟩

set_option maxRecDepth 100000 in
set_option maxHeartbeats 8000000 in
theorem between_3b_0 (b1 o1 b3 o3 ca cb : Nat) (xs ys : List Int) (x at_ : Int) (k : Nat) (a b sp m X0 X1 Y0 Y1 : Int) (w : World) (hT : TabIn w (some ⟨b1, o1, none⟩) (some ⟨b3, o3, none⟩) xs ys) (hO : Tb.okB xs ys = true) (hx0 : 0 ≤ x) (hx1 : x ≤ 2097152) (ht0 : 0 ≤ at_) (ht1 : at_ ≤ 255) (hk : k + 1 < xs.length) (hm1 : at_.tmod ((xs.length : Int) - 1) = (k : Int)) (hm2 : at_ % ((xs.length : Int) - 1) = (k : Int))
    (ha : Tb.atv xs ys x = a) (hb : Tb.atv xs ys (x + 1) = b) (hsp : Tb.st xs ys = sp) (hpk : Tb.pk xs ys = m) (cx0 : w.cell? ⟨b1, o1 + k, none⟩ = some (.int .i64 X0)) (cx1 : w.cell? ⟨b1, o1 + (k + 1), none⟩ = some (.int .i64 X1)) (cy0 : w.cell? ⟨b3, o3 + k, none⟩ = some (.int .i64 Y0)) (cy1 : w.cell? ⟨b3, o3 + (k + 1), none⟩ = some (.int .i64 Y1))
    (a0 : 0 ≤ a) (a1 : a ≤ 1048576) (g0 : 0 ≤ b) (g1 : b ≤ 1048576) (n1 : ¬ a - b < 0) (s1 : a - b ≤ sp) (s2 : a ≤ m) (p1 : decide (x < X0) = false) (p2 : decide (X1 < x) = false) (_z1 : ¬ Y0 < Y1) (z2 : Y1 < Y0) (p3 : decide (Y1 ≤ a) = true) (p4 : decide (a ≤ Y0) = true) :
    Calls Try.prog 7 #[.agg #[.slice (some ⟨b1, o1, none⟩) xs.length ca, .slice (some ⟨b3, o3, none⟩) ys.length cb], .int .i64 x, .int .u8 at_] w fun e w' => e = .returned (.bool true) ∧ Below w.heap.size w w' := by
  have HH := Lib.hid (Held.new (ca := ca) (cb := cb) hT)
  have HO := Lib.hid hO
  have hok := (Tb.ok_iff xs ys).1 hO
  have h2 := hok.two
  have h16 := hok.most
  have hs := hok.same
  have hf1 : xs.length ≤ 40 := by omega
  have hf2 : ys.length ≤ 40 := by omega
  have CX0 := Lib.hid cx0
  have CX1 := Lib.hid cx1
  have CY0 := Lib.hid cy0
  have CY1 := Lib.hid cy1
  have ac : ∀ W, TabIn W (some ⟨b1, o1, none⟩) (some ⟨b3, o3, none⟩) xs ys → Calls Try.prog 17 #[.agg #[.slice (some ⟨b1, o1, none⟩) xs.length ca, .slice (some ⟨b3, o3, none⟩) ys.length cb], .int .i64 x] W fun e w' => e = .returned (.int .i64 a) ∧ Below W.heap.size W w' := fun W h => by have := atv_c _ _ ca cb xs ys x W h; rwa [ha] at this
  have bc : ∀ W, TabIn W (some ⟨b1, o1, none⟩) (some ⟨b3, o3, none⟩) xs ys → Calls Try.prog 17 #[.agg #[.slice (some ⟨b1, o1, none⟩) xs.length ca, .slice (some ⟨b3, o3, none⟩) ys.length cb], .int .i64 (x + 1)] W fun e w' => e = .returned (.int .i64 b) ∧ Below W.heap.size W w' := fun W h => by have := atv_c _ _ ca cb xs ys (x + 1) W h; rwa [hb] at this
  have sc : ∀ W, TabIn W (some ⟨b1, o1, none⟩) (some ⟨b3, o3, none⟩) xs ys → Calls Try.prog 21 #[.agg #[.slice (some ⟨b1, o1, none⟩) xs.length ca, .slice (some ⟨b3, o3, none⟩) ys.length cb]] W fun e w' => e = .returned (.int .i64 sp) ∧ Below W.heap.size W w' := fun W h => by have := st_c _ _ ca cb xs ys W h; rwa [hsp] at this
  have pc : ∀ W, TabIn W (some ⟨b1, o1, none⟩) (some ⟨b3, o3, none⟩) xs ys → Calls Try.prog 19 #[.agg #[.slice (some ⟨b1, o1, none⟩) xs.length ca, .slice (some ⟨b3, o3, none⟩) ys.length cb]] W fun e w' => e = .returned (.int .i64 m) ∧ Below W.heap.size W w' := fun W h => by have := peak_c _ _ ca cb xs ys W h; rwa [hpk] at this
  have AC := Lib.hid ac
  have BC := Lib.hid bc
  have SC := Lib.hid sc
  have PC := Lib.hid pc
  have i0 : k < xs.length := by omega
  have i1 : k < ys.length := by omega
  have i2 : (k : Int) + 1 < (xs.length : Int) := by omega
  have i3 : (k : Int) + 1 < (ys.length : Int) := by omega
  have i4 : 0 ≤ (k : Int) + 1 := by omega
  have i5 : ((k : Int) + 1).toNat = k + 1 := by omega
  have i6 : IntKind.i64.wrap ((k : Int) + 1) = (k : Int) + 1 := IntWalk.i64_in _ (by omega)
  have i7 : ((xs.length : Int) - 1 == 0) = false := by simp; omega
  have i8 : IntKind.i64.wrap at_ = at_ := IntWalk.i64_in _ (by omega)
  have HM1 := Lib.hid hm1
  have HM2 := Lib.hid hm2
  have d1 : decide (a - b ≤ sp) = true := by simpa using s1
  have d2 : decide (a ≤ m) = true := by simpa using s2
  have d3 : decide (0 ≤ a) = true := by simpa using a0
  clear hT hO hok hs ha hb hsp hpk ac bc sc pc cx0 cx1 cy0 cy1
  go_enter Try.func7, Try.ntmps7
  go_wp2_with fail
  refine (awake_c _).mono ?_
  rintro e w9 ⟨rfl, hb⟩
  replace HH := Lib.hid (HH.out.below hb)
  replace c0 := HH.out.c0
  replace c1 := HH.out.c1
  clear hb
  go_wp2_with fail
  refine (few_yes _ _ ca cb xs ys _ hf1 hf2).mono ?_
  rintro e w9 ⟨rfl, hb⟩
  replace HH := Lib.hid (HH.out.below hb)
  replace c0 := HH.out.c0
  replace c1 := HH.out.c1
  clear hb
  go_wp2_with fail
  refine (check_ok _ _ ca cb xs ys _ HH.out.tab HO.out).mono ?_
  rintro e w9 ⟨rfl, hb⟩
  replace HH := Lib.hid (HH.out.below hb)
  replace c0 := HH.out.c0
  replace c1 := HH.out.c1
  clear hb
  go_wp2_with fail
  refine (AC.out _ HH.out.tab).mono ?_
  rintro e w9 ⟨rfl, hb⟩
  replace HH := Lib.hid (HH.out.below hb)
  replace c0 := HH.out.c0
  replace c1 := HH.out.c1
  clear hb
  go_wp2_with fail
  refine (BC.out _ HH.out.tab).mono ?_
  rintro e w9 ⟨rfl, hb⟩
  replace HH := Lib.hid (HH.out.below hb)
  replace c0 := HH.out.c0
  replace c1 := HH.out.c1
  clear hb
  go_wp2_with fail
  have cx0 := HH.out.cell CX0.out
  have cx1 := HH.out.cell CX1.out
  have cy0 := HH.out.cell CY0.out
  have cy1 := HH.out.cell CY1.out
  go_quiet (fail)
  replace HH := Lib.hid (HH.out.below (below_drewN (Below.refl _ _) nq))
  clear cx0 cx1 cy0 cy1
  go_wp2_with fail
  refine (SC.out _ HH.out.tab).mono ?_
  rintro e w9 ⟨rfl, hb⟩
  replace HH := Lib.hid (HH.out.below hb)
  replace c0 := HH.out.c0
  replace c1 := HH.out.c1
  clear hb
  go_wp2_with fail
  refine (PC.out _ HH.out.tab).mono ?_
  rintro e w9 ⟨rfl, hb⟩
  replace HH := Lib.hid (HH.out.below hb)
  replace c0 := HH.out.c0
  replace c1 := HH.out.c1
  clear hb
  go_wp2_with fail
  go_ret
  exact ⟨rfl, HH.out.old⟩

set_option maxRecDepth 100000 in
set_option maxHeartbeats 8000000 in
theorem between_3b_1 (b1 o1 b3 o3 ca cb : Nat) (xs ys : List Int) (x at_ : Int) (k : Nat) (a b sp m X0 X1 Y0 Y1 : Int) (w : World) (hT : TabIn w (some ⟨b1, o1, none⟩) (some ⟨b3, o3, none⟩) xs ys) (hO : Tb.okB xs ys = true) (hx0 : 0 ≤ x) (hx1 : x ≤ 2097152) (ht0 : 0 ≤ at_) (ht1 : at_ ≤ 255) (hk : k + 1 < xs.length) (hm1 : at_.tmod ((xs.length : Int) - 1) = (k : Int)) (hm2 : at_ % ((xs.length : Int) - 1) = (k : Int))
    (ha : Tb.atv xs ys x = a) (hb : Tb.atv xs ys (x + 1) = b) (hsp : Tb.st xs ys = sp) (hpk : Tb.pk xs ys = m) (cx0 : w.cell? ⟨b1, o1 + k, none⟩ = some (.int .i64 X0)) (cx1 : w.cell? ⟨b1, o1 + (k + 1), none⟩ = some (.int .i64 X1)) (cy0 : w.cell? ⟨b3, o3 + k, none⟩ = some (.int .i64 Y0)) (cy1 : w.cell? ⟨b3, o3 + (k + 1), none⟩ = some (.int .i64 Y1))
    (a0 : 0 ≤ a) (a1 : a ≤ 1048576) (g0 : 0 ≤ b) (g1 : b ≤ 1048576) (n1 : a - b < 0) (s1 : -(a - b) ≤ sp) (s2 : a ≤ m) (p1 : decide (x < X0) = false) (p2 : decide (X1 < x) = false) (_z1 : ¬ Y0 < Y1) (z2 : Y1 < Y0) (p3 : decide (Y1 ≤ a) = true) (p4 : decide (a ≤ Y0) = true) :
    Calls Try.prog 7 #[.agg #[.slice (some ⟨b1, o1, none⟩) xs.length ca, .slice (some ⟨b3, o3, none⟩) ys.length cb], .int .i64 x, .int .u8 at_] w fun e w' => e = .returned (.bool true) ∧ Below w.heap.size w w' := by
  have HH := Lib.hid (Held.new (ca := ca) (cb := cb) hT)
  have HO := Lib.hid hO
  have hok := (Tb.ok_iff xs ys).1 hO
  have h2 := hok.two
  have h16 := hok.most
  have hs := hok.same
  have hf1 : xs.length ≤ 40 := by omega
  have hf2 : ys.length ≤ 40 := by omega
  have CX0 := Lib.hid cx0
  have CX1 := Lib.hid cx1
  have CY0 := Lib.hid cy0
  have CY1 := Lib.hid cy1
  have ac : ∀ W, TabIn W (some ⟨b1, o1, none⟩) (some ⟨b3, o3, none⟩) xs ys → Calls Try.prog 17 #[.agg #[.slice (some ⟨b1, o1, none⟩) xs.length ca, .slice (some ⟨b3, o3, none⟩) ys.length cb], .int .i64 x] W fun e w' => e = .returned (.int .i64 a) ∧ Below W.heap.size W w' := fun W h => by have := atv_c _ _ ca cb xs ys x W h; rwa [ha] at this
  have bc : ∀ W, TabIn W (some ⟨b1, o1, none⟩) (some ⟨b3, o3, none⟩) xs ys → Calls Try.prog 17 #[.agg #[.slice (some ⟨b1, o1, none⟩) xs.length ca, .slice (some ⟨b3, o3, none⟩) ys.length cb], .int .i64 (x + 1)] W fun e w' => e = .returned (.int .i64 b) ∧ Below W.heap.size W w' := fun W h => by have := atv_c _ _ ca cb xs ys (x + 1) W h; rwa [hb] at this
  have sc : ∀ W, TabIn W (some ⟨b1, o1, none⟩) (some ⟨b3, o3, none⟩) xs ys → Calls Try.prog 21 #[.agg #[.slice (some ⟨b1, o1, none⟩) xs.length ca, .slice (some ⟨b3, o3, none⟩) ys.length cb]] W fun e w' => e = .returned (.int .i64 sp) ∧ Below W.heap.size W w' := fun W h => by have := st_c _ _ ca cb xs ys W h; rwa [hsp] at this
  have pc : ∀ W, TabIn W (some ⟨b1, o1, none⟩) (some ⟨b3, o3, none⟩) xs ys → Calls Try.prog 19 #[.agg #[.slice (some ⟨b1, o1, none⟩) xs.length ca, .slice (some ⟨b3, o3, none⟩) ys.length cb]] W fun e w' => e = .returned (.int .i64 m) ∧ Below W.heap.size W w' := fun W h => by have := peak_c _ _ ca cb xs ys W h; rwa [hpk] at this
  have AC := Lib.hid ac
  have BC := Lib.hid bc
  have SC := Lib.hid sc
  have PC := Lib.hid pc
  have i0 : k < xs.length := by omega
  have i1 : k < ys.length := by omega
  have i2 : (k : Int) + 1 < (xs.length : Int) := by omega
  have i3 : (k : Int) + 1 < (ys.length : Int) := by omega
  have i4 : 0 ≤ (k : Int) + 1 := by omega
  have i5 : ((k : Int) + 1).toNat = k + 1 := by omega
  have i6 : IntKind.i64.wrap ((k : Int) + 1) = (k : Int) + 1 := IntWalk.i64_in _ (by omega)
  have i7 : ((xs.length : Int) - 1 == 0) = false := by simp; omega
  have i8 : IntKind.i64.wrap at_ = at_ := IntWalk.i64_in _ (by omega)
  have HM1 := Lib.hid hm1
  have HM2 := Lib.hid hm2
  have d1 : decide (-(a - b) ≤ sp) = true := by simpa using s1
  have d2 : decide (a ≤ m) = true := by simpa using s2
  have d3 : decide (0 ≤ a) = true := by simpa using a0
  clear hT hO hok hs ha hb hsp hpk ac bc sc pc cx0 cx1 cy0 cy1
  go_enter Try.func7, Try.ntmps7
  go_wp2_with fail
  refine (awake_c _).mono ?_
  rintro e w9 ⟨rfl, hb⟩
  replace HH := Lib.hid (HH.out.below hb)
  replace c0 := HH.out.c0
  replace c1 := HH.out.c1
  clear hb
  go_wp2_with fail
  refine (few_yes _ _ ca cb xs ys _ hf1 hf2).mono ?_
  rintro e w9 ⟨rfl, hb⟩
  replace HH := Lib.hid (HH.out.below hb)
  replace c0 := HH.out.c0
  replace c1 := HH.out.c1
  clear hb
  go_wp2_with fail
  refine (check_ok _ _ ca cb xs ys _ HH.out.tab HO.out).mono ?_
  rintro e w9 ⟨rfl, hb⟩
  replace HH := Lib.hid (HH.out.below hb)
  replace c0 := HH.out.c0
  replace c1 := HH.out.c1
  clear hb
  go_wp2_with fail
  refine (AC.out _ HH.out.tab).mono ?_
  rintro e w9 ⟨rfl, hb⟩
  replace HH := Lib.hid (HH.out.below hb)
  replace c0 := HH.out.c0
  replace c1 := HH.out.c1
  clear hb
  go_wp2_with fail
  refine (BC.out _ HH.out.tab).mono ?_
  rintro e w9 ⟨rfl, hb⟩
  replace HH := Lib.hid (HH.out.below hb)
  replace c0 := HH.out.c0
  replace c1 := HH.out.c1
  clear hb
  go_wp2_with fail
  have cx0 := HH.out.cell CX0.out
  have cx1 := HH.out.cell CX1.out
  have cy0 := HH.out.cell CY0.out
  have cy1 := HH.out.cell CY1.out
  go_quiet (fail)
  replace HH := Lib.hid (HH.out.below (below_drewN (Below.refl _ _) nq))
  clear cx0 cx1 cy0 cy1
  go_wp2_with fail
  refine (SC.out _ HH.out.tab).mono ?_
  rintro e w9 ⟨rfl, hb⟩
  replace HH := Lib.hid (HH.out.below hb)
  replace c0 := HH.out.c0
  replace c1 := HH.out.c1
  clear hb
  go_wp2_with fail
  refine (PC.out _ HH.out.tab).mono ?_
  rintro e w9 ⟨rfl, hb⟩
  replace HH := Lib.hid (HH.out.below hb)
  replace c0 := HH.out.c0
  replace c1 := HH.out.c1
  clear hb
  go_wp2_with fail
  go_ret
  exact ⟨rfl, HH.out.old⟩

set_option maxRecDepth 100000 in
set_option maxHeartbeats 8000000 in
theorem between_3c_0 (b1 o1 b3 o3 ca cb : Nat) (xs ys : List Int) (x at_ : Int) (k : Nat) (a b sp m X0 X1 Y0 Y1 : Int) (w : World) (hT : TabIn w (some ⟨b1, o1, none⟩) (some ⟨b3, o3, none⟩) xs ys) (hO : Tb.okB xs ys = true) (hx0 : 0 ≤ x) (hx1 : x ≤ 2097152) (ht0 : 0 ≤ at_) (ht1 : at_ ≤ 255) (hk : k + 1 < xs.length) (hm1 : at_.tmod ((xs.length : Int) - 1) = (k : Int)) (hm2 : at_ % ((xs.length : Int) - 1) = (k : Int))
    (ha : Tb.atv xs ys x = a) (hb : Tb.atv xs ys (x + 1) = b) (hsp : Tb.st xs ys = sp) (hpk : Tb.pk xs ys = m) (cx0 : w.cell? ⟨b1, o1 + k, none⟩ = some (.int .i64 X0)) (cx1 : w.cell? ⟨b1, o1 + (k + 1), none⟩ = some (.int .i64 X1)) (cy0 : w.cell? ⟨b3, o3 + k, none⟩ = some (.int .i64 Y0)) (cy1 : w.cell? ⟨b3, o3 + (k + 1), none⟩ = some (.int .i64 Y1))
    (a0 : 0 ≤ a) (a1 : a ≤ 1048576) (g0 : 0 ≤ b) (g1 : b ≤ 1048576) (n1 : ¬ a - b < 0) (s1 : a - b ≤ sp) (s2 : a ≤ m) (p1 : decide (x < X0) = false) (p2 : decide (X1 < x) = false) (z3 : Y1 = Y0) (p3 : decide (Y0 ≤ a) = true) (p4 : decide (a ≤ Y0) = true) :
    Calls Try.prog 7 #[.agg #[.slice (some ⟨b1, o1, none⟩) xs.length ca, .slice (some ⟨b3, o3, none⟩) ys.length cb], .int .i64 x, .int .u8 at_] w fun e w' => e = .returned (.bool true) ∧ Below w.heap.size w w' := by
  subst z3
  have HH := Lib.hid (Held.new (ca := ca) (cb := cb) hT)
  have HO := Lib.hid hO
  have hok := (Tb.ok_iff xs ys).1 hO
  have h2 := hok.two
  have h16 := hok.most
  have hs := hok.same
  have hf1 : xs.length ≤ 40 := by omega
  have hf2 : ys.length ≤ 40 := by omega
  have CX0 := Lib.hid cx0
  have CX1 := Lib.hid cx1
  have CY0 := Lib.hid cy0
  have CY1 := Lib.hid cy1
  have ac : ∀ W, TabIn W (some ⟨b1, o1, none⟩) (some ⟨b3, o3, none⟩) xs ys → Calls Try.prog 17 #[.agg #[.slice (some ⟨b1, o1, none⟩) xs.length ca, .slice (some ⟨b3, o3, none⟩) ys.length cb], .int .i64 x] W fun e w' => e = .returned (.int .i64 a) ∧ Below W.heap.size W w' := fun W h => by have := atv_c _ _ ca cb xs ys x W h; rwa [ha] at this
  have bc : ∀ W, TabIn W (some ⟨b1, o1, none⟩) (some ⟨b3, o3, none⟩) xs ys → Calls Try.prog 17 #[.agg #[.slice (some ⟨b1, o1, none⟩) xs.length ca, .slice (some ⟨b3, o3, none⟩) ys.length cb], .int .i64 (x + 1)] W fun e w' => e = .returned (.int .i64 b) ∧ Below W.heap.size W w' := fun W h => by have := atv_c _ _ ca cb xs ys (x + 1) W h; rwa [hb] at this
  have sc : ∀ W, TabIn W (some ⟨b1, o1, none⟩) (some ⟨b3, o3, none⟩) xs ys → Calls Try.prog 21 #[.agg #[.slice (some ⟨b1, o1, none⟩) xs.length ca, .slice (some ⟨b3, o3, none⟩) ys.length cb]] W fun e w' => e = .returned (.int .i64 sp) ∧ Below W.heap.size W w' := fun W h => by have := st_c _ _ ca cb xs ys W h; rwa [hsp] at this
  have pc : ∀ W, TabIn W (some ⟨b1, o1, none⟩) (some ⟨b3, o3, none⟩) xs ys → Calls Try.prog 19 #[.agg #[.slice (some ⟨b1, o1, none⟩) xs.length ca, .slice (some ⟨b3, o3, none⟩) ys.length cb]] W fun e w' => e = .returned (.int .i64 m) ∧ Below W.heap.size W w' := fun W h => by have := peak_c _ _ ca cb xs ys W h; rwa [hpk] at this
  have AC := Lib.hid ac
  have BC := Lib.hid bc
  have SC := Lib.hid sc
  have PC := Lib.hid pc
  have i0 : k < xs.length := by omega
  have i1 : k < ys.length := by omega
  have i2 : (k : Int) + 1 < (xs.length : Int) := by omega
  have i3 : (k : Int) + 1 < (ys.length : Int) := by omega
  have i4 : 0 ≤ (k : Int) + 1 := by omega
  have i5 : ((k : Int) + 1).toNat = k + 1 := by omega
  have i6 : IntKind.i64.wrap ((k : Int) + 1) = (k : Int) + 1 := IntWalk.i64_in _ (by omega)
  have i7 : ((xs.length : Int) - 1 == 0) = false := by simp; omega
  have i8 : IntKind.i64.wrap at_ = at_ := IntWalk.i64_in _ (by omega)
  have HM1 := Lib.hid hm1
  have HM2 := Lib.hid hm2
  have d1 : decide (a - b ≤ sp) = true := by simpa using s1
  have d2 : decide (a ≤ m) = true := by simpa using s2
  have d3 : decide (0 ≤ a) = true := by simpa using a0
  clear hT hO hok hs ha hb hsp hpk ac bc sc pc cx0 cx1 cy0 cy1
  go_enter Try.func7, Try.ntmps7
  go_wp2_with fail
  refine (awake_c _).mono ?_
  rintro e w9 ⟨rfl, hb⟩
  replace HH := Lib.hid (HH.out.below hb)
  replace c0 := HH.out.c0
  replace c1 := HH.out.c1
  clear hb
  go_wp2_with fail
  refine (few_yes _ _ ca cb xs ys _ hf1 hf2).mono ?_
  rintro e w9 ⟨rfl, hb⟩
  replace HH := Lib.hid (HH.out.below hb)
  replace c0 := HH.out.c0
  replace c1 := HH.out.c1
  clear hb
  go_wp2_with fail
  refine (check_ok _ _ ca cb xs ys _ HH.out.tab HO.out).mono ?_
  rintro e w9 ⟨rfl, hb⟩
  replace HH := Lib.hid (HH.out.below hb)
  replace c0 := HH.out.c0
  replace c1 := HH.out.c1
  clear hb
  go_wp2_with fail
  refine (AC.out _ HH.out.tab).mono ?_
  rintro e w9 ⟨rfl, hb⟩
  replace HH := Lib.hid (HH.out.below hb)
  replace c0 := HH.out.c0
  replace c1 := HH.out.c1
  clear hb
  go_wp2_with fail
  refine (BC.out _ HH.out.tab).mono ?_
  rintro e w9 ⟨rfl, hb⟩
  replace HH := Lib.hid (HH.out.below hb)
  replace c0 := HH.out.c0
  replace c1 := HH.out.c1
  clear hb
  go_wp2_with fail
  have cx0 := HH.out.cell CX0.out
  have cx1 := HH.out.cell CX1.out
  have cy0 := HH.out.cell CY0.out
  have cy1 := HH.out.cell CY1.out
  go_quiet (fail)
  replace HH := Lib.hid (HH.out.below (below_drewN (Below.refl _ _) nq))
  clear cx0 cx1 cy0 cy1
  go_wp2_with fail
  refine (SC.out _ HH.out.tab).mono ?_
  rintro e w9 ⟨rfl, hb⟩
  replace HH := Lib.hid (HH.out.below hb)
  replace c0 := HH.out.c0
  replace c1 := HH.out.c1
  clear hb
  go_wp2_with fail
  refine (PC.out _ HH.out.tab).mono ?_
  rintro e w9 ⟨rfl, hb⟩
  replace HH := Lib.hid (HH.out.below hb)
  replace c0 := HH.out.c0
  replace c1 := HH.out.c1
  clear hb
  go_wp2_with fail
  go_ret
  exact ⟨rfl, HH.out.old⟩

set_option maxRecDepth 100000 in
set_option maxHeartbeats 8000000 in
theorem between_3c_1 (b1 o1 b3 o3 ca cb : Nat) (xs ys : List Int) (x at_ : Int) (k : Nat) (a b sp m X0 X1 Y0 Y1 : Int) (w : World) (hT : TabIn w (some ⟨b1, o1, none⟩) (some ⟨b3, o3, none⟩) xs ys) (hO : Tb.okB xs ys = true) (hx0 : 0 ≤ x) (hx1 : x ≤ 2097152) (ht0 : 0 ≤ at_) (ht1 : at_ ≤ 255) (hk : k + 1 < xs.length) (hm1 : at_.tmod ((xs.length : Int) - 1) = (k : Int)) (hm2 : at_ % ((xs.length : Int) - 1) = (k : Int))
    (ha : Tb.atv xs ys x = a) (hb : Tb.atv xs ys (x + 1) = b) (hsp : Tb.st xs ys = sp) (hpk : Tb.pk xs ys = m) (cx0 : w.cell? ⟨b1, o1 + k, none⟩ = some (.int .i64 X0)) (cx1 : w.cell? ⟨b1, o1 + (k + 1), none⟩ = some (.int .i64 X1)) (cy0 : w.cell? ⟨b3, o3 + k, none⟩ = some (.int .i64 Y0)) (cy1 : w.cell? ⟨b3, o3 + (k + 1), none⟩ = some (.int .i64 Y1))
    (a0 : 0 ≤ a) (a1 : a ≤ 1048576) (g0 : 0 ≤ b) (g1 : b ≤ 1048576) (n1 : a - b < 0) (s1 : -(a - b) ≤ sp) (s2 : a ≤ m) (p1 : decide (x < X0) = false) (p2 : decide (X1 < x) = false) (z3 : Y1 = Y0) (p3 : decide (Y0 ≤ a) = true) (p4 : decide (a ≤ Y0) = true) :
    Calls Try.prog 7 #[.agg #[.slice (some ⟨b1, o1, none⟩) xs.length ca, .slice (some ⟨b3, o3, none⟩) ys.length cb], .int .i64 x, .int .u8 at_] w fun e w' => e = .returned (.bool true) ∧ Below w.heap.size w w' := by
  subst z3
  have HH := Lib.hid (Held.new (ca := ca) (cb := cb) hT)
  have HO := Lib.hid hO
  have hok := (Tb.ok_iff xs ys).1 hO
  have h2 := hok.two
  have h16 := hok.most
  have hs := hok.same
  have hf1 : xs.length ≤ 40 := by omega
  have hf2 : ys.length ≤ 40 := by omega
  have CX0 := Lib.hid cx0
  have CX1 := Lib.hid cx1
  have CY0 := Lib.hid cy0
  have CY1 := Lib.hid cy1
  have ac : ∀ W, TabIn W (some ⟨b1, o1, none⟩) (some ⟨b3, o3, none⟩) xs ys → Calls Try.prog 17 #[.agg #[.slice (some ⟨b1, o1, none⟩) xs.length ca, .slice (some ⟨b3, o3, none⟩) ys.length cb], .int .i64 x] W fun e w' => e = .returned (.int .i64 a) ∧ Below W.heap.size W w' := fun W h => by have := atv_c _ _ ca cb xs ys x W h; rwa [ha] at this
  have bc : ∀ W, TabIn W (some ⟨b1, o1, none⟩) (some ⟨b3, o3, none⟩) xs ys → Calls Try.prog 17 #[.agg #[.slice (some ⟨b1, o1, none⟩) xs.length ca, .slice (some ⟨b3, o3, none⟩) ys.length cb], .int .i64 (x + 1)] W fun e w' => e = .returned (.int .i64 b) ∧ Below W.heap.size W w' := fun W h => by have := atv_c _ _ ca cb xs ys (x + 1) W h; rwa [hb] at this
  have sc : ∀ W, TabIn W (some ⟨b1, o1, none⟩) (some ⟨b3, o3, none⟩) xs ys → Calls Try.prog 21 #[.agg #[.slice (some ⟨b1, o1, none⟩) xs.length ca, .slice (some ⟨b3, o3, none⟩) ys.length cb]] W fun e w' => e = .returned (.int .i64 sp) ∧ Below W.heap.size W w' := fun W h => by have := st_c _ _ ca cb xs ys W h; rwa [hsp] at this
  have pc : ∀ W, TabIn W (some ⟨b1, o1, none⟩) (some ⟨b3, o3, none⟩) xs ys → Calls Try.prog 19 #[.agg #[.slice (some ⟨b1, o1, none⟩) xs.length ca, .slice (some ⟨b3, o3, none⟩) ys.length cb]] W fun e w' => e = .returned (.int .i64 m) ∧ Below W.heap.size W w' := fun W h => by have := peak_c _ _ ca cb xs ys W h; rwa [hpk] at this
  have AC := Lib.hid ac
  have BC := Lib.hid bc
  have SC := Lib.hid sc
  have PC := Lib.hid pc
  have i0 : k < xs.length := by omega
  have i1 : k < ys.length := by omega
  have i2 : (k : Int) + 1 < (xs.length : Int) := by omega
  have i3 : (k : Int) + 1 < (ys.length : Int) := by omega
  have i4 : 0 ≤ (k : Int) + 1 := by omega
  have i5 : ((k : Int) + 1).toNat = k + 1 := by omega
  have i6 : IntKind.i64.wrap ((k : Int) + 1) = (k : Int) + 1 := IntWalk.i64_in _ (by omega)
  have i7 : ((xs.length : Int) - 1 == 0) = false := by simp; omega
  have i8 : IntKind.i64.wrap at_ = at_ := IntWalk.i64_in _ (by omega)
  have HM1 := Lib.hid hm1
  have HM2 := Lib.hid hm2
  have d1 : decide (-(a - b) ≤ sp) = true := by simpa using s1
  have d2 : decide (a ≤ m) = true := by simpa using s2
  have d3 : decide (0 ≤ a) = true := by simpa using a0
  clear hT hO hok hs ha hb hsp hpk ac bc sc pc cx0 cx1 cy0 cy1
  go_enter Try.func7, Try.ntmps7
  go_wp2_with fail
  refine (awake_c _).mono ?_
  rintro e w9 ⟨rfl, hb⟩
  replace HH := Lib.hid (HH.out.below hb)
  replace c0 := HH.out.c0
  replace c1 := HH.out.c1
  clear hb
  go_wp2_with fail
  refine (few_yes _ _ ca cb xs ys _ hf1 hf2).mono ?_
  rintro e w9 ⟨rfl, hb⟩
  replace HH := Lib.hid (HH.out.below hb)
  replace c0 := HH.out.c0
  replace c1 := HH.out.c1
  clear hb
  go_wp2_with fail
  refine (check_ok _ _ ca cb xs ys _ HH.out.tab HO.out).mono ?_
  rintro e w9 ⟨rfl, hb⟩
  replace HH := Lib.hid (HH.out.below hb)
  replace c0 := HH.out.c0
  replace c1 := HH.out.c1
  clear hb
  go_wp2_with fail
  refine (AC.out _ HH.out.tab).mono ?_
  rintro e w9 ⟨rfl, hb⟩
  replace HH := Lib.hid (HH.out.below hb)
  replace c0 := HH.out.c0
  replace c1 := HH.out.c1
  clear hb
  go_wp2_with fail
  refine (BC.out _ HH.out.tab).mono ?_
  rintro e w9 ⟨rfl, hb⟩
  replace HH := Lib.hid (HH.out.below hb)
  replace c0 := HH.out.c0
  replace c1 := HH.out.c1
  clear hb
  go_wp2_with fail
  have cx0 := HH.out.cell CX0.out
  have cx1 := HH.out.cell CX1.out
  have cy0 := HH.out.cell CY0.out
  have cy1 := HH.out.cell CY1.out
  go_quiet (fail)
  replace HH := Lib.hid (HH.out.below (below_drewN (Below.refl _ _) nq))
  clear cx0 cx1 cy0 cy1
  go_wp2_with fail
  refine (SC.out _ HH.out.tab).mono ?_
  rintro e w9 ⟨rfl, hb⟩
  replace HH := Lib.hid (HH.out.below hb)
  replace c0 := HH.out.c0
  replace c1 := HH.out.c1
  clear hb
  go_wp2_with fail
  refine (PC.out _ HH.out.tab).mono ?_
  rintro e w9 ⟨rfl, hb⟩
  replace HH := Lib.hid (HH.out.below hb)
  replace c0 := HH.out.c0
  replace c1 := HH.out.c1
  clear hb
  go_wp2_with fail
  go_ret
  exact ⟨rfl, HH.out.old⟩

theorem TableBetween_walk (A B : Option Addr) (ca cb : Nat) (xs ys : List Int) (x at_ : Int) (htw : (Lit.int .u8 at_).wf = true) (w : World) (hT : TabIn w A B xs ys) :
    Calls Try.prog 7 #[.agg #[.slice A xs.length ca, .slice B ys.length cb], .int .i64 x, .int .u8 at_] w fun e w' => e = .returned (.bool true) ∧ Below w.heap.size w w' := by
  have ht := bounds_u8 htw
  by_cases hf : 40 < xs.length ∨ 40 < ys.length
  · exact between_few A B ca cb xs ys x at_ w hT hf
  · have hf1 : xs.length ≤ 40 := by omega
    have hf2 : ys.length ≤ 40 := by omega
    cases hO : Tb.okB xs ys with
    | false => exact between_no A B ca cb xs ys x at_ w hT hf1 hf2 hO
    | true =>
      by_cases hx : x < 0 ∨ 2097152 < x
      · exact between_out A B ca cb xs ys x at_ w hT hf1 hf2 hO hx
      · have hok := (Tb.ok_iff xs ys).1 hO
        have h2 := hok.two
        obtain ⟨b1, o1, b3, o3, L⟩ := lies_of hT hok
        obtain rfl := L.ea
        obtain rfl := L.eb
        have k1 := Int.emod_nonneg at_ (show (xs.length : Int) - 1 ≠ 0 by omega)
        have k2 := Int.emod_lt_of_pos at_ (show (0 : Int) < (xs.length : Int) - 1 by omega)
        obtain ⟨k, hk⟩ := Int.eq_ofNat_of_zero_le k1
        have hk1 : k + 1 < xs.length := by omega
        have hm1 : at_.tmod ((xs.length : Int) - 1) = (k : Int) := by rw [Int.tmod_eq_emod_of_nonneg ht.1]; exact hk
        have ab := Tb.at_bd hok x
        have bb := Tb.at_bd hok (x + 1)
        have sp := Tb.at_step hok x
        have pp := Tb.at_le_mx hok x
        have bt := Tb.at_between hok hk1 (x := x)
        rw [← atv_ok hO] at ab bb sp pp bt
        rw [← atv_ok hO, ← st_ok hO] at sp
        rw [← pk_ok hO] at pp
        have lx0 := L.xc k (by omega)
        have lx1 := L.xc (k + 1) hk1
        have ly0 := L.yc k (by omega)
        have ly1 := L.yc (k + 1) hk1
        by_cases n1 : Tb.atv xs ys x - Tb.atv xs ys (x + 1) < 0
        · by_cases c1 : x < Tb.g xs k
          · have q1 : decide (x < Tb.g xs k) = true := by simpa using c1
            exact between_1_1 b1 o1 b3 o3 ca cb xs ys x at_ k _ _ _ _ _ _ _ _ w hT hO (by omega) (by omega) ht.1 ht.2 hk1 hm1 hk rfl rfl rfl rfl lx0 lx1 ly0 ly1 ab.1 ab.2 bb.1 bb.2 n1 (by omega) pp q1
          · have q1 : decide (x < Tb.g xs k) = false := by simpa using c1
            by_cases c2 : Tb.g xs (k + 1) < x
            · have q2 : decide (Tb.g xs (k + 1) < x) = true := by simpa using c2
              exact between_2_1 b1 o1 b3 o3 ca cb xs ys x at_ k _ _ _ _ _ _ _ _ w hT hO (by omega) (by omega) ht.1 ht.2 hk1 hm1 hk rfl rfl rfl rfl lx0 lx1 ly0 ly1 ab.1 ab.2 bb.1 bb.2 n1 (by omega) pp q1 q2
            · have q2 : decide (Tb.g xs (k + 1) < x) = false := by simpa using c2
              have bt2 := bt (by omega) (by omega)
              rcases Int.lt_trichotomy (Tb.g ys k) (Tb.g ys (k + 1)) with z | z | z
              · have z1 := z
                have z2 : ¬ Tb.g ys (k + 1) < Tb.g ys k := by omega
                have q3 : decide (Tb.g ys k ≤ Tb.atv xs ys x) = true := by simp; omega
                have q4 : decide (Tb.atv xs ys x ≤ Tb.g ys (k + 1)) = true := by simp; omega
                exact between_3a_1 b1 o1 b3 o3 ca cb xs ys x at_ k _ _ _ _ _ _ _ _ w hT hO (by omega) (by omega) ht.1 ht.2 hk1 hm1 hk rfl rfl rfl rfl lx0 lx1 ly0 ly1 ab.1 ab.2 bb.1 bb.2 n1 (by omega) pp q1 q2 z1 z2 q3 q4
              · have z3 := z.symm
                have q3 : decide (Tb.g ys k ≤ Tb.atv xs ys x) = true := by simp; omega
                have q4 : decide (Tb.atv xs ys x ≤ Tb.g ys k) = true := by simp; omega
                exact between_3c_1 b1 o1 b3 o3 ca cb xs ys x at_ k _ _ _ _ _ _ _ _ w hT hO (by omega) (by omega) ht.1 ht.2 hk1 hm1 hk rfl rfl rfl rfl lx0 lx1 ly0 ly1 ab.1 ab.2 bb.1 bb.2 n1 (by omega) pp q1 q2 z3 q3 q4
              · have z2 := z
                have z1 : ¬ Tb.g ys k < Tb.g ys (k + 1) := by omega
                have q3 : decide (Tb.g ys (k + 1) ≤ Tb.atv xs ys x) = true := by simp; omega
                have q4 : decide (Tb.atv xs ys x ≤ Tb.g ys k) = true := by simp; omega
                exact between_3b_1 b1 o1 b3 o3 ca cb xs ys x at_ k _ _ _ _ _ _ _ _ w hT hO (by omega) (by omega) ht.1 ht.2 hk1 hm1 hk rfl rfl rfl rfl lx0 lx1 ly0 ly1 ab.1 ab.2 bb.1 bb.2 n1 (by omega) pp q1 q2 z1 z2 q3 q4
        · by_cases c1 : x < Tb.g xs k
          · have q1 : decide (x < Tb.g xs k) = true := by simpa using c1
            exact between_1_0 b1 o1 b3 o3 ca cb xs ys x at_ k _ _ _ _ _ _ _ _ w hT hO (by omega) (by omega) ht.1 ht.2 hk1 hm1 hk rfl rfl rfl rfl lx0 lx1 ly0 ly1 ab.1 ab.2 bb.1 bb.2 n1 (by omega) pp q1
          · have q1 : decide (x < Tb.g xs k) = false := by simpa using c1
            by_cases c2 : Tb.g xs (k + 1) < x
            · have q2 : decide (Tb.g xs (k + 1) < x) = true := by simpa using c2
              exact between_2_0 b1 o1 b3 o3 ca cb xs ys x at_ k _ _ _ _ _ _ _ _ w hT hO (by omega) (by omega) ht.1 ht.2 hk1 hm1 hk rfl rfl rfl rfl lx0 lx1 ly0 ly1 ab.1 ab.2 bb.1 bb.2 n1 (by omega) pp q1 q2
            · have q2 : decide (Tb.g xs (k + 1) < x) = false := by simpa using c2
              have bt2 := bt (by omega) (by omega)
              rcases Int.lt_trichotomy (Tb.g ys k) (Tb.g ys (k + 1)) with z | z | z
              · have z1 := z
                have z2 : ¬ Tb.g ys (k + 1) < Tb.g ys k := by omega
                have q3 : decide (Tb.g ys k ≤ Tb.atv xs ys x) = true := by simp; omega
                have q4 : decide (Tb.atv xs ys x ≤ Tb.g ys (k + 1)) = true := by simp; omega
                exact between_3a_0 b1 o1 b3 o3 ca cb xs ys x at_ k _ _ _ _ _ _ _ _ w hT hO (by omega) (by omega) ht.1 ht.2 hk1 hm1 hk rfl rfl rfl rfl lx0 lx1 ly0 ly1 ab.1 ab.2 bb.1 bb.2 n1 (by omega) pp q1 q2 z1 z2 q3 q4
              · have z3 := z.symm
                have q3 : decide (Tb.g ys k ≤ Tb.atv xs ys x) = true := by simp; omega
                have q4 : decide (Tb.atv xs ys x ≤ Tb.g ys k) = true := by simp; omega
                exact between_3c_0 b1 o1 b3 o3 ca cb xs ys x at_ k _ _ _ _ _ _ _ _ w hT hO (by omega) (by omega) ht.1 ht.2 hk1 hm1 hk rfl rfl rfl rfl lx0 lx1 ly0 ly1 ab.1 ab.2 bb.1 bb.2 n1 (by omega) pp q1 q2 z3 q3 q4
              · have z2 := z
                have z1 : ¬ Tb.g ys k < Tb.g ys (k + 1) := by omega
                have q3 : decide (Tb.g ys (k + 1) ≤ Tb.atv xs ys x) = true := by simp; omega
                have q4 : decide (Tb.atv xs ys x ≤ Tb.g ys k) = true := by simp; omega
                exact between_3b_0 b1 o1 b3 o3 ca cb xs ys x at_ k _ _ _ _ _ _ _ _ w hT hO (by omega) (by omega) ht.1 ht.2 hk1 hm1 hk rfl rfl rfl rfl lx0 lx1 ly0 ly1 ab.1 ab.2 bb.1 bb.2 n1 (by omega) pp q1 q2 z1 z2 q3 q4

end TabC
end Go.Proofs.Yteipmionpokfkaa
