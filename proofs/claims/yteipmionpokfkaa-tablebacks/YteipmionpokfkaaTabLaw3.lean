/- The walk of TableBacks. -/
import Derived.Test.YteipmionpokfkaaTabLawKit
import Derived.Test.YteipmionpokfkaaTabRef4
import Derived.Deep.RegionHeld3
namespace Go.Proofs.Yteipmionpokfkaa
namespace TabC
open Go.RowKit

set_option maxRecDepth 100000 in
set_option maxHeartbeats 8000000 in
theorem TableBacks_no (A B : Option Addr) (ca cb : Nat) (xs ys : List Int) (y other : Int) (w : World) (hT : TabIn w A B xs ys) (hO : Tb.okB xs ys = false) :
    Calls Try.prog 5 #[.agg #[.slice A xs.length ca, .slice B ys.length cb], .int .i64 y, .int .i64 other] w fun e w' => e = .returned (.bool true) ∧ Below w.heap.size w w' := by
  have HH := Lib.hid (Held.new (ca := ca) (cb := cb) hT)
  have HO := Lib.hid hO
  have bc : ∀ W, TabIn W A B xs ys → Calls Try.prog 23 #[.agg #[.slice A xs.length ca, .slice B ys.length cb], .int .i64 y] W fun e w' => e = .returned (.int .i64 0) ∧ Below W.heap.size W w' := fun W h => back_no A B ca cb xs ys y W h hO
  have BC := Lib.hid bc
  clear hT hO bc
  by_cases hf : 40 < xs.length ∨ 40 < ys.length
  · go_enter Try.func5, Try.ntmps5
    go_wp2_with (first
      | (go_at_call 11; refine (awake_c _).mono ?_; rintro e w9 ⟨rfl, hb⟩; replace HH := Lib.hid (HH.out.below hb); replace c0 := HH.out.c0; replace c1 := HH.out.c1; clear hb)
      | (go_at_call 12; refine (few_no A B ca cb xs ys _ hf).mono ?_; rintro e w9 ⟨rfl, hb⟩; replace HH := Lib.hid (HH.out.below hb); replace c0 := HH.out.c0; replace c1 := HH.out.c1; clear hb)
      | (go_at_call 13; refine (check_no A B ca cb xs ys _ HH.out.tab HO.out).mono ?_; rintro e w9 ⟨rfl, hb⟩; replace HH := Lib.hid (HH.out.below hb); replace c0 := HH.out.c0; replace c1 := HH.out.c1; clear hb)
      | (go_at_call 23; refine (BC.out _ HH.out.tab).mono ?_; rintro e w9 ⟨rfl, hb⟩; replace HH := Lib.hid (HH.out.below hb); replace c0 := HH.out.c0; replace c1 := HH.out.c1; clear hb))
    go_ret
    exact ⟨rfl, HH.out.old⟩
  · have hf1 : xs.length ≤ 40 := by omega
    have hf2 : ys.length ≤ 40 := by omega
    clear hf
    go_enter Try.func5, Try.ntmps5
    go_wp2_with (first
      | (go_at_call 11; refine (awake_c _).mono ?_; rintro e w9 ⟨rfl, hb⟩; replace HH := Lib.hid (HH.out.below hb); replace c0 := HH.out.c0; replace c1 := HH.out.c1; clear hb)
      | (go_at_call 12; refine (few_yes A B ca cb xs ys _ hf1 hf2).mono ?_; rintro e w9 ⟨rfl, hb⟩; replace HH := Lib.hid (HH.out.below hb); replace c0 := HH.out.c0; replace c1 := HH.out.c1; clear hb)
      | (go_at_call 13; refine (check_no A B ca cb xs ys _ HH.out.tab HO.out).mono ?_; rintro e w9 ⟨rfl, hb⟩; replace HH := Lib.hid (HH.out.below hb); replace c0 := HH.out.c0; replace c1 := HH.out.c1; clear hb)
      | (go_at_call 23; refine (BC.out _ HH.out.tab).mono ?_; rintro e w9 ⟨rfl, hb⟩; replace HH := Lib.hid (HH.out.below hb); replace c0 := HH.out.c0; replace c1 := HH.out.c1; clear hb))
    go_ret
    exact ⟨rfl, HH.out.old⟩

set_option maxRecDepth 100000 in
set_option maxHeartbeats 8000000 in
theorem backs_010 (b1 o1 : Nat) (B : Option Addr) (ca cb : Nat) (xs ys : List Int) (y other v t u m X0 XL : Int) (w : World) (hT : TabIn w (some ⟨b1, o1, none⟩) B xs ys) (hO : Tb.okB xs ys = true) (hr : Tb.rsB xs ys = false)
    (hv : Tb.bk xs ys y = v) (ht : Tb.atv xs ys v = t) (hu : Tb.atv xs ys other = u) (hm : Tb.pk xs ys = m) (hx0 : w.cell? ⟨b1, o1, none⟩ = some (.int .i64 X0)) (hxl : w.cell? ⟨b1, o1 + (xs.length - 1), none⟩ = some (.int .i64 XL)) (g1 : X0 ≤ v) (g2 : v ≤ XL) (p1 : decide (other < X0) = true) (p4 : decide (y ≤ t) = false) (p5 : (v == XL) = true) (p6 : decide (m < y) = true) :
    Calls Try.prog 5 #[.agg #[.slice (some ⟨b1, o1, none⟩) xs.length ca, .slice B ys.length cb], .int .i64 y, .int .i64 other] w fun e w' => e = .returned (.bool true) ∧ Below w.heap.size w w' := by
  have HH := Lib.hid (Held.new (ca := ca) (cb := cb) hT)
  have HO := Lib.hid hO
  have hok := (Tb.ok_iff xs ys).1 hO
  have h2 := hok.two
  have h16 := hok.most
  have hs := hok.same
  have hf1 : xs.length ≤ 40 := by omega
  have hf2 : ys.length ≤ 40 := by omega
  have hlen : 0 < xs.length := by omega
  have e2 : 0 ≤ (xs.length : Int) - 1 := by omega
  have e1 : (xs.length : Int) - 1 < (xs.length : Int) := by omega
  have e3 : ((xs.length : Int) - 1).toNat = xs.length - 1 := by omega
  have q1 : decide (X0 ≤ v) = true := by simpa using g1
  have q2 : decide (v ≤ XL) = true := by simpa using g2
  have q3 : (v != v) = false := by simp
  have CX0 := Lib.hid hx0
  have CXL := Lib.hid hxl
  have bc : ∀ W, TabIn W (some ⟨b1, o1, none⟩) B xs ys → Calls Try.prog 23 #[.agg #[.slice (some ⟨b1, o1, none⟩) xs.length ca, .slice B ys.length cb], .int .i64 y] W fun e w' => e = .returned (.int .i64 v) ∧ Below W.heap.size W w' := fun W h => by have := bk_c _ _ ca cb xs ys y W h; rwa [hv] at this
  have rc : ∀ W, TabIn W (some ⟨b1, o1, none⟩) B xs ys → Calls Try.prog 24 #[.agg #[.slice (some ⟨b1, o1, none⟩) xs.length ca, .slice B ys.length cb], .int .i64 y] W fun e w' => e = .returned (.int .i64 v) ∧ Below W.heap.size W w' := fun W h => by have := rback_ok _ _ ca cb xs ys y W h hO; rwa [← bk_ok hO, hv] at this
  have rr : ∀ W, TabIn W (some ⟨b1, o1, none⟩) B xs ys → Calls Try.prog 16 #[.agg #[.slice (some ⟨b1, o1, none⟩) xs.length ca, .slice B ys.length cb]] W fun e w' => e = .returned (.bool false) ∧ Below W.heap.size W w' := fun W h => by have := rrising_c _ _ ca cb xs ys W h; rwa [hr] at this
  have a1 : ∀ W, TabIn W (some ⟨b1, o1, none⟩) B xs ys → Calls Try.prog 17 #[.agg #[.slice (some ⟨b1, o1, none⟩) xs.length ca, .slice B ys.length cb], .int .i64 v] W fun e w' => e = .returned (.int .i64 t) ∧ Below W.heap.size W w' := fun W h => by have := atv_c _ _ ca cb xs ys v W h; rwa [ht] at this
  have a2 : ∀ W, TabIn W (some ⟨b1, o1, none⟩) B xs ys → Calls Try.prog 17 #[.agg #[.slice (some ⟨b1, o1, none⟩) xs.length ca, .slice B ys.length cb], .int .i64 other] W fun e w' => e = .returned (.int .i64 u) ∧ Below W.heap.size W w' := fun W h => by have := atv_c _ _ ca cb xs ys other W h; rwa [hu] at this
  have pc : ∀ W, TabIn W (some ⟨b1, o1, none⟩) B xs ys → Calls Try.prog 19 #[.agg #[.slice (some ⟨b1, o1, none⟩) xs.length ca, .slice B ys.length cb]] W fun e w' => e = .returned (.int .i64 m) ∧ Below W.heap.size W w' := fun W h => by have := peak_c _ _ ca cb xs ys W h; rwa [hm] at this
  have BC := Lib.hid bc
  have RC := Lib.hid rc
  have RR := Lib.hid rr
  have A1 := Lib.hid a1
  have A2 := Lib.hid a2
  have PC := Lib.hid pc
  clear hT hO hr hv ht hu hm hok hs bc rc rr a1 a2 pc hx0 hxl g1 g2
  go_enter Try.func5, Try.ntmps5
  go_wp2_with fail
  refine (awake_c _).mono ?_
  rintro e w9 ⟨rfl, hb⟩
  replace HH := Lib.hid (HH.out.below hb)
  replace c0 := HH.out.c0
  replace c1 := HH.out.c1
  replace cx0 := HH.out.cell CX0.out
  replace cxl := HH.out.cell CXL.out
  clear hb
  go_wp2_with fail
  refine (few_yes _ _ ca cb xs ys _ hf1 hf2).mono ?_
  rintro e w9 ⟨rfl, hb⟩
  replace HH := Lib.hid (HH.out.below hb)
  replace c0 := HH.out.c0
  replace c1 := HH.out.c1
  replace cx0 := HH.out.cell CX0.out
  replace cxl := HH.out.cell CXL.out
  clear hb
  go_wp2_with fail
  refine (BC.out _ HH.out.tab).mono ?_
  rintro e w9 ⟨rfl, hb⟩
  replace HH := Lib.hid (HH.out.below hb)
  replace c0 := HH.out.c0
  replace c1 := HH.out.c1
  replace cx0 := HH.out.cell CX0.out
  replace cxl := HH.out.cell CXL.out
  clear hb
  go_wp2_with fail
  refine (check_ok _ _ ca cb xs ys _ HH.out.tab HO.out).mono ?_
  rintro e w9 ⟨rfl, hb⟩
  replace HH := Lib.hid (HH.out.below hb)
  replace c0 := HH.out.c0
  replace c1 := HH.out.c1
  replace cx0 := HH.out.cell CX0.out
  replace cxl := HH.out.cell CXL.out
  clear hb
  go_wp2_with fail
  refine (RR.out _ HH.out.tab).mono ?_
  rintro e w9 ⟨rfl, hb⟩
  replace HH := Lib.hid (HH.out.below hb)
  replace c0 := HH.out.c0
  replace c1 := HH.out.c1
  replace cx0 := HH.out.cell CX0.out
  replace cxl := HH.out.cell CXL.out
  clear hb
  go_wp2_with fail
  refine (A1.out _ HH.out.tab).mono ?_
  rintro e w9 ⟨rfl, hb⟩
  replace HH := Lib.hid (HH.out.below hb)
  replace c0 := HH.out.c0
  replace c1 := HH.out.c1
  replace cx0 := HH.out.cell CX0.out
  replace cxl := HH.out.cell CXL.out
  clear hb
  go_wp2_with fail
  refine (PC.out _ HH.out.tab).mono ?_
  rintro e w9 ⟨rfl, hb⟩
  replace HH := Lib.hid (HH.out.below hb)
  replace c0 := HH.out.c0
  replace c1 := HH.out.c1
  replace cx0 := HH.out.cell CX0.out
  replace cxl := HH.out.cell CXL.out
  clear hb
  go_wp2_with fail
  go_ret
  exact ⟨rfl, HH.out.old⟩

set_option maxRecDepth 100000 in
set_option maxHeartbeats 8000000 in
theorem backs_011 (b1 o1 : Nat) (B : Option Addr) (ca cb : Nat) (xs ys : List Int) (y other v t u m X0 XL : Int) (w : World) (hT : TabIn w (some ⟨b1, o1, none⟩) B xs ys) (hO : Tb.okB xs ys = true) (hr : Tb.rsB xs ys = false)
    (hv : Tb.bk xs ys y = v) (ht : Tb.atv xs ys v = t) (hu : Tb.atv xs ys other = u) (hm : Tb.pk xs ys = m) (hx0 : w.cell? ⟨b1, o1, none⟩ = some (.int .i64 X0)) (hxl : w.cell? ⟨b1, o1 + (xs.length - 1), none⟩ = some (.int .i64 XL)) (g1 : X0 ≤ v) (g2 : v ≤ XL) (p1 : decide (other < X0) = true) (p4 : decide (y ≤ t) = true) :
    Calls Try.prog 5 #[.agg #[.slice (some ⟨b1, o1, none⟩) xs.length ca, .slice B ys.length cb], .int .i64 y, .int .i64 other] w fun e w' => e = .returned (.bool true) ∧ Below w.heap.size w w' := by
  have HH := Lib.hid (Held.new (ca := ca) (cb := cb) hT)
  have HO := Lib.hid hO
  have hok := (Tb.ok_iff xs ys).1 hO
  have h2 := hok.two
  have h16 := hok.most
  have hs := hok.same
  have hf1 : xs.length ≤ 40 := by omega
  have hf2 : ys.length ≤ 40 := by omega
  have hlen : 0 < xs.length := by omega
  have e2 : 0 ≤ (xs.length : Int) - 1 := by omega
  have e1 : (xs.length : Int) - 1 < (xs.length : Int) := by omega
  have e3 : ((xs.length : Int) - 1).toNat = xs.length - 1 := by omega
  have q1 : decide (X0 ≤ v) = true := by simpa using g1
  have q2 : decide (v ≤ XL) = true := by simpa using g2
  have q3 : (v != v) = false := by simp
  have CX0 := Lib.hid hx0
  have CXL := Lib.hid hxl
  have bc : ∀ W, TabIn W (some ⟨b1, o1, none⟩) B xs ys → Calls Try.prog 23 #[.agg #[.slice (some ⟨b1, o1, none⟩) xs.length ca, .slice B ys.length cb], .int .i64 y] W fun e w' => e = .returned (.int .i64 v) ∧ Below W.heap.size W w' := fun W h => by have := bk_c _ _ ca cb xs ys y W h; rwa [hv] at this
  have rc : ∀ W, TabIn W (some ⟨b1, o1, none⟩) B xs ys → Calls Try.prog 24 #[.agg #[.slice (some ⟨b1, o1, none⟩) xs.length ca, .slice B ys.length cb], .int .i64 y] W fun e w' => e = .returned (.int .i64 v) ∧ Below W.heap.size W w' := fun W h => by have := rback_ok _ _ ca cb xs ys y W h hO; rwa [← bk_ok hO, hv] at this
  have rr : ∀ W, TabIn W (some ⟨b1, o1, none⟩) B xs ys → Calls Try.prog 16 #[.agg #[.slice (some ⟨b1, o1, none⟩) xs.length ca, .slice B ys.length cb]] W fun e w' => e = .returned (.bool false) ∧ Below W.heap.size W w' := fun W h => by have := rrising_c _ _ ca cb xs ys W h; rwa [hr] at this
  have a1 : ∀ W, TabIn W (some ⟨b1, o1, none⟩) B xs ys → Calls Try.prog 17 #[.agg #[.slice (some ⟨b1, o1, none⟩) xs.length ca, .slice B ys.length cb], .int .i64 v] W fun e w' => e = .returned (.int .i64 t) ∧ Below W.heap.size W w' := fun W h => by have := atv_c _ _ ca cb xs ys v W h; rwa [ht] at this
  have a2 : ∀ W, TabIn W (some ⟨b1, o1, none⟩) B xs ys → Calls Try.prog 17 #[.agg #[.slice (some ⟨b1, o1, none⟩) xs.length ca, .slice B ys.length cb], .int .i64 other] W fun e w' => e = .returned (.int .i64 u) ∧ Below W.heap.size W w' := fun W h => by have := atv_c _ _ ca cb xs ys other W h; rwa [hu] at this
  have pc : ∀ W, TabIn W (some ⟨b1, o1, none⟩) B xs ys → Calls Try.prog 19 #[.agg #[.slice (some ⟨b1, o1, none⟩) xs.length ca, .slice B ys.length cb]] W fun e w' => e = .returned (.int .i64 m) ∧ Below W.heap.size W w' := fun W h => by have := peak_c _ _ ca cb xs ys W h; rwa [hm] at this
  have BC := Lib.hid bc
  have RC := Lib.hid rc
  have RR := Lib.hid rr
  have A1 := Lib.hid a1
  have A2 := Lib.hid a2
  have PC := Lib.hid pc
  clear hT hO hr hv ht hu hm hok hs bc rc rr a1 a2 pc hx0 hxl g1 g2
  go_enter Try.func5, Try.ntmps5
  go_wp2_with fail
  refine (awake_c _).mono ?_
  rintro e w9 ⟨rfl, hb⟩
  replace HH := Lib.hid (HH.out.below hb)
  replace c0 := HH.out.c0
  replace c1 := HH.out.c1
  replace cx0 := HH.out.cell CX0.out
  replace cxl := HH.out.cell CXL.out
  clear hb
  go_wp2_with fail
  refine (few_yes _ _ ca cb xs ys _ hf1 hf2).mono ?_
  rintro e w9 ⟨rfl, hb⟩
  replace HH := Lib.hid (HH.out.below hb)
  replace c0 := HH.out.c0
  replace c1 := HH.out.c1
  replace cx0 := HH.out.cell CX0.out
  replace cxl := HH.out.cell CXL.out
  clear hb
  go_wp2_with fail
  refine (BC.out _ HH.out.tab).mono ?_
  rintro e w9 ⟨rfl, hb⟩
  replace HH := Lib.hid (HH.out.below hb)
  replace c0 := HH.out.c0
  replace c1 := HH.out.c1
  replace cx0 := HH.out.cell CX0.out
  replace cxl := HH.out.cell CXL.out
  clear hb
  go_wp2_with fail
  refine (check_ok _ _ ca cb xs ys _ HH.out.tab HO.out).mono ?_
  rintro e w9 ⟨rfl, hb⟩
  replace HH := Lib.hid (HH.out.below hb)
  replace c0 := HH.out.c0
  replace c1 := HH.out.c1
  replace cx0 := HH.out.cell CX0.out
  replace cxl := HH.out.cell CXL.out
  clear hb
  go_wp2_with fail
  refine (RR.out _ HH.out.tab).mono ?_
  rintro e w9 ⟨rfl, hb⟩
  replace HH := Lib.hid (HH.out.below hb)
  replace c0 := HH.out.c0
  replace c1 := HH.out.c1
  replace cx0 := HH.out.cell CX0.out
  replace cxl := HH.out.cell CXL.out
  clear hb
  go_wp2_with fail
  refine (A1.out _ HH.out.tab).mono ?_
  rintro e w9 ⟨rfl, hb⟩
  replace HH := Lib.hid (HH.out.below hb)
  replace c0 := HH.out.c0
  replace c1 := HH.out.c1
  replace cx0 := HH.out.cell CX0.out
  replace cxl := HH.out.cell CXL.out
  clear hb
  go_wp2_with fail
  go_ret
  exact ⟨rfl, HH.out.old⟩

set_option maxRecDepth 100000 in
set_option maxHeartbeats 8000000 in
theorem backs_020 (b1 o1 : Nat) (B : Option Addr) (ca cb : Nat) (xs ys : List Int) (y other v t u m X0 XL : Int) (w : World) (hT : TabIn w (some ⟨b1, o1, none⟩) B xs ys) (hO : Tb.okB xs ys = true) (hr : Tb.rsB xs ys = false)
    (hv : Tb.bk xs ys y = v) (ht : Tb.atv xs ys v = t) (hu : Tb.atv xs ys other = u) (hm : Tb.pk xs ys = m) (hx0 : w.cell? ⟨b1, o1, none⟩ = some (.int .i64 X0)) (hxl : w.cell? ⟨b1, o1 + (xs.length - 1), none⟩ = some (.int .i64 XL)) (g1 : X0 ≤ v) (g2 : v ≤ XL) (p1 : decide (other < X0) = false) (p2 : decide (v ≤ other) = true) (p4 : decide (y ≤ t) = false) (p5 : (v == XL) = true) (p6 : decide (m < y) = true) :
    Calls Try.prog 5 #[.agg #[.slice (some ⟨b1, o1, none⟩) xs.length ca, .slice B ys.length cb], .int .i64 y, .int .i64 other] w fun e w' => e = .returned (.bool true) ∧ Below w.heap.size w w' := by
  have HH := Lib.hid (Held.new (ca := ca) (cb := cb) hT)
  have HO := Lib.hid hO
  have hok := (Tb.ok_iff xs ys).1 hO
  have h2 := hok.two
  have h16 := hok.most
  have hs := hok.same
  have hf1 : xs.length ≤ 40 := by omega
  have hf2 : ys.length ≤ 40 := by omega
  have hlen : 0 < xs.length := by omega
  have e2 : 0 ≤ (xs.length : Int) - 1 := by omega
  have e1 : (xs.length : Int) - 1 < (xs.length : Int) := by omega
  have e3 : ((xs.length : Int) - 1).toNat = xs.length - 1 := by omega
  have q1 : decide (X0 ≤ v) = true := by simpa using g1
  have q2 : decide (v ≤ XL) = true := by simpa using g2
  have q3 : (v != v) = false := by simp
  have CX0 := Lib.hid hx0
  have CXL := Lib.hid hxl
  have bc : ∀ W, TabIn W (some ⟨b1, o1, none⟩) B xs ys → Calls Try.prog 23 #[.agg #[.slice (some ⟨b1, o1, none⟩) xs.length ca, .slice B ys.length cb], .int .i64 y] W fun e w' => e = .returned (.int .i64 v) ∧ Below W.heap.size W w' := fun W h => by have := bk_c _ _ ca cb xs ys y W h; rwa [hv] at this
  have rc : ∀ W, TabIn W (some ⟨b1, o1, none⟩) B xs ys → Calls Try.prog 24 #[.agg #[.slice (some ⟨b1, o1, none⟩) xs.length ca, .slice B ys.length cb], .int .i64 y] W fun e w' => e = .returned (.int .i64 v) ∧ Below W.heap.size W w' := fun W h => by have := rback_ok _ _ ca cb xs ys y W h hO; rwa [← bk_ok hO, hv] at this
  have rr : ∀ W, TabIn W (some ⟨b1, o1, none⟩) B xs ys → Calls Try.prog 16 #[.agg #[.slice (some ⟨b1, o1, none⟩) xs.length ca, .slice B ys.length cb]] W fun e w' => e = .returned (.bool false) ∧ Below W.heap.size W w' := fun W h => by have := rrising_c _ _ ca cb xs ys W h; rwa [hr] at this
  have a1 : ∀ W, TabIn W (some ⟨b1, o1, none⟩) B xs ys → Calls Try.prog 17 #[.agg #[.slice (some ⟨b1, o1, none⟩) xs.length ca, .slice B ys.length cb], .int .i64 v] W fun e w' => e = .returned (.int .i64 t) ∧ Below W.heap.size W w' := fun W h => by have := atv_c _ _ ca cb xs ys v W h; rwa [ht] at this
  have a2 : ∀ W, TabIn W (some ⟨b1, o1, none⟩) B xs ys → Calls Try.prog 17 #[.agg #[.slice (some ⟨b1, o1, none⟩) xs.length ca, .slice B ys.length cb], .int .i64 other] W fun e w' => e = .returned (.int .i64 u) ∧ Below W.heap.size W w' := fun W h => by have := atv_c _ _ ca cb xs ys other W h; rwa [hu] at this
  have pc : ∀ W, TabIn W (some ⟨b1, o1, none⟩) B xs ys → Calls Try.prog 19 #[.agg #[.slice (some ⟨b1, o1, none⟩) xs.length ca, .slice B ys.length cb]] W fun e w' => e = .returned (.int .i64 m) ∧ Below W.heap.size W w' := fun W h => by have := peak_c _ _ ca cb xs ys W h; rwa [hm] at this
  have BC := Lib.hid bc
  have RC := Lib.hid rc
  have RR := Lib.hid rr
  have A1 := Lib.hid a1
  have A2 := Lib.hid a2
  have PC := Lib.hid pc
  clear hT hO hr hv ht hu hm hok hs bc rc rr a1 a2 pc hx0 hxl g1 g2
  go_enter Try.func5, Try.ntmps5
  go_wp2_with fail
  refine (awake_c _).mono ?_
  rintro e w9 ⟨rfl, hb⟩
  replace HH := Lib.hid (HH.out.below hb)
  replace c0 := HH.out.c0
  replace c1 := HH.out.c1
  replace cx0 := HH.out.cell CX0.out
  replace cxl := HH.out.cell CXL.out
  clear hb
  go_wp2_with fail
  refine (few_yes _ _ ca cb xs ys _ hf1 hf2).mono ?_
  rintro e w9 ⟨rfl, hb⟩
  replace HH := Lib.hid (HH.out.below hb)
  replace c0 := HH.out.c0
  replace c1 := HH.out.c1
  replace cx0 := HH.out.cell CX0.out
  replace cxl := HH.out.cell CXL.out
  clear hb
  go_wp2_with fail
  refine (BC.out _ HH.out.tab).mono ?_
  rintro e w9 ⟨rfl, hb⟩
  replace HH := Lib.hid (HH.out.below hb)
  replace c0 := HH.out.c0
  replace c1 := HH.out.c1
  replace cx0 := HH.out.cell CX0.out
  replace cxl := HH.out.cell CXL.out
  clear hb
  go_wp2_with fail
  refine (check_ok _ _ ca cb xs ys _ HH.out.tab HO.out).mono ?_
  rintro e w9 ⟨rfl, hb⟩
  replace HH := Lib.hid (HH.out.below hb)
  replace c0 := HH.out.c0
  replace c1 := HH.out.c1
  replace cx0 := HH.out.cell CX0.out
  replace cxl := HH.out.cell CXL.out
  clear hb
  go_wp2_with fail
  refine (RR.out _ HH.out.tab).mono ?_
  rintro e w9 ⟨rfl, hb⟩
  replace HH := Lib.hid (HH.out.below hb)
  replace c0 := HH.out.c0
  replace c1 := HH.out.c1
  replace cx0 := HH.out.cell CX0.out
  replace cxl := HH.out.cell CXL.out
  clear hb
  go_wp2_with fail
  refine (A1.out _ HH.out.tab).mono ?_
  rintro e w9 ⟨rfl, hb⟩
  replace HH := Lib.hid (HH.out.below hb)
  replace c0 := HH.out.c0
  replace c1 := HH.out.c1
  replace cx0 := HH.out.cell CX0.out
  replace cxl := HH.out.cell CXL.out
  clear hb
  go_wp2_with fail
  refine (PC.out _ HH.out.tab).mono ?_
  rintro e w9 ⟨rfl, hb⟩
  replace HH := Lib.hid (HH.out.below hb)
  replace c0 := HH.out.c0
  replace c1 := HH.out.c1
  replace cx0 := HH.out.cell CX0.out
  replace cxl := HH.out.cell CXL.out
  clear hb
  go_wp2_with fail
  go_ret
  exact ⟨rfl, HH.out.old⟩

set_option maxRecDepth 100000 in
set_option maxHeartbeats 8000000 in
theorem backs_021 (b1 o1 : Nat) (B : Option Addr) (ca cb : Nat) (xs ys : List Int) (y other v t u m X0 XL : Int) (w : World) (hT : TabIn w (some ⟨b1, o1, none⟩) B xs ys) (hO : Tb.okB xs ys = true) (hr : Tb.rsB xs ys = false)
    (hv : Tb.bk xs ys y = v) (ht : Tb.atv xs ys v = t) (hu : Tb.atv xs ys other = u) (hm : Tb.pk xs ys = m) (hx0 : w.cell? ⟨b1, o1, none⟩ = some (.int .i64 X0)) (hxl : w.cell? ⟨b1, o1 + (xs.length - 1), none⟩ = some (.int .i64 XL)) (g1 : X0 ≤ v) (g2 : v ≤ XL) (p1 : decide (other < X0) = false) (p2 : decide (v ≤ other) = true) (p4 : decide (y ≤ t) = true) :
    Calls Try.prog 5 #[.agg #[.slice (some ⟨b1, o1, none⟩) xs.length ca, .slice B ys.length cb], .int .i64 y, .int .i64 other] w fun e w' => e = .returned (.bool true) ∧ Below w.heap.size w w' := by
  have HH := Lib.hid (Held.new (ca := ca) (cb := cb) hT)
  have HO := Lib.hid hO
  have hok := (Tb.ok_iff xs ys).1 hO
  have h2 := hok.two
  have h16 := hok.most
  have hs := hok.same
  have hf1 : xs.length ≤ 40 := by omega
  have hf2 : ys.length ≤ 40 := by omega
  have hlen : 0 < xs.length := by omega
  have e2 : 0 ≤ (xs.length : Int) - 1 := by omega
  have e1 : (xs.length : Int) - 1 < (xs.length : Int) := by omega
  have e3 : ((xs.length : Int) - 1).toNat = xs.length - 1 := by omega
  have q1 : decide (X0 ≤ v) = true := by simpa using g1
  have q2 : decide (v ≤ XL) = true := by simpa using g2
  have q3 : (v != v) = false := by simp
  have CX0 := Lib.hid hx0
  have CXL := Lib.hid hxl
  have bc : ∀ W, TabIn W (some ⟨b1, o1, none⟩) B xs ys → Calls Try.prog 23 #[.agg #[.slice (some ⟨b1, o1, none⟩) xs.length ca, .slice B ys.length cb], .int .i64 y] W fun e w' => e = .returned (.int .i64 v) ∧ Below W.heap.size W w' := fun W h => by have := bk_c _ _ ca cb xs ys y W h; rwa [hv] at this
  have rc : ∀ W, TabIn W (some ⟨b1, o1, none⟩) B xs ys → Calls Try.prog 24 #[.agg #[.slice (some ⟨b1, o1, none⟩) xs.length ca, .slice B ys.length cb], .int .i64 y] W fun e w' => e = .returned (.int .i64 v) ∧ Below W.heap.size W w' := fun W h => by have := rback_ok _ _ ca cb xs ys y W h hO; rwa [← bk_ok hO, hv] at this
  have rr : ∀ W, TabIn W (some ⟨b1, o1, none⟩) B xs ys → Calls Try.prog 16 #[.agg #[.slice (some ⟨b1, o1, none⟩) xs.length ca, .slice B ys.length cb]] W fun e w' => e = .returned (.bool false) ∧ Below W.heap.size W w' := fun W h => by have := rrising_c _ _ ca cb xs ys W h; rwa [hr] at this
  have a1 : ∀ W, TabIn W (some ⟨b1, o1, none⟩) B xs ys → Calls Try.prog 17 #[.agg #[.slice (some ⟨b1, o1, none⟩) xs.length ca, .slice B ys.length cb], .int .i64 v] W fun e w' => e = .returned (.int .i64 t) ∧ Below W.heap.size W w' := fun W h => by have := atv_c _ _ ca cb xs ys v W h; rwa [ht] at this
  have a2 : ∀ W, TabIn W (some ⟨b1, o1, none⟩) B xs ys → Calls Try.prog 17 #[.agg #[.slice (some ⟨b1, o1, none⟩) xs.length ca, .slice B ys.length cb], .int .i64 other] W fun e w' => e = .returned (.int .i64 u) ∧ Below W.heap.size W w' := fun W h => by have := atv_c _ _ ca cb xs ys other W h; rwa [hu] at this
  have pc : ∀ W, TabIn W (some ⟨b1, o1, none⟩) B xs ys → Calls Try.prog 19 #[.agg #[.slice (some ⟨b1, o1, none⟩) xs.length ca, .slice B ys.length cb]] W fun e w' => e = .returned (.int .i64 m) ∧ Below W.heap.size W w' := fun W h => by have := peak_c _ _ ca cb xs ys W h; rwa [hm] at this
  have BC := Lib.hid bc
  have RC := Lib.hid rc
  have RR := Lib.hid rr
  have A1 := Lib.hid a1
  have A2 := Lib.hid a2
  have PC := Lib.hid pc
  clear hT hO hr hv ht hu hm hok hs bc rc rr a1 a2 pc hx0 hxl g1 g2
  go_enter Try.func5, Try.ntmps5
  go_wp2_with fail
  refine (awake_c _).mono ?_
  rintro e w9 ⟨rfl, hb⟩
  replace HH := Lib.hid (HH.out.below hb)
  replace c0 := HH.out.c0
  replace c1 := HH.out.c1
  replace cx0 := HH.out.cell CX0.out
  replace cxl := HH.out.cell CXL.out
  clear hb
  go_wp2_with fail
  refine (few_yes _ _ ca cb xs ys _ hf1 hf2).mono ?_
  rintro e w9 ⟨rfl, hb⟩
  replace HH := Lib.hid (HH.out.below hb)
  replace c0 := HH.out.c0
  replace c1 := HH.out.c1
  replace cx0 := HH.out.cell CX0.out
  replace cxl := HH.out.cell CXL.out
  clear hb
  go_wp2_with fail
  refine (BC.out _ HH.out.tab).mono ?_
  rintro e w9 ⟨rfl, hb⟩
  replace HH := Lib.hid (HH.out.below hb)
  replace c0 := HH.out.c0
  replace c1 := HH.out.c1
  replace cx0 := HH.out.cell CX0.out
  replace cxl := HH.out.cell CXL.out
  clear hb
  go_wp2_with fail
  refine (check_ok _ _ ca cb xs ys _ HH.out.tab HO.out).mono ?_
  rintro e w9 ⟨rfl, hb⟩
  replace HH := Lib.hid (HH.out.below hb)
  replace c0 := HH.out.c0
  replace c1 := HH.out.c1
  replace cx0 := HH.out.cell CX0.out
  replace cxl := HH.out.cell CXL.out
  clear hb
  go_wp2_with fail
  refine (RR.out _ HH.out.tab).mono ?_
  rintro e w9 ⟨rfl, hb⟩
  replace HH := Lib.hid (HH.out.below hb)
  replace c0 := HH.out.c0
  replace c1 := HH.out.c1
  replace cx0 := HH.out.cell CX0.out
  replace cxl := HH.out.cell CXL.out
  clear hb
  go_wp2_with fail
  refine (A1.out _ HH.out.tab).mono ?_
  rintro e w9 ⟨rfl, hb⟩
  replace HH := Lib.hid (HH.out.below hb)
  replace c0 := HH.out.c0
  replace c1 := HH.out.c1
  replace cx0 := HH.out.cell CX0.out
  replace cxl := HH.out.cell CXL.out
  clear hb
  go_wp2_with fail
  go_ret
  exact ⟨rfl, HH.out.old⟩

set_option maxRecDepth 100000 in
set_option maxHeartbeats 8000000 in
theorem backs_030 (b1 o1 : Nat) (B : Option Addr) (ca cb : Nat) (xs ys : List Int) (y other v t u m X0 XL : Int) (w : World) (hT : TabIn w (some ⟨b1, o1, none⟩) B xs ys) (hO : Tb.okB xs ys = true) (hr : Tb.rsB xs ys = false)
    (hv : Tb.bk xs ys y = v) (ht : Tb.atv xs ys v = t) (hu : Tb.atv xs ys other = u) (hm : Tb.pk xs ys = m) (hx0 : w.cell? ⟨b1, o1, none⟩ = some (.int .i64 X0)) (hxl : w.cell? ⟨b1, o1 + (xs.length - 1), none⟩ = some (.int .i64 XL)) (g1 : X0 ≤ v) (g2 : v ≤ XL) (p1 : decide (other < X0) = false) (p2 : decide (v ≤ other) = false) (p3 : decide (u < y) = true) (p4 : decide (y ≤ t) = false) (p5 : (v == XL) = true) (p6 : decide (m < y) = true) :
    Calls Try.prog 5 #[.agg #[.slice (some ⟨b1, o1, none⟩) xs.length ca, .slice B ys.length cb], .int .i64 y, .int .i64 other] w fun e w' => e = .returned (.bool true) ∧ Below w.heap.size w w' := by
  have HH := Lib.hid (Held.new (ca := ca) (cb := cb) hT)
  have HO := Lib.hid hO
  have hok := (Tb.ok_iff xs ys).1 hO
  have h2 := hok.two
  have h16 := hok.most
  have hs := hok.same
  have hf1 : xs.length ≤ 40 := by omega
  have hf2 : ys.length ≤ 40 := by omega
  have hlen : 0 < xs.length := by omega
  have e2 : 0 ≤ (xs.length : Int) - 1 := by omega
  have e1 : (xs.length : Int) - 1 < (xs.length : Int) := by omega
  have e3 : ((xs.length : Int) - 1).toNat = xs.length - 1 := by omega
  have q1 : decide (X0 ≤ v) = true := by simpa using g1
  have q2 : decide (v ≤ XL) = true := by simpa using g2
  have q3 : (v != v) = false := by simp
  have CX0 := Lib.hid hx0
  have CXL := Lib.hid hxl
  have bc : ∀ W, TabIn W (some ⟨b1, o1, none⟩) B xs ys → Calls Try.prog 23 #[.agg #[.slice (some ⟨b1, o1, none⟩) xs.length ca, .slice B ys.length cb], .int .i64 y] W fun e w' => e = .returned (.int .i64 v) ∧ Below W.heap.size W w' := fun W h => by have := bk_c _ _ ca cb xs ys y W h; rwa [hv] at this
  have rc : ∀ W, TabIn W (some ⟨b1, o1, none⟩) B xs ys → Calls Try.prog 24 #[.agg #[.slice (some ⟨b1, o1, none⟩) xs.length ca, .slice B ys.length cb], .int .i64 y] W fun e w' => e = .returned (.int .i64 v) ∧ Below W.heap.size W w' := fun W h => by have := rback_ok _ _ ca cb xs ys y W h hO; rwa [← bk_ok hO, hv] at this
  have rr : ∀ W, TabIn W (some ⟨b1, o1, none⟩) B xs ys → Calls Try.prog 16 #[.agg #[.slice (some ⟨b1, o1, none⟩) xs.length ca, .slice B ys.length cb]] W fun e w' => e = .returned (.bool false) ∧ Below W.heap.size W w' := fun W h => by have := rrising_c _ _ ca cb xs ys W h; rwa [hr] at this
  have a1 : ∀ W, TabIn W (some ⟨b1, o1, none⟩) B xs ys → Calls Try.prog 17 #[.agg #[.slice (some ⟨b1, o1, none⟩) xs.length ca, .slice B ys.length cb], .int .i64 v] W fun e w' => e = .returned (.int .i64 t) ∧ Below W.heap.size W w' := fun W h => by have := atv_c _ _ ca cb xs ys v W h; rwa [ht] at this
  have a2 : ∀ W, TabIn W (some ⟨b1, o1, none⟩) B xs ys → Calls Try.prog 17 #[.agg #[.slice (some ⟨b1, o1, none⟩) xs.length ca, .slice B ys.length cb], .int .i64 other] W fun e w' => e = .returned (.int .i64 u) ∧ Below W.heap.size W w' := fun W h => by have := atv_c _ _ ca cb xs ys other W h; rwa [hu] at this
  have pc : ∀ W, TabIn W (some ⟨b1, o1, none⟩) B xs ys → Calls Try.prog 19 #[.agg #[.slice (some ⟨b1, o1, none⟩) xs.length ca, .slice B ys.length cb]] W fun e w' => e = .returned (.int .i64 m) ∧ Below W.heap.size W w' := fun W h => by have := peak_c _ _ ca cb xs ys W h; rwa [hm] at this
  have BC := Lib.hid bc
  have RC := Lib.hid rc
  have RR := Lib.hid rr
  have A1 := Lib.hid a1
  have A2 := Lib.hid a2
  have PC := Lib.hid pc
  clear hT hO hr hv ht hu hm hok hs bc rc rr a1 a2 pc hx0 hxl g1 g2
  go_enter Try.func5, Try.ntmps5
  go_wp2_with fail
  refine (awake_c _).mono ?_
  rintro e w9 ⟨rfl, hb⟩
  replace HH := Lib.hid (HH.out.below hb)
  replace c0 := HH.out.c0
  replace c1 := HH.out.c1
  replace cx0 := HH.out.cell CX0.out
  replace cxl := HH.out.cell CXL.out
  clear hb
  go_wp2_with fail
  refine (few_yes _ _ ca cb xs ys _ hf1 hf2).mono ?_
  rintro e w9 ⟨rfl, hb⟩
  replace HH := Lib.hid (HH.out.below hb)
  replace c0 := HH.out.c0
  replace c1 := HH.out.c1
  replace cx0 := HH.out.cell CX0.out
  replace cxl := HH.out.cell CXL.out
  clear hb
  go_wp2_with fail
  refine (BC.out _ HH.out.tab).mono ?_
  rintro e w9 ⟨rfl, hb⟩
  replace HH := Lib.hid (HH.out.below hb)
  replace c0 := HH.out.c0
  replace c1 := HH.out.c1
  replace cx0 := HH.out.cell CX0.out
  replace cxl := HH.out.cell CXL.out
  clear hb
  go_wp2_with fail
  refine (check_ok _ _ ca cb xs ys _ HH.out.tab HO.out).mono ?_
  rintro e w9 ⟨rfl, hb⟩
  replace HH := Lib.hid (HH.out.below hb)
  replace c0 := HH.out.c0
  replace c1 := HH.out.c1
  replace cx0 := HH.out.cell CX0.out
  replace cxl := HH.out.cell CXL.out
  clear hb
  go_wp2_with fail
  refine (RR.out _ HH.out.tab).mono ?_
  rintro e w9 ⟨rfl, hb⟩
  replace HH := Lib.hid (HH.out.below hb)
  replace c0 := HH.out.c0
  replace c1 := HH.out.c1
  replace cx0 := HH.out.cell CX0.out
  replace cxl := HH.out.cell CXL.out
  clear hb
  go_wp2_with fail
  refine (A1.out _ HH.out.tab).mono ?_
  rintro e w9 ⟨rfl, hb⟩
  replace HH := Lib.hid (HH.out.below hb)
  replace c0 := HH.out.c0
  replace c1 := HH.out.c1
  replace cx0 := HH.out.cell CX0.out
  replace cxl := HH.out.cell CXL.out
  clear hb
  go_wp2_with fail
  refine (A2.out _ HH.out.tab).mono ?_
  rintro e w9 ⟨rfl, hb⟩
  replace HH := Lib.hid (HH.out.below hb)
  replace c0 := HH.out.c0
  replace c1 := HH.out.c1
  replace cx0 := HH.out.cell CX0.out
  replace cxl := HH.out.cell CXL.out
  clear hb
  go_wp2_with fail
  refine (PC.out _ HH.out.tab).mono ?_
  rintro e w9 ⟨rfl, hb⟩
  replace HH := Lib.hid (HH.out.below hb)
  replace c0 := HH.out.c0
  replace c1 := HH.out.c1
  replace cx0 := HH.out.cell CX0.out
  replace cxl := HH.out.cell CXL.out
  clear hb
  go_wp2_with fail
  go_ret
  exact ⟨rfl, HH.out.old⟩

set_option maxRecDepth 100000 in
set_option maxHeartbeats 8000000 in
theorem backs_031 (b1 o1 : Nat) (B : Option Addr) (ca cb : Nat) (xs ys : List Int) (y other v t u m X0 XL : Int) (w : World) (hT : TabIn w (some ⟨b1, o1, none⟩) B xs ys) (hO : Tb.okB xs ys = true) (hr : Tb.rsB xs ys = false)
    (hv : Tb.bk xs ys y = v) (ht : Tb.atv xs ys v = t) (hu : Tb.atv xs ys other = u) (hm : Tb.pk xs ys = m) (hx0 : w.cell? ⟨b1, o1, none⟩ = some (.int .i64 X0)) (hxl : w.cell? ⟨b1, o1 + (xs.length - 1), none⟩ = some (.int .i64 XL)) (g1 : X0 ≤ v) (g2 : v ≤ XL) (p1 : decide (other < X0) = false) (p2 : decide (v ≤ other) = false) (p3 : decide (u < y) = true) (p4 : decide (y ≤ t) = true) :
    Calls Try.prog 5 #[.agg #[.slice (some ⟨b1, o1, none⟩) xs.length ca, .slice B ys.length cb], .int .i64 y, .int .i64 other] w fun e w' => e = .returned (.bool true) ∧ Below w.heap.size w w' := by
  have HH := Lib.hid (Held.new (ca := ca) (cb := cb) hT)
  have HO := Lib.hid hO
  have hok := (Tb.ok_iff xs ys).1 hO
  have h2 := hok.two
  have h16 := hok.most
  have hs := hok.same
  have hf1 : xs.length ≤ 40 := by omega
  have hf2 : ys.length ≤ 40 := by omega
  have hlen : 0 < xs.length := by omega
  have e2 : 0 ≤ (xs.length : Int) - 1 := by omega
  have e1 : (xs.length : Int) - 1 < (xs.length : Int) := by omega
  have e3 : ((xs.length : Int) - 1).toNat = xs.length - 1 := by omega
  have q1 : decide (X0 ≤ v) = true := by simpa using g1
  have q2 : decide (v ≤ XL) = true := by simpa using g2
  have q3 : (v != v) = false := by simp
  have CX0 := Lib.hid hx0
  have CXL := Lib.hid hxl
  have bc : ∀ W, TabIn W (some ⟨b1, o1, none⟩) B xs ys → Calls Try.prog 23 #[.agg #[.slice (some ⟨b1, o1, none⟩) xs.length ca, .slice B ys.length cb], .int .i64 y] W fun e w' => e = .returned (.int .i64 v) ∧ Below W.heap.size W w' := fun W h => by have := bk_c _ _ ca cb xs ys y W h; rwa [hv] at this
  have rc : ∀ W, TabIn W (some ⟨b1, o1, none⟩) B xs ys → Calls Try.prog 24 #[.agg #[.slice (some ⟨b1, o1, none⟩) xs.length ca, .slice B ys.length cb], .int .i64 y] W fun e w' => e = .returned (.int .i64 v) ∧ Below W.heap.size W w' := fun W h => by have := rback_ok _ _ ca cb xs ys y W h hO; rwa [← bk_ok hO, hv] at this
  have rr : ∀ W, TabIn W (some ⟨b1, o1, none⟩) B xs ys → Calls Try.prog 16 #[.agg #[.slice (some ⟨b1, o1, none⟩) xs.length ca, .slice B ys.length cb]] W fun e w' => e = .returned (.bool false) ∧ Below W.heap.size W w' := fun W h => by have := rrising_c _ _ ca cb xs ys W h; rwa [hr] at this
  have a1 : ∀ W, TabIn W (some ⟨b1, o1, none⟩) B xs ys → Calls Try.prog 17 #[.agg #[.slice (some ⟨b1, o1, none⟩) xs.length ca, .slice B ys.length cb], .int .i64 v] W fun e w' => e = .returned (.int .i64 t) ∧ Below W.heap.size W w' := fun W h => by have := atv_c _ _ ca cb xs ys v W h; rwa [ht] at this
  have a2 : ∀ W, TabIn W (some ⟨b1, o1, none⟩) B xs ys → Calls Try.prog 17 #[.agg #[.slice (some ⟨b1, o1, none⟩) xs.length ca, .slice B ys.length cb], .int .i64 other] W fun e w' => e = .returned (.int .i64 u) ∧ Below W.heap.size W w' := fun W h => by have := atv_c _ _ ca cb xs ys other W h; rwa [hu] at this
  have pc : ∀ W, TabIn W (some ⟨b1, o1, none⟩) B xs ys → Calls Try.prog 19 #[.agg #[.slice (some ⟨b1, o1, none⟩) xs.length ca, .slice B ys.length cb]] W fun e w' => e = .returned (.int .i64 m) ∧ Below W.heap.size W w' := fun W h => by have := peak_c _ _ ca cb xs ys W h; rwa [hm] at this
  have BC := Lib.hid bc
  have RC := Lib.hid rc
  have RR := Lib.hid rr
  have A1 := Lib.hid a1
  have A2 := Lib.hid a2
  have PC := Lib.hid pc
  clear hT hO hr hv ht hu hm hok hs bc rc rr a1 a2 pc hx0 hxl g1 g2
  go_enter Try.func5, Try.ntmps5
  go_wp2_with fail
  refine (awake_c _).mono ?_
  rintro e w9 ⟨rfl, hb⟩
  replace HH := Lib.hid (HH.out.below hb)
  replace c0 := HH.out.c0
  replace c1 := HH.out.c1
  replace cx0 := HH.out.cell CX0.out
  replace cxl := HH.out.cell CXL.out
  clear hb
  go_wp2_with fail
  refine (few_yes _ _ ca cb xs ys _ hf1 hf2).mono ?_
  rintro e w9 ⟨rfl, hb⟩
  replace HH := Lib.hid (HH.out.below hb)
  replace c0 := HH.out.c0
  replace c1 := HH.out.c1
  replace cx0 := HH.out.cell CX0.out
  replace cxl := HH.out.cell CXL.out
  clear hb
  go_wp2_with fail
  refine (BC.out _ HH.out.tab).mono ?_
  rintro e w9 ⟨rfl, hb⟩
  replace HH := Lib.hid (HH.out.below hb)
  replace c0 := HH.out.c0
  replace c1 := HH.out.c1
  replace cx0 := HH.out.cell CX0.out
  replace cxl := HH.out.cell CXL.out
  clear hb
  go_wp2_with fail
  refine (check_ok _ _ ca cb xs ys _ HH.out.tab HO.out).mono ?_
  rintro e w9 ⟨rfl, hb⟩
  replace HH := Lib.hid (HH.out.below hb)
  replace c0 := HH.out.c0
  replace c1 := HH.out.c1
  replace cx0 := HH.out.cell CX0.out
  replace cxl := HH.out.cell CXL.out
  clear hb
  go_wp2_with fail
  refine (RR.out _ HH.out.tab).mono ?_
  rintro e w9 ⟨rfl, hb⟩
  replace HH := Lib.hid (HH.out.below hb)
  replace c0 := HH.out.c0
  replace c1 := HH.out.c1
  replace cx0 := HH.out.cell CX0.out
  replace cxl := HH.out.cell CXL.out
  clear hb
  go_wp2_with fail
  refine (A1.out _ HH.out.tab).mono ?_
  rintro e w9 ⟨rfl, hb⟩
  replace HH := Lib.hid (HH.out.below hb)
  replace c0 := HH.out.c0
  replace c1 := HH.out.c1
  replace cx0 := HH.out.cell CX0.out
  replace cxl := HH.out.cell CXL.out
  clear hb
  go_wp2_with fail
  refine (A2.out _ HH.out.tab).mono ?_
  rintro e w9 ⟨rfl, hb⟩
  replace HH := Lib.hid (HH.out.below hb)
  replace c0 := HH.out.c0
  replace c1 := HH.out.c1
  replace cx0 := HH.out.cell CX0.out
  replace cxl := HH.out.cell CXL.out
  clear hb
  go_wp2_with fail
  go_ret
  exact ⟨rfl, HH.out.old⟩

set_option maxRecDepth 100000 in
set_option maxHeartbeats 8000000 in
theorem backs_110 (b1 o1 : Nat) (B : Option Addr) (ca cb : Nat) (xs ys : List Int) (y other v t u m X0 XL : Int) (w : World) (hT : TabIn w (some ⟨b1, o1, none⟩) B xs ys) (hO : Tb.okB xs ys = true) (hr : Tb.rsB xs ys = true)
    (hv : Tb.bk xs ys y = v) (ht : Tb.atv xs ys v = t) (hu : Tb.atv xs ys other = u) (hm : Tb.pk xs ys = m) (hx0 : w.cell? ⟨b1, o1, none⟩ = some (.int .i64 X0)) (hxl : w.cell? ⟨b1, o1 + (xs.length - 1), none⟩ = some (.int .i64 XL)) (g1 : X0 ≤ v) (g2 : v ≤ XL) (p1 : decide (other < X0) = true) (p4 : decide (y ≤ t) = false) (p5 : (v == XL) = true) (p6 : decide (m < y) = true) :
    Calls Try.prog 5 #[.agg #[.slice (some ⟨b1, o1, none⟩) xs.length ca, .slice B ys.length cb], .int .i64 y, .int .i64 other] w fun e w' => e = .returned (.bool true) ∧ Below w.heap.size w w' := by
  have HH := Lib.hid (Held.new (ca := ca) (cb := cb) hT)
  have HO := Lib.hid hO
  have hok := (Tb.ok_iff xs ys).1 hO
  have h2 := hok.two
  have h16 := hok.most
  have hs := hok.same
  have hf1 : xs.length ≤ 40 := by omega
  have hf2 : ys.length ≤ 40 := by omega
  have hlen : 0 < xs.length := by omega
  have e2 : 0 ≤ (xs.length : Int) - 1 := by omega
  have e1 : (xs.length : Int) - 1 < (xs.length : Int) := by omega
  have e3 : ((xs.length : Int) - 1).toNat = xs.length - 1 := by omega
  have q1 : decide (X0 ≤ v) = true := by simpa using g1
  have q2 : decide (v ≤ XL) = true := by simpa using g2
  have q3 : (v != v) = false := by simp
  have CX0 := Lib.hid hx0
  have CXL := Lib.hid hxl
  have bc : ∀ W, TabIn W (some ⟨b1, o1, none⟩) B xs ys → Calls Try.prog 23 #[.agg #[.slice (some ⟨b1, o1, none⟩) xs.length ca, .slice B ys.length cb], .int .i64 y] W fun e w' => e = .returned (.int .i64 v) ∧ Below W.heap.size W w' := fun W h => by have := bk_c _ _ ca cb xs ys y W h; rwa [hv] at this
  have rc : ∀ W, TabIn W (some ⟨b1, o1, none⟩) B xs ys → Calls Try.prog 24 #[.agg #[.slice (some ⟨b1, o1, none⟩) xs.length ca, .slice B ys.length cb], .int .i64 y] W fun e w' => e = .returned (.int .i64 v) ∧ Below W.heap.size W w' := fun W h => by have := rback_ok _ _ ca cb xs ys y W h hO; rwa [← bk_ok hO, hv] at this
  have rr : ∀ W, TabIn W (some ⟨b1, o1, none⟩) B xs ys → Calls Try.prog 16 #[.agg #[.slice (some ⟨b1, o1, none⟩) xs.length ca, .slice B ys.length cb]] W fun e w' => e = .returned (.bool true) ∧ Below W.heap.size W w' := fun W h => by have := rrising_c _ _ ca cb xs ys W h; rwa [hr] at this
  have a1 : ∀ W, TabIn W (some ⟨b1, o1, none⟩) B xs ys → Calls Try.prog 17 #[.agg #[.slice (some ⟨b1, o1, none⟩) xs.length ca, .slice B ys.length cb], .int .i64 v] W fun e w' => e = .returned (.int .i64 t) ∧ Below W.heap.size W w' := fun W h => by have := atv_c _ _ ca cb xs ys v W h; rwa [ht] at this
  have a2 : ∀ W, TabIn W (some ⟨b1, o1, none⟩) B xs ys → Calls Try.prog 17 #[.agg #[.slice (some ⟨b1, o1, none⟩) xs.length ca, .slice B ys.length cb], .int .i64 other] W fun e w' => e = .returned (.int .i64 u) ∧ Below W.heap.size W w' := fun W h => by have := atv_c _ _ ca cb xs ys other W h; rwa [hu] at this
  have pc : ∀ W, TabIn W (some ⟨b1, o1, none⟩) B xs ys → Calls Try.prog 19 #[.agg #[.slice (some ⟨b1, o1, none⟩) xs.length ca, .slice B ys.length cb]] W fun e w' => e = .returned (.int .i64 m) ∧ Below W.heap.size W w' := fun W h => by have := peak_c _ _ ca cb xs ys W h; rwa [hm] at this
  have BC := Lib.hid bc
  have RC := Lib.hid rc
  have RR := Lib.hid rr
  have A1 := Lib.hid a1
  have A2 := Lib.hid a2
  have PC := Lib.hid pc
  clear hT hO hr hv ht hu hm hok hs bc rc rr a1 a2 pc hx0 hxl g1 g2
  go_enter Try.func5, Try.ntmps5
  go_wp2_with fail
  refine (awake_c _).mono ?_
  rintro e w9 ⟨rfl, hb⟩
  replace HH := Lib.hid (HH.out.below hb)
  replace c0 := HH.out.c0
  replace c1 := HH.out.c1
  replace cx0 := HH.out.cell CX0.out
  replace cxl := HH.out.cell CXL.out
  clear hb
  go_wp2_with fail
  refine (few_yes _ _ ca cb xs ys _ hf1 hf2).mono ?_
  rintro e w9 ⟨rfl, hb⟩
  replace HH := Lib.hid (HH.out.below hb)
  replace c0 := HH.out.c0
  replace c1 := HH.out.c1
  replace cx0 := HH.out.cell CX0.out
  replace cxl := HH.out.cell CXL.out
  clear hb
  go_wp2_with fail
  refine (BC.out _ HH.out.tab).mono ?_
  rintro e w9 ⟨rfl, hb⟩
  replace HH := Lib.hid (HH.out.below hb)
  replace c0 := HH.out.c0
  replace c1 := HH.out.c1
  replace cx0 := HH.out.cell CX0.out
  replace cxl := HH.out.cell CXL.out
  clear hb
  go_wp2_with fail
  refine (check_ok _ _ ca cb xs ys _ HH.out.tab HO.out).mono ?_
  rintro e w9 ⟨rfl, hb⟩
  replace HH := Lib.hid (HH.out.below hb)
  replace c0 := HH.out.c0
  replace c1 := HH.out.c1
  replace cx0 := HH.out.cell CX0.out
  replace cxl := HH.out.cell CXL.out
  clear hb
  go_wp2_with fail
  refine (RR.out _ HH.out.tab).mono ?_
  rintro e w9 ⟨rfl, hb⟩
  replace HH := Lib.hid (HH.out.below hb)
  replace c0 := HH.out.c0
  replace c1 := HH.out.c1
  replace cx0 := HH.out.cell CX0.out
  replace cxl := HH.out.cell CXL.out
  clear hb
  go_wp2_with fail
  refine (RC.out _ HH.out.tab).mono ?_
  rintro e w9 ⟨rfl, hb⟩
  replace HH := Lib.hid (HH.out.below hb)
  replace c0 := HH.out.c0
  replace c1 := HH.out.c1
  replace cx0 := HH.out.cell CX0.out
  replace cxl := HH.out.cell CXL.out
  clear hb
  go_wp2_with fail
  refine (A1.out _ HH.out.tab).mono ?_
  rintro e w9 ⟨rfl, hb⟩
  replace HH := Lib.hid (HH.out.below hb)
  replace c0 := HH.out.c0
  replace c1 := HH.out.c1
  replace cx0 := HH.out.cell CX0.out
  replace cxl := HH.out.cell CXL.out
  clear hb
  go_wp2_with fail
  refine (PC.out _ HH.out.tab).mono ?_
  rintro e w9 ⟨rfl, hb⟩
  replace HH := Lib.hid (HH.out.below hb)
  replace c0 := HH.out.c0
  replace c1 := HH.out.c1
  replace cx0 := HH.out.cell CX0.out
  replace cxl := HH.out.cell CXL.out
  clear hb
  go_wp2_with fail
  go_ret
  exact ⟨rfl, HH.out.old⟩

set_option maxRecDepth 100000 in
set_option maxHeartbeats 8000000 in
theorem backs_111 (b1 o1 : Nat) (B : Option Addr) (ca cb : Nat) (xs ys : List Int) (y other v t u m X0 XL : Int) (w : World) (hT : TabIn w (some ⟨b1, o1, none⟩) B xs ys) (hO : Tb.okB xs ys = true) (hr : Tb.rsB xs ys = true)
    (hv : Tb.bk xs ys y = v) (ht : Tb.atv xs ys v = t) (hu : Tb.atv xs ys other = u) (hm : Tb.pk xs ys = m) (hx0 : w.cell? ⟨b1, o1, none⟩ = some (.int .i64 X0)) (hxl : w.cell? ⟨b1, o1 + (xs.length - 1), none⟩ = some (.int .i64 XL)) (g1 : X0 ≤ v) (g2 : v ≤ XL) (p1 : decide (other < X0) = true) (p4 : decide (y ≤ t) = true) :
    Calls Try.prog 5 #[.agg #[.slice (some ⟨b1, o1, none⟩) xs.length ca, .slice B ys.length cb], .int .i64 y, .int .i64 other] w fun e w' => e = .returned (.bool true) ∧ Below w.heap.size w w' := by
  have HH := Lib.hid (Held.new (ca := ca) (cb := cb) hT)
  have HO := Lib.hid hO
  have hok := (Tb.ok_iff xs ys).1 hO
  have h2 := hok.two
  have h16 := hok.most
  have hs := hok.same
  have hf1 : xs.length ≤ 40 := by omega
  have hf2 : ys.length ≤ 40 := by omega
  have hlen : 0 < xs.length := by omega
  have e2 : 0 ≤ (xs.length : Int) - 1 := by omega
  have e1 : (xs.length : Int) - 1 < (xs.length : Int) := by omega
  have e3 : ((xs.length : Int) - 1).toNat = xs.length - 1 := by omega
  have q1 : decide (X0 ≤ v) = true := by simpa using g1
  have q2 : decide (v ≤ XL) = true := by simpa using g2
  have q3 : (v != v) = false := by simp
  have CX0 := Lib.hid hx0
  have CXL := Lib.hid hxl
  have bc : ∀ W, TabIn W (some ⟨b1, o1, none⟩) B xs ys → Calls Try.prog 23 #[.agg #[.slice (some ⟨b1, o1, none⟩) xs.length ca, .slice B ys.length cb], .int .i64 y] W fun e w' => e = .returned (.int .i64 v) ∧ Below W.heap.size W w' := fun W h => by have := bk_c _ _ ca cb xs ys y W h; rwa [hv] at this
  have rc : ∀ W, TabIn W (some ⟨b1, o1, none⟩) B xs ys → Calls Try.prog 24 #[.agg #[.slice (some ⟨b1, o1, none⟩) xs.length ca, .slice B ys.length cb], .int .i64 y] W fun e w' => e = .returned (.int .i64 v) ∧ Below W.heap.size W w' := fun W h => by have := rback_ok _ _ ca cb xs ys y W h hO; rwa [← bk_ok hO, hv] at this
  have rr : ∀ W, TabIn W (some ⟨b1, o1, none⟩) B xs ys → Calls Try.prog 16 #[.agg #[.slice (some ⟨b1, o1, none⟩) xs.length ca, .slice B ys.length cb]] W fun e w' => e = .returned (.bool true) ∧ Below W.heap.size W w' := fun W h => by have := rrising_c _ _ ca cb xs ys W h; rwa [hr] at this
  have a1 : ∀ W, TabIn W (some ⟨b1, o1, none⟩) B xs ys → Calls Try.prog 17 #[.agg #[.slice (some ⟨b1, o1, none⟩) xs.length ca, .slice B ys.length cb], .int .i64 v] W fun e w' => e = .returned (.int .i64 t) ∧ Below W.heap.size W w' := fun W h => by have := atv_c _ _ ca cb xs ys v W h; rwa [ht] at this
  have a2 : ∀ W, TabIn W (some ⟨b1, o1, none⟩) B xs ys → Calls Try.prog 17 #[.agg #[.slice (some ⟨b1, o1, none⟩) xs.length ca, .slice B ys.length cb], .int .i64 other] W fun e w' => e = .returned (.int .i64 u) ∧ Below W.heap.size W w' := fun W h => by have := atv_c _ _ ca cb xs ys other W h; rwa [hu] at this
  have pc : ∀ W, TabIn W (some ⟨b1, o1, none⟩) B xs ys → Calls Try.prog 19 #[.agg #[.slice (some ⟨b1, o1, none⟩) xs.length ca, .slice B ys.length cb]] W fun e w' => e = .returned (.int .i64 m) ∧ Below W.heap.size W w' := fun W h => by have := peak_c _ _ ca cb xs ys W h; rwa [hm] at this
  have BC := Lib.hid bc
  have RC := Lib.hid rc
  have RR := Lib.hid rr
  have A1 := Lib.hid a1
  have A2 := Lib.hid a2
  have PC := Lib.hid pc
  clear hT hO hr hv ht hu hm hok hs bc rc rr a1 a2 pc hx0 hxl g1 g2
  go_enter Try.func5, Try.ntmps5
  go_wp2_with fail
  refine (awake_c _).mono ?_
  rintro e w9 ⟨rfl, hb⟩
  replace HH := Lib.hid (HH.out.below hb)
  replace c0 := HH.out.c0
  replace c1 := HH.out.c1
  replace cx0 := HH.out.cell CX0.out
  replace cxl := HH.out.cell CXL.out
  clear hb
  go_wp2_with fail
  refine (few_yes _ _ ca cb xs ys _ hf1 hf2).mono ?_
  rintro e w9 ⟨rfl, hb⟩
  replace HH := Lib.hid (HH.out.below hb)
  replace c0 := HH.out.c0
  replace c1 := HH.out.c1
  replace cx0 := HH.out.cell CX0.out
  replace cxl := HH.out.cell CXL.out
  clear hb
  go_wp2_with fail
  refine (BC.out _ HH.out.tab).mono ?_
  rintro e w9 ⟨rfl, hb⟩
  replace HH := Lib.hid (HH.out.below hb)
  replace c0 := HH.out.c0
  replace c1 := HH.out.c1
  replace cx0 := HH.out.cell CX0.out
  replace cxl := HH.out.cell CXL.out
  clear hb
  go_wp2_with fail
  refine (check_ok _ _ ca cb xs ys _ HH.out.tab HO.out).mono ?_
  rintro e w9 ⟨rfl, hb⟩
  replace HH := Lib.hid (HH.out.below hb)
  replace c0 := HH.out.c0
  replace c1 := HH.out.c1
  replace cx0 := HH.out.cell CX0.out
  replace cxl := HH.out.cell CXL.out
  clear hb
  go_wp2_with fail
  refine (RR.out _ HH.out.tab).mono ?_
  rintro e w9 ⟨rfl, hb⟩
  replace HH := Lib.hid (HH.out.below hb)
  replace c0 := HH.out.c0
  replace c1 := HH.out.c1
  replace cx0 := HH.out.cell CX0.out
  replace cxl := HH.out.cell CXL.out
  clear hb
  go_wp2_with fail
  refine (RC.out _ HH.out.tab).mono ?_
  rintro e w9 ⟨rfl, hb⟩
  replace HH := Lib.hid (HH.out.below hb)
  replace c0 := HH.out.c0
  replace c1 := HH.out.c1
  replace cx0 := HH.out.cell CX0.out
  replace cxl := HH.out.cell CXL.out
  clear hb
  go_wp2_with fail
  refine (A1.out _ HH.out.tab).mono ?_
  rintro e w9 ⟨rfl, hb⟩
  replace HH := Lib.hid (HH.out.below hb)
  replace c0 := HH.out.c0
  replace c1 := HH.out.c1
  replace cx0 := HH.out.cell CX0.out
  replace cxl := HH.out.cell CXL.out
  clear hb
  go_wp2_with fail
  go_ret
  exact ⟨rfl, HH.out.old⟩

set_option maxRecDepth 100000 in
set_option maxHeartbeats 8000000 in
theorem backs_120 (b1 o1 : Nat) (B : Option Addr) (ca cb : Nat) (xs ys : List Int) (y other v t u m X0 XL : Int) (w : World) (hT : TabIn w (some ⟨b1, o1, none⟩) B xs ys) (hO : Tb.okB xs ys = true) (hr : Tb.rsB xs ys = true)
    (hv : Tb.bk xs ys y = v) (ht : Tb.atv xs ys v = t) (hu : Tb.atv xs ys other = u) (hm : Tb.pk xs ys = m) (hx0 : w.cell? ⟨b1, o1, none⟩ = some (.int .i64 X0)) (hxl : w.cell? ⟨b1, o1 + (xs.length - 1), none⟩ = some (.int .i64 XL)) (g1 : X0 ≤ v) (g2 : v ≤ XL) (p1 : decide (other < X0) = false) (p2 : decide (v ≤ other) = true) (p4 : decide (y ≤ t) = false) (p5 : (v == XL) = true) (p6 : decide (m < y) = true) :
    Calls Try.prog 5 #[.agg #[.slice (some ⟨b1, o1, none⟩) xs.length ca, .slice B ys.length cb], .int .i64 y, .int .i64 other] w fun e w' => e = .returned (.bool true) ∧ Below w.heap.size w w' := by
  have HH := Lib.hid (Held.new (ca := ca) (cb := cb) hT)
  have HO := Lib.hid hO
  have hok := (Tb.ok_iff xs ys).1 hO
  have h2 := hok.two
  have h16 := hok.most
  have hs := hok.same
  have hf1 : xs.length ≤ 40 := by omega
  have hf2 : ys.length ≤ 40 := by omega
  have hlen : 0 < xs.length := by omega
  have e2 : 0 ≤ (xs.length : Int) - 1 := by omega
  have e1 : (xs.length : Int) - 1 < (xs.length : Int) := by omega
  have e3 : ((xs.length : Int) - 1).toNat = xs.length - 1 := by omega
  have q1 : decide (X0 ≤ v) = true := by simpa using g1
  have q2 : decide (v ≤ XL) = true := by simpa using g2
  have q3 : (v != v) = false := by simp
  have CX0 := Lib.hid hx0
  have CXL := Lib.hid hxl
  have bc : ∀ W, TabIn W (some ⟨b1, o1, none⟩) B xs ys → Calls Try.prog 23 #[.agg #[.slice (some ⟨b1, o1, none⟩) xs.length ca, .slice B ys.length cb], .int .i64 y] W fun e w' => e = .returned (.int .i64 v) ∧ Below W.heap.size W w' := fun W h => by have := bk_c _ _ ca cb xs ys y W h; rwa [hv] at this
  have rc : ∀ W, TabIn W (some ⟨b1, o1, none⟩) B xs ys → Calls Try.prog 24 #[.agg #[.slice (some ⟨b1, o1, none⟩) xs.length ca, .slice B ys.length cb], .int .i64 y] W fun e w' => e = .returned (.int .i64 v) ∧ Below W.heap.size W w' := fun W h => by have := rback_ok _ _ ca cb xs ys y W h hO; rwa [← bk_ok hO, hv] at this
  have rr : ∀ W, TabIn W (some ⟨b1, o1, none⟩) B xs ys → Calls Try.prog 16 #[.agg #[.slice (some ⟨b1, o1, none⟩) xs.length ca, .slice B ys.length cb]] W fun e w' => e = .returned (.bool true) ∧ Below W.heap.size W w' := fun W h => by have := rrising_c _ _ ca cb xs ys W h; rwa [hr] at this
  have a1 : ∀ W, TabIn W (some ⟨b1, o1, none⟩) B xs ys → Calls Try.prog 17 #[.agg #[.slice (some ⟨b1, o1, none⟩) xs.length ca, .slice B ys.length cb], .int .i64 v] W fun e w' => e = .returned (.int .i64 t) ∧ Below W.heap.size W w' := fun W h => by have := atv_c _ _ ca cb xs ys v W h; rwa [ht] at this
  have a2 : ∀ W, TabIn W (some ⟨b1, o1, none⟩) B xs ys → Calls Try.prog 17 #[.agg #[.slice (some ⟨b1, o1, none⟩) xs.length ca, .slice B ys.length cb], .int .i64 other] W fun e w' => e = .returned (.int .i64 u) ∧ Below W.heap.size W w' := fun W h => by have := atv_c _ _ ca cb xs ys other W h; rwa [hu] at this
  have pc : ∀ W, TabIn W (some ⟨b1, o1, none⟩) B xs ys → Calls Try.prog 19 #[.agg #[.slice (some ⟨b1, o1, none⟩) xs.length ca, .slice B ys.length cb]] W fun e w' => e = .returned (.int .i64 m) ∧ Below W.heap.size W w' := fun W h => by have := peak_c _ _ ca cb xs ys W h; rwa [hm] at this
  have BC := Lib.hid bc
  have RC := Lib.hid rc
  have RR := Lib.hid rr
  have A1 := Lib.hid a1
  have A2 := Lib.hid a2
  have PC := Lib.hid pc
  clear hT hO hr hv ht hu hm hok hs bc rc rr a1 a2 pc hx0 hxl g1 g2
  go_enter Try.func5, Try.ntmps5
  go_wp2_with fail
  refine (awake_c _).mono ?_
  rintro e w9 ⟨rfl, hb⟩
  replace HH := Lib.hid (HH.out.below hb)
  replace c0 := HH.out.c0
  replace c1 := HH.out.c1
  replace cx0 := HH.out.cell CX0.out
  replace cxl := HH.out.cell CXL.out
  clear hb
  go_wp2_with fail
  refine (few_yes _ _ ca cb xs ys _ hf1 hf2).mono ?_
  rintro e w9 ⟨rfl, hb⟩
  replace HH := Lib.hid (HH.out.below hb)
  replace c0 := HH.out.c0
  replace c1 := HH.out.c1
  replace cx0 := HH.out.cell CX0.out
  replace cxl := HH.out.cell CXL.out
  clear hb
  go_wp2_with fail
  refine (BC.out _ HH.out.tab).mono ?_
  rintro e w9 ⟨rfl, hb⟩
  replace HH := Lib.hid (HH.out.below hb)
  replace c0 := HH.out.c0
  replace c1 := HH.out.c1
  replace cx0 := HH.out.cell CX0.out
  replace cxl := HH.out.cell CXL.out
  clear hb
  go_wp2_with fail
  refine (check_ok _ _ ca cb xs ys _ HH.out.tab HO.out).mono ?_
  rintro e w9 ⟨rfl, hb⟩
  replace HH := Lib.hid (HH.out.below hb)
  replace c0 := HH.out.c0
  replace c1 := HH.out.c1
  replace cx0 := HH.out.cell CX0.out
  replace cxl := HH.out.cell CXL.out
  clear hb
  go_wp2_with fail
  refine (RR.out _ HH.out.tab).mono ?_
  rintro e w9 ⟨rfl, hb⟩
  replace HH := Lib.hid (HH.out.below hb)
  replace c0 := HH.out.c0
  replace c1 := HH.out.c1
  replace cx0 := HH.out.cell CX0.out
  replace cxl := HH.out.cell CXL.out
  clear hb
  go_wp2_with fail
  refine (RC.out _ HH.out.tab).mono ?_
  rintro e w9 ⟨rfl, hb⟩
  replace HH := Lib.hid (HH.out.below hb)
  replace c0 := HH.out.c0
  replace c1 := HH.out.c1
  replace cx0 := HH.out.cell CX0.out
  replace cxl := HH.out.cell CXL.out
  clear hb
  go_wp2_with fail
  refine (A1.out _ HH.out.tab).mono ?_
  rintro e w9 ⟨rfl, hb⟩
  replace HH := Lib.hid (HH.out.below hb)
  replace c0 := HH.out.c0
  replace c1 := HH.out.c1
  replace cx0 := HH.out.cell CX0.out
  replace cxl := HH.out.cell CXL.out
  clear hb
  go_wp2_with fail
  refine (PC.out _ HH.out.tab).mono ?_
  rintro e w9 ⟨rfl, hb⟩
  replace HH := Lib.hid (HH.out.below hb)
  replace c0 := HH.out.c0
  replace c1 := HH.out.c1
  replace cx0 := HH.out.cell CX0.out
  replace cxl := HH.out.cell CXL.out
  clear hb
  go_wp2_with fail
  go_ret
  exact ⟨rfl, HH.out.old⟩

set_option maxRecDepth 100000 in
set_option maxHeartbeats 8000000 in
theorem backs_121 (b1 o1 : Nat) (B : Option Addr) (ca cb : Nat) (xs ys : List Int) (y other v t u m X0 XL : Int) (w : World) (hT : TabIn w (some ⟨b1, o1, none⟩) B xs ys) (hO : Tb.okB xs ys = true) (hr : Tb.rsB xs ys = true)
    (hv : Tb.bk xs ys y = v) (ht : Tb.atv xs ys v = t) (hu : Tb.atv xs ys other = u) (hm : Tb.pk xs ys = m) (hx0 : w.cell? ⟨b1, o1, none⟩ = some (.int .i64 X0)) (hxl : w.cell? ⟨b1, o1 + (xs.length - 1), none⟩ = some (.int .i64 XL)) (g1 : X0 ≤ v) (g2 : v ≤ XL) (p1 : decide (other < X0) = false) (p2 : decide (v ≤ other) = true) (p4 : decide (y ≤ t) = true) :
    Calls Try.prog 5 #[.agg #[.slice (some ⟨b1, o1, none⟩) xs.length ca, .slice B ys.length cb], .int .i64 y, .int .i64 other] w fun e w' => e = .returned (.bool true) ∧ Below w.heap.size w w' := by
  have HH := Lib.hid (Held.new (ca := ca) (cb := cb) hT)
  have HO := Lib.hid hO
  have hok := (Tb.ok_iff xs ys).1 hO
  have h2 := hok.two
  have h16 := hok.most
  have hs := hok.same
  have hf1 : xs.length ≤ 40 := by omega
  have hf2 : ys.length ≤ 40 := by omega
  have hlen : 0 < xs.length := by omega
  have e2 : 0 ≤ (xs.length : Int) - 1 := by omega
  have e1 : (xs.length : Int) - 1 < (xs.length : Int) := by omega
  have e3 : ((xs.length : Int) - 1).toNat = xs.length - 1 := by omega
  have q1 : decide (X0 ≤ v) = true := by simpa using g1
  have q2 : decide (v ≤ XL) = true := by simpa using g2
  have q3 : (v != v) = false := by simp
  have CX0 := Lib.hid hx0
  have CXL := Lib.hid hxl
  have bc : ∀ W, TabIn W (some ⟨b1, o1, none⟩) B xs ys → Calls Try.prog 23 #[.agg #[.slice (some ⟨b1, o1, none⟩) xs.length ca, .slice B ys.length cb], .int .i64 y] W fun e w' => e = .returned (.int .i64 v) ∧ Below W.heap.size W w' := fun W h => by have := bk_c _ _ ca cb xs ys y W h; rwa [hv] at this
  have rc : ∀ W, TabIn W (some ⟨b1, o1, none⟩) B xs ys → Calls Try.prog 24 #[.agg #[.slice (some ⟨b1, o1, none⟩) xs.length ca, .slice B ys.length cb], .int .i64 y] W fun e w' => e = .returned (.int .i64 v) ∧ Below W.heap.size W w' := fun W h => by have := rback_ok _ _ ca cb xs ys y W h hO; rwa [← bk_ok hO, hv] at this
  have rr : ∀ W, TabIn W (some ⟨b1, o1, none⟩) B xs ys → Calls Try.prog 16 #[.agg #[.slice (some ⟨b1, o1, none⟩) xs.length ca, .slice B ys.length cb]] W fun e w' => e = .returned (.bool true) ∧ Below W.heap.size W w' := fun W h => by have := rrising_c _ _ ca cb xs ys W h; rwa [hr] at this
  have a1 : ∀ W, TabIn W (some ⟨b1, o1, none⟩) B xs ys → Calls Try.prog 17 #[.agg #[.slice (some ⟨b1, o1, none⟩) xs.length ca, .slice B ys.length cb], .int .i64 v] W fun e w' => e = .returned (.int .i64 t) ∧ Below W.heap.size W w' := fun W h => by have := atv_c _ _ ca cb xs ys v W h; rwa [ht] at this
  have a2 : ∀ W, TabIn W (some ⟨b1, o1, none⟩) B xs ys → Calls Try.prog 17 #[.agg #[.slice (some ⟨b1, o1, none⟩) xs.length ca, .slice B ys.length cb], .int .i64 other] W fun e w' => e = .returned (.int .i64 u) ∧ Below W.heap.size W w' := fun W h => by have := atv_c _ _ ca cb xs ys other W h; rwa [hu] at this
  have pc : ∀ W, TabIn W (some ⟨b1, o1, none⟩) B xs ys → Calls Try.prog 19 #[.agg #[.slice (some ⟨b1, o1, none⟩) xs.length ca, .slice B ys.length cb]] W fun e w' => e = .returned (.int .i64 m) ∧ Below W.heap.size W w' := fun W h => by have := peak_c _ _ ca cb xs ys W h; rwa [hm] at this
  have BC := Lib.hid bc
  have RC := Lib.hid rc
  have RR := Lib.hid rr
  have A1 := Lib.hid a1
  have A2 := Lib.hid a2
  have PC := Lib.hid pc
  clear hT hO hr hv ht hu hm hok hs bc rc rr a1 a2 pc hx0 hxl g1 g2
  go_enter Try.func5, Try.ntmps5
  go_wp2_with fail
  refine (awake_c _).mono ?_
  rintro e w9 ⟨rfl, hb⟩
  replace HH := Lib.hid (HH.out.below hb)
  replace c0 := HH.out.c0
  replace c1 := HH.out.c1
  replace cx0 := HH.out.cell CX0.out
  replace cxl := HH.out.cell CXL.out
  clear hb
  go_wp2_with fail
  refine (few_yes _ _ ca cb xs ys _ hf1 hf2).mono ?_
  rintro e w9 ⟨rfl, hb⟩
  replace HH := Lib.hid (HH.out.below hb)
  replace c0 := HH.out.c0
  replace c1 := HH.out.c1
  replace cx0 := HH.out.cell CX0.out
  replace cxl := HH.out.cell CXL.out
  clear hb
  go_wp2_with fail
  refine (BC.out _ HH.out.tab).mono ?_
  rintro e w9 ⟨rfl, hb⟩
  replace HH := Lib.hid (HH.out.below hb)
  replace c0 := HH.out.c0
  replace c1 := HH.out.c1
  replace cx0 := HH.out.cell CX0.out
  replace cxl := HH.out.cell CXL.out
  clear hb
  go_wp2_with fail
  refine (check_ok _ _ ca cb xs ys _ HH.out.tab HO.out).mono ?_
  rintro e w9 ⟨rfl, hb⟩
  replace HH := Lib.hid (HH.out.below hb)
  replace c0 := HH.out.c0
  replace c1 := HH.out.c1
  replace cx0 := HH.out.cell CX0.out
  replace cxl := HH.out.cell CXL.out
  clear hb
  go_wp2_with fail
  refine (RR.out _ HH.out.tab).mono ?_
  rintro e w9 ⟨rfl, hb⟩
  replace HH := Lib.hid (HH.out.below hb)
  replace c0 := HH.out.c0
  replace c1 := HH.out.c1
  replace cx0 := HH.out.cell CX0.out
  replace cxl := HH.out.cell CXL.out
  clear hb
  go_wp2_with fail
  refine (RC.out _ HH.out.tab).mono ?_
  rintro e w9 ⟨rfl, hb⟩
  replace HH := Lib.hid (HH.out.below hb)
  replace c0 := HH.out.c0
  replace c1 := HH.out.c1
  replace cx0 := HH.out.cell CX0.out
  replace cxl := HH.out.cell CXL.out
  clear hb
  go_wp2_with fail
  refine (A1.out _ HH.out.tab).mono ?_
  rintro e w9 ⟨rfl, hb⟩
  replace HH := Lib.hid (HH.out.below hb)
  replace c0 := HH.out.c0
  replace c1 := HH.out.c1
  replace cx0 := HH.out.cell CX0.out
  replace cxl := HH.out.cell CXL.out
  clear hb
  go_wp2_with fail
  go_ret
  exact ⟨rfl, HH.out.old⟩

set_option maxRecDepth 100000 in
set_option maxHeartbeats 8000000 in
theorem backs_130 (b1 o1 : Nat) (B : Option Addr) (ca cb : Nat) (xs ys : List Int) (y other v t u m X0 XL : Int) (w : World) (hT : TabIn w (some ⟨b1, o1, none⟩) B xs ys) (hO : Tb.okB xs ys = true) (hr : Tb.rsB xs ys = true)
    (hv : Tb.bk xs ys y = v) (ht : Tb.atv xs ys v = t) (hu : Tb.atv xs ys other = u) (hm : Tb.pk xs ys = m) (hx0 : w.cell? ⟨b1, o1, none⟩ = some (.int .i64 X0)) (hxl : w.cell? ⟨b1, o1 + (xs.length - 1), none⟩ = some (.int .i64 XL)) (g1 : X0 ≤ v) (g2 : v ≤ XL) (p1 : decide (other < X0) = false) (p2 : decide (v ≤ other) = false) (p3 : decide (u < y) = true) (p4 : decide (y ≤ t) = false) (p5 : (v == XL) = true) (p6 : decide (m < y) = true) :
    Calls Try.prog 5 #[.agg #[.slice (some ⟨b1, o1, none⟩) xs.length ca, .slice B ys.length cb], .int .i64 y, .int .i64 other] w fun e w' => e = .returned (.bool true) ∧ Below w.heap.size w w' := by
  have HH := Lib.hid (Held.new (ca := ca) (cb := cb) hT)
  have HO := Lib.hid hO
  have hok := (Tb.ok_iff xs ys).1 hO
  have h2 := hok.two
  have h16 := hok.most
  have hs := hok.same
  have hf1 : xs.length ≤ 40 := by omega
  have hf2 : ys.length ≤ 40 := by omega
  have hlen : 0 < xs.length := by omega
  have e2 : 0 ≤ (xs.length : Int) - 1 := by omega
  have e1 : (xs.length : Int) - 1 < (xs.length : Int) := by omega
  have e3 : ((xs.length : Int) - 1).toNat = xs.length - 1 := by omega
  have q1 : decide (X0 ≤ v) = true := by simpa using g1
  have q2 : decide (v ≤ XL) = true := by simpa using g2
  have q3 : (v != v) = false := by simp
  have CX0 := Lib.hid hx0
  have CXL := Lib.hid hxl
  have bc : ∀ W, TabIn W (some ⟨b1, o1, none⟩) B xs ys → Calls Try.prog 23 #[.agg #[.slice (some ⟨b1, o1, none⟩) xs.length ca, .slice B ys.length cb], .int .i64 y] W fun e w' => e = .returned (.int .i64 v) ∧ Below W.heap.size W w' := fun W h => by have := bk_c _ _ ca cb xs ys y W h; rwa [hv] at this
  have rc : ∀ W, TabIn W (some ⟨b1, o1, none⟩) B xs ys → Calls Try.prog 24 #[.agg #[.slice (some ⟨b1, o1, none⟩) xs.length ca, .slice B ys.length cb], .int .i64 y] W fun e w' => e = .returned (.int .i64 v) ∧ Below W.heap.size W w' := fun W h => by have := rback_ok _ _ ca cb xs ys y W h hO; rwa [← bk_ok hO, hv] at this
  have rr : ∀ W, TabIn W (some ⟨b1, o1, none⟩) B xs ys → Calls Try.prog 16 #[.agg #[.slice (some ⟨b1, o1, none⟩) xs.length ca, .slice B ys.length cb]] W fun e w' => e = .returned (.bool true) ∧ Below W.heap.size W w' := fun W h => by have := rrising_c _ _ ca cb xs ys W h; rwa [hr] at this
  have a1 : ∀ W, TabIn W (some ⟨b1, o1, none⟩) B xs ys → Calls Try.prog 17 #[.agg #[.slice (some ⟨b1, o1, none⟩) xs.length ca, .slice B ys.length cb], .int .i64 v] W fun e w' => e = .returned (.int .i64 t) ∧ Below W.heap.size W w' := fun W h => by have := atv_c _ _ ca cb xs ys v W h; rwa [ht] at this
  have a2 : ∀ W, TabIn W (some ⟨b1, o1, none⟩) B xs ys → Calls Try.prog 17 #[.agg #[.slice (some ⟨b1, o1, none⟩) xs.length ca, .slice B ys.length cb], .int .i64 other] W fun e w' => e = .returned (.int .i64 u) ∧ Below W.heap.size W w' := fun W h => by have := atv_c _ _ ca cb xs ys other W h; rwa [hu] at this
  have pc : ∀ W, TabIn W (some ⟨b1, o1, none⟩) B xs ys → Calls Try.prog 19 #[.agg #[.slice (some ⟨b1, o1, none⟩) xs.length ca, .slice B ys.length cb]] W fun e w' => e = .returned (.int .i64 m) ∧ Below W.heap.size W w' := fun W h => by have := peak_c _ _ ca cb xs ys W h; rwa [hm] at this
  have BC := Lib.hid bc
  have RC := Lib.hid rc
  have RR := Lib.hid rr
  have A1 := Lib.hid a1
  have A2 := Lib.hid a2
  have PC := Lib.hid pc
  clear hT hO hr hv ht hu hm hok hs bc rc rr a1 a2 pc hx0 hxl g1 g2
  go_enter Try.func5, Try.ntmps5
  go_wp2_with fail
  refine (awake_c _).mono ?_
  rintro e w9 ⟨rfl, hb⟩
  replace HH := Lib.hid (HH.out.below hb)
  replace c0 := HH.out.c0
  replace c1 := HH.out.c1
  replace cx0 := HH.out.cell CX0.out
  replace cxl := HH.out.cell CXL.out
  clear hb
  go_wp2_with fail
  refine (few_yes _ _ ca cb xs ys _ hf1 hf2).mono ?_
  rintro e w9 ⟨rfl, hb⟩
  replace HH := Lib.hid (HH.out.below hb)
  replace c0 := HH.out.c0
  replace c1 := HH.out.c1
  replace cx0 := HH.out.cell CX0.out
  replace cxl := HH.out.cell CXL.out
  clear hb
  go_wp2_with fail
  refine (BC.out _ HH.out.tab).mono ?_
  rintro e w9 ⟨rfl, hb⟩
  replace HH := Lib.hid (HH.out.below hb)
  replace c0 := HH.out.c0
  replace c1 := HH.out.c1
  replace cx0 := HH.out.cell CX0.out
  replace cxl := HH.out.cell CXL.out
  clear hb
  go_wp2_with fail
  refine (check_ok _ _ ca cb xs ys _ HH.out.tab HO.out).mono ?_
  rintro e w9 ⟨rfl, hb⟩
  replace HH := Lib.hid (HH.out.below hb)
  replace c0 := HH.out.c0
  replace c1 := HH.out.c1
  replace cx0 := HH.out.cell CX0.out
  replace cxl := HH.out.cell CXL.out
  clear hb
  go_wp2_with fail
  refine (RR.out _ HH.out.tab).mono ?_
  rintro e w9 ⟨rfl, hb⟩
  replace HH := Lib.hid (HH.out.below hb)
  replace c0 := HH.out.c0
  replace c1 := HH.out.c1
  replace cx0 := HH.out.cell CX0.out
  replace cxl := HH.out.cell CXL.out
  clear hb
  go_wp2_with fail
  refine (RC.out _ HH.out.tab).mono ?_
  rintro e w9 ⟨rfl, hb⟩
  replace HH := Lib.hid (HH.out.below hb)
  replace c0 := HH.out.c0
  replace c1 := HH.out.c1
  replace cx0 := HH.out.cell CX0.out
  replace cxl := HH.out.cell CXL.out
  clear hb
  go_wp2_with fail
  refine (A1.out _ HH.out.tab).mono ?_
  rintro e w9 ⟨rfl, hb⟩
  replace HH := Lib.hid (HH.out.below hb)
  replace c0 := HH.out.c0
  replace c1 := HH.out.c1
  replace cx0 := HH.out.cell CX0.out
  replace cxl := HH.out.cell CXL.out
  clear hb
  go_wp2_with fail
  refine (A2.out _ HH.out.tab).mono ?_
  rintro e w9 ⟨rfl, hb⟩
  replace HH := Lib.hid (HH.out.below hb)
  replace c0 := HH.out.c0
  replace c1 := HH.out.c1
  replace cx0 := HH.out.cell CX0.out
  replace cxl := HH.out.cell CXL.out
  clear hb
  go_wp2_with fail
  refine (PC.out _ HH.out.tab).mono ?_
  rintro e w9 ⟨rfl, hb⟩
  replace HH := Lib.hid (HH.out.below hb)
  replace c0 := HH.out.c0
  replace c1 := HH.out.c1
  replace cx0 := HH.out.cell CX0.out
  replace cxl := HH.out.cell CXL.out
  clear hb
  go_wp2_with fail
  go_ret
  exact ⟨rfl, HH.out.old⟩

set_option maxRecDepth 100000 in
set_option maxHeartbeats 8000000 in
theorem backs_131 (b1 o1 : Nat) (B : Option Addr) (ca cb : Nat) (xs ys : List Int) (y other v t u m X0 XL : Int) (w : World) (hT : TabIn w (some ⟨b1, o1, none⟩) B xs ys) (hO : Tb.okB xs ys = true) (hr : Tb.rsB xs ys = true)
    (hv : Tb.bk xs ys y = v) (ht : Tb.atv xs ys v = t) (hu : Tb.atv xs ys other = u) (hm : Tb.pk xs ys = m) (hx0 : w.cell? ⟨b1, o1, none⟩ = some (.int .i64 X0)) (hxl : w.cell? ⟨b1, o1 + (xs.length - 1), none⟩ = some (.int .i64 XL)) (g1 : X0 ≤ v) (g2 : v ≤ XL) (p1 : decide (other < X0) = false) (p2 : decide (v ≤ other) = false) (p3 : decide (u < y) = true) (p4 : decide (y ≤ t) = true) :
    Calls Try.prog 5 #[.agg #[.slice (some ⟨b1, o1, none⟩) xs.length ca, .slice B ys.length cb], .int .i64 y, .int .i64 other] w fun e w' => e = .returned (.bool true) ∧ Below w.heap.size w w' := by
  have HH := Lib.hid (Held.new (ca := ca) (cb := cb) hT)
  have HO := Lib.hid hO
  have hok := (Tb.ok_iff xs ys).1 hO
  have h2 := hok.two
  have h16 := hok.most
  have hs := hok.same
  have hf1 : xs.length ≤ 40 := by omega
  have hf2 : ys.length ≤ 40 := by omega
  have hlen : 0 < xs.length := by omega
  have e2 : 0 ≤ (xs.length : Int) - 1 := by omega
  have e1 : (xs.length : Int) - 1 < (xs.length : Int) := by omega
  have e3 : ((xs.length : Int) - 1).toNat = xs.length - 1 := by omega
  have q1 : decide (X0 ≤ v) = true := by simpa using g1
  have q2 : decide (v ≤ XL) = true := by simpa using g2
  have q3 : (v != v) = false := by simp
  have CX0 := Lib.hid hx0
  have CXL := Lib.hid hxl
  have bc : ∀ W, TabIn W (some ⟨b1, o1, none⟩) B xs ys → Calls Try.prog 23 #[.agg #[.slice (some ⟨b1, o1, none⟩) xs.length ca, .slice B ys.length cb], .int .i64 y] W fun e w' => e = .returned (.int .i64 v) ∧ Below W.heap.size W w' := fun W h => by have := bk_c _ _ ca cb xs ys y W h; rwa [hv] at this
  have rc : ∀ W, TabIn W (some ⟨b1, o1, none⟩) B xs ys → Calls Try.prog 24 #[.agg #[.slice (some ⟨b1, o1, none⟩) xs.length ca, .slice B ys.length cb], .int .i64 y] W fun e w' => e = .returned (.int .i64 v) ∧ Below W.heap.size W w' := fun W h => by have := rback_ok _ _ ca cb xs ys y W h hO; rwa [← bk_ok hO, hv] at this
  have rr : ∀ W, TabIn W (some ⟨b1, o1, none⟩) B xs ys → Calls Try.prog 16 #[.agg #[.slice (some ⟨b1, o1, none⟩) xs.length ca, .slice B ys.length cb]] W fun e w' => e = .returned (.bool true) ∧ Below W.heap.size W w' := fun W h => by have := rrising_c _ _ ca cb xs ys W h; rwa [hr] at this
  have a1 : ∀ W, TabIn W (some ⟨b1, o1, none⟩) B xs ys → Calls Try.prog 17 #[.agg #[.slice (some ⟨b1, o1, none⟩) xs.length ca, .slice B ys.length cb], .int .i64 v] W fun e w' => e = .returned (.int .i64 t) ∧ Below W.heap.size W w' := fun W h => by have := atv_c _ _ ca cb xs ys v W h; rwa [ht] at this
  have a2 : ∀ W, TabIn W (some ⟨b1, o1, none⟩) B xs ys → Calls Try.prog 17 #[.agg #[.slice (some ⟨b1, o1, none⟩) xs.length ca, .slice B ys.length cb], .int .i64 other] W fun e w' => e = .returned (.int .i64 u) ∧ Below W.heap.size W w' := fun W h => by have := atv_c _ _ ca cb xs ys other W h; rwa [hu] at this
  have pc : ∀ W, TabIn W (some ⟨b1, o1, none⟩) B xs ys → Calls Try.prog 19 #[.agg #[.slice (some ⟨b1, o1, none⟩) xs.length ca, .slice B ys.length cb]] W fun e w' => e = .returned (.int .i64 m) ∧ Below W.heap.size W w' := fun W h => by have := peak_c _ _ ca cb xs ys W h; rwa [hm] at this
  have BC := Lib.hid bc
  have RC := Lib.hid rc
  have RR := Lib.hid rr
  have A1 := Lib.hid a1
  have A2 := Lib.hid a2
  have PC := Lib.hid pc
  clear hT hO hr hv ht hu hm hok hs bc rc rr a1 a2 pc hx0 hxl g1 g2
  go_enter Try.func5, Try.ntmps5
  go_wp2_with fail
  refine (awake_c _).mono ?_
  rintro e w9 ⟨rfl, hb⟩
  replace HH := Lib.hid (HH.out.below hb)
  replace c0 := HH.out.c0
  replace c1 := HH.out.c1
  replace cx0 := HH.out.cell CX0.out
  replace cxl := HH.out.cell CXL.out
  clear hb
  go_wp2_with fail
  refine (few_yes _ _ ca cb xs ys _ hf1 hf2).mono ?_
  rintro e w9 ⟨rfl, hb⟩
  replace HH := Lib.hid (HH.out.below hb)
  replace c0 := HH.out.c0
  replace c1 := HH.out.c1
  replace cx0 := HH.out.cell CX0.out
  replace cxl := HH.out.cell CXL.out
  clear hb
  go_wp2_with fail
  refine (BC.out _ HH.out.tab).mono ?_
  rintro e w9 ⟨rfl, hb⟩
  replace HH := Lib.hid (HH.out.below hb)
  replace c0 := HH.out.c0
  replace c1 := HH.out.c1
  replace cx0 := HH.out.cell CX0.out
  replace cxl := HH.out.cell CXL.out
  clear hb
  go_wp2_with fail
  refine (check_ok _ _ ca cb xs ys _ HH.out.tab HO.out).mono ?_
  rintro e w9 ⟨rfl, hb⟩
  replace HH := Lib.hid (HH.out.below hb)
  replace c0 := HH.out.c0
  replace c1 := HH.out.c1
  replace cx0 := HH.out.cell CX0.out
  replace cxl := HH.out.cell CXL.out
  clear hb
  go_wp2_with fail
  refine (RR.out _ HH.out.tab).mono ?_
  rintro e w9 ⟨rfl, hb⟩
  replace HH := Lib.hid (HH.out.below hb)
  replace c0 := HH.out.c0
  replace c1 := HH.out.c1
  replace cx0 := HH.out.cell CX0.out
  replace cxl := HH.out.cell CXL.out
  clear hb
  go_wp2_with fail
  refine (RC.out _ HH.out.tab).mono ?_
  rintro e w9 ⟨rfl, hb⟩
  replace HH := Lib.hid (HH.out.below hb)
  replace c0 := HH.out.c0
  replace c1 := HH.out.c1
  replace cx0 := HH.out.cell CX0.out
  replace cxl := HH.out.cell CXL.out
  clear hb
  go_wp2_with fail
  refine (A1.out _ HH.out.tab).mono ?_
  rintro e w9 ⟨rfl, hb⟩
  replace HH := Lib.hid (HH.out.below hb)
  replace c0 := HH.out.c0
  replace c1 := HH.out.c1
  replace cx0 := HH.out.cell CX0.out
  replace cxl := HH.out.cell CXL.out
  clear hb
  go_wp2_with fail
  refine (A2.out _ HH.out.tab).mono ?_
  rintro e w9 ⟨rfl, hb⟩
  replace HH := Lib.hid (HH.out.below hb)
  replace c0 := HH.out.c0
  replace c1 := HH.out.c1
  replace cx0 := HH.out.cell CX0.out
  replace cxl := HH.out.cell CXL.out
  clear hb
  go_wp2_with fail
  go_ret
  exact ⟨rfl, HH.out.old⟩

set_option maxRecDepth 100000 in
set_option maxHeartbeats 8000000 in
theorem TableBacks_walk (A B : Option Addr) (ca cb : Nat) (xs ys : List Int) (y other : Int) (w : World) (hT : TabIn w A B xs ys) :
    Calls Try.prog 5 #[.agg #[.slice A xs.length ca, .slice B ys.length cb], .int .i64 y, .int .i64 other] w fun e w' => e = .returned (.bool true) ∧ Below w.heap.size w w' := by
  cases hO : Tb.okB xs ys with
  | false => exact TableBacks_no A B ca cb xs ys y other w hT hO
  | true =>
    have hok := (Tb.ok_iff xs ys).1 hO
    have h2 := hok.two
    obtain ⟨b1, o1, b3, o3, L⟩ := lies_of hT hok
    obtain rfl := L.ea
    have hx0 := L.xc 0 (by omega)
    rw [Nat.add_zero] at hx0
    have hxl := L.xc (xs.length - 1) (by omega)
    obtain ⟨s1, s2, s3, s4⟩ := Tb.bk_spec hok y
    have en := Tb.bk_enough hok y
    rw [← bk_ok hO, ← atv_ok hO, ← pk_ok hO] at en
    rw [← bk_ok hO] at s1 s2 s3
    have f3 : ∀ q, Tb.g xs 0 ≤ q → q < Tb.bk xs ys y → Tb.atv xs ys q < y := fun q h h' => by rw [atv_ok hO]; exact s3 q h h'
    clear s3 s4
    cases hr : Tb.rsB xs ys with
    | false =>
      by_cases c1 : other < Tb.g xs 0
      · have p1 : decide (other < Tb.g xs 0) = true := by simpa using c1
        by_cases c4 : y ≤ Tb.atv xs ys (Tb.bk xs ys y)
        · have p4 : decide (y ≤ Tb.atv xs ys (Tb.bk xs ys y)) = true := by simpa using c4
          exact backs_011 b1 o1 B ca cb xs ys y other _ _ _ _ _ _ w hT hO hr rfl rfl rfl rfl hx0 hxl s1 s2 p1 p4
        · have p4 : decide (y ≤ Tb.atv xs ys (Tb.bk xs ys y)) = false := by simpa using c4
          obtain ⟨l1, l2⟩ := en.resolve_left c4
          have p5 : (Tb.bk xs ys y == Tb.g xs (xs.length - 1)) = true := by rw [l1]; simp
          have p6 : decide (Tb.pk xs ys < y) = true := by simpa using l2
          exact backs_010 b1 o1 B ca cb xs ys y other _ _ _ _ _ _ w hT hO hr rfl rfl rfl rfl hx0 hxl s1 s2 p1 p4 p5 p6
      · have p1 : decide (other < Tb.g xs 0) = false := by simpa using c1
        by_cases c2 : Tb.bk xs ys y ≤ other
        · have p2 : decide (Tb.bk xs ys y ≤ other) = true := by simpa using c2
          by_cases c4 : y ≤ Tb.atv xs ys (Tb.bk xs ys y)
          · have p4 : decide (y ≤ Tb.atv xs ys (Tb.bk xs ys y)) = true := by simpa using c4
            exact backs_021 b1 o1 B ca cb xs ys y other _ _ _ _ _ _ w hT hO hr rfl rfl rfl rfl hx0 hxl s1 s2 p1 p2 p4
          · have p4 : decide (y ≤ Tb.atv xs ys (Tb.bk xs ys y)) = false := by simpa using c4
            obtain ⟨l1, l2⟩ := en.resolve_left c4
            have p5 : (Tb.bk xs ys y == Tb.g xs (xs.length - 1)) = true := by rw [l1]; simp
            have p6 : decide (Tb.pk xs ys < y) = true := by simpa using l2
            exact backs_020 b1 o1 B ca cb xs ys y other _ _ _ _ _ _ w hT hO hr rfl rfl rfl rfl hx0 hxl s1 s2 p1 p2 p4 p5 p6
        · have p2 : decide (Tb.bk xs ys y ≤ other) = false := by simpa using c2
          have p3 : decide (Tb.atv xs ys other < y) = true := by simpa using f3 other (by omega) (by omega)
          by_cases c4 : y ≤ Tb.atv xs ys (Tb.bk xs ys y)
          · have p4 : decide (y ≤ Tb.atv xs ys (Tb.bk xs ys y)) = true := by simpa using c4
            exact backs_031 b1 o1 B ca cb xs ys y other _ _ _ _ _ _ w hT hO hr rfl rfl rfl rfl hx0 hxl s1 s2 p1 p2 p3 p4
          · have p4 : decide (y ≤ Tb.atv xs ys (Tb.bk xs ys y)) = false := by simpa using c4
            obtain ⟨l1, l2⟩ := en.resolve_left c4
            have p5 : (Tb.bk xs ys y == Tb.g xs (xs.length - 1)) = true := by rw [l1]; simp
            have p6 : decide (Tb.pk xs ys < y) = true := by simpa using l2
            exact backs_030 b1 o1 B ca cb xs ys y other _ _ _ _ _ _ w hT hO hr rfl rfl rfl rfl hx0 hxl s1 s2 p1 p2 p3 p4 p5 p6
    | true =>
      by_cases c1 : other < Tb.g xs 0
      · have p1 : decide (other < Tb.g xs 0) = true := by simpa using c1
        by_cases c4 : y ≤ Tb.atv xs ys (Tb.bk xs ys y)
        · have p4 : decide (y ≤ Tb.atv xs ys (Tb.bk xs ys y)) = true := by simpa using c4
          exact backs_111 b1 o1 B ca cb xs ys y other _ _ _ _ _ _ w hT hO hr rfl rfl rfl rfl hx0 hxl s1 s2 p1 p4
        · have p4 : decide (y ≤ Tb.atv xs ys (Tb.bk xs ys y)) = false := by simpa using c4
          obtain ⟨l1, l2⟩ := en.resolve_left c4
          have p5 : (Tb.bk xs ys y == Tb.g xs (xs.length - 1)) = true := by rw [l1]; simp
          have p6 : decide (Tb.pk xs ys < y) = true := by simpa using l2
          exact backs_110 b1 o1 B ca cb xs ys y other _ _ _ _ _ _ w hT hO hr rfl rfl rfl rfl hx0 hxl s1 s2 p1 p4 p5 p6
      · have p1 : decide (other < Tb.g xs 0) = false := by simpa using c1
        by_cases c2 : Tb.bk xs ys y ≤ other
        · have p2 : decide (Tb.bk xs ys y ≤ other) = true := by simpa using c2
          by_cases c4 : y ≤ Tb.atv xs ys (Tb.bk xs ys y)
          · have p4 : decide (y ≤ Tb.atv xs ys (Tb.bk xs ys y)) = true := by simpa using c4
            exact backs_121 b1 o1 B ca cb xs ys y other _ _ _ _ _ _ w hT hO hr rfl rfl rfl rfl hx0 hxl s1 s2 p1 p2 p4
          · have p4 : decide (y ≤ Tb.atv xs ys (Tb.bk xs ys y)) = false := by simpa using c4
            obtain ⟨l1, l2⟩ := en.resolve_left c4
            have p5 : (Tb.bk xs ys y == Tb.g xs (xs.length - 1)) = true := by rw [l1]; simp
            have p6 : decide (Tb.pk xs ys < y) = true := by simpa using l2
            exact backs_120 b1 o1 B ca cb xs ys y other _ _ _ _ _ _ w hT hO hr rfl rfl rfl rfl hx0 hxl s1 s2 p1 p2 p4 p5 p6
        · have p2 : decide (Tb.bk xs ys y ≤ other) = false := by simpa using c2
          have p3 : decide (Tb.atv xs ys other < y) = true := by simpa using f3 other (by omega) (by omega)
          by_cases c4 : y ≤ Tb.atv xs ys (Tb.bk xs ys y)
          · have p4 : decide (y ≤ Tb.atv xs ys (Tb.bk xs ys y)) = true := by simpa using c4
            exact backs_131 b1 o1 B ca cb xs ys y other _ _ _ _ _ _ w hT hO hr rfl rfl rfl rfl hx0 hxl s1 s2 p1 p2 p3 p4
          · have p4 : decide (y ≤ Tb.atv xs ys (Tb.bk xs ys y)) = false := by simpa using c4
            obtain ⟨l1, l2⟩ := en.resolve_left c4
            have p5 : (Tb.bk xs ys y == Tb.g xs (xs.length - 1)) = true := by rw [l1]; simp
            have p6 : decide (Tb.pk xs ys < y) = true := by simpa using l2
            exact backs_130 b1 o1 B ca cb xs ys y other _ _ _ _ _ _ w hT hO hr rfl rfl rfl rfl hx0 hxl s1 s2 p1 p2 p3 p4 p5 p6

end TabC
end Go.Proofs.Yteipmionpokfkaa
