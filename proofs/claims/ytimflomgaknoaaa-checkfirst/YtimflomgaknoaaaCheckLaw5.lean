/- The walk of CheckFirst, its second half. -/
import Derived.Test.YtimflomgaknoaaaCheckLaw4
namespace Go.Proofs.Ytimflomgaknoaaa
namespace Cw
open Go.RowKit Ck Lk

set_option maxRecDepth 100000 in
set_option maxHeartbeats 16000000 in
theorem first_8 (l : Lm) (v u : Int) (hk : Ok l) (h1 : l.lo ≤ v) (h2 : v ≤ l.hi) (h3 : l.lo ≤ u) (h4 : u ≤ l.hi) (h5 : v < u) (h6 : u - v ≤ l.ra) (w : World) : Calls Try.prog 6 #[.agg (lc l), .int .i64 v, .int .i64 u] w fun e w' => e = .returned (.bool true) ∧ Below w.heap.size w w' := by
  have HV := Lib.hid (one_w w l)
  obtain ⟨z, ey, eg⟩ := first_r hk h1 h2
  have CK := Lib.hid (check_ok hk)
  have CS := Lib.hid (fun W => step_v ey eg W)
  have d1 : decide (l.lo ≤ v) = true := decide_eq_true (by omega)
  have d2 : decide (v ≤ l.hi) = true := decide_eq_true (by omega)
  have d3 : decide (u < l.lo) = false := decide_eq_false (by omega)
  have d4 : decide (l.hi < u) = false := decide_eq_false (by omega)
  have d5 : (u == v) = false := by rw [beq_eq_false_iff_ne]; omega
  have b1 := hk.1.1
  have b2 := hk.2.1.2
  have mx : max v u = u := by omega
  have mn : min v u = v := by omega
  have CW := Lib.hid (fun W => wrong_v (near_f (z := z) hk h1 h2 h3 h4 (by omega) (by omega) (by omega)) W)
  have d6 : decide (l.ra < u - v) = false := decide_eq_false (by omega)
  have d8 : decide (u - v ≤ l.ra) = true := decide_eq_true (by omega)
  have hw : IntKind.i64.wrap (u - v) = u - v := IntWalk.i64_in _ (by omega)
  clear hk h1 h2 h3 h4 h5 ey eg b1 b2 h6
  cases z
  all_goals
    go_enter Try.func6, Try.ntmps6
    go_upto_region 5 with (first | (go_at_call 7; refine (awake_c _).mono ?_; rintro e W ⟨rfl, hb⟩; replace HV := Lib.hid (HV.out.grow hb); clear hb) | (refine ldl rfl _ rfl _ _ rfl HV.out.head ?_) | (go_at_call 10; (with_reducible refine (CK.out _).mono ?_); rintro e W ⟨rfl, hb⟩; replace HV := Lib.hid (HV.out.grow hb); clear hb CK) | (go_at_call 8; (with_reducible refine (CS.out _).mono ?_); rintro e W1 ⟨rfl, hb⟩; replace HV := Lib.hid (HV.out.grow hb); clear hb CS) | (refine stw rfl _ _ rfl rfl _ zw ⟨v, 0, 0, 1, _, true⟩ rfl rfl (heap_alloc_last W1 _) ?_; intro W2 h1 h2; have HV2 := Lib.hid (HV.out.put h1 h2); clear h1 h2 HV; obtain ⟨k0, k1, k2, k3, k4, k5⟩ := wfld HV2.out.head; obtain ⟨x0, x1, x2, x3, x4, x5⟩ := lfld HV2.out.h2) | fail)
    go_upto_region 12 with fail
    go_wp2_with (first | (go_at_call 12; (with_reducible refine (CW.out _).mono ?_); rintro e W ⟨rfl, hb⟩; replace HV2 := Lib.hid (HV2.out.grow hb); clear hb) | fail)
    go_ret
    exact ⟨rfl, HV2.out.old⟩

set_option maxRecDepth 100000 in
set_option maxHeartbeats 16000000 in
theorem first_9 (l : Lm) (v u : Int) (hk : Ok l) (h1 : l.lo ≤ v) (h2 : v ≤ l.hi) (h3 : l.lo ≤ u) (h4 : u ≤ l.hi) (h6 : l.ra < u - v) (h7 : 2147483647 < u - v) (w : World) : Calls Try.prog 6 #[.agg (lc l), .int .i64 v, .int .i64 u] w fun e w' => e = .returned (.bool true) ∧ Below w.heap.size w w' := by
  have HV := Lib.hid (one_w w l)
  obtain ⟨z, ey, eg⟩ := first_r hk h1 h2
  have CK := Lib.hid (check_ok hk)
  have CS := Lib.hid (fun W => step_v ey eg W)
  have d1 : decide (l.lo ≤ v) = true := decide_eq_true (by omega)
  have d2 : decide (v ≤ l.hi) = true := decide_eq_true (by omega)
  have d3 : decide (u < l.lo) = false := decide_eq_false (by omega)
  have d4 : decide (l.hi < u) = false := decide_eq_false (by omega)
  have d5 : (u == v) = false := by rw [beq_eq_false_iff_ne]; omega
  have b1 := hk.1.1
  have b2 := hk.2.1.2
  have mx : max v u = u := by omega
  have mn : min v u = v := by omega
  have d6 : decide (l.ra < u - v) = true := decide_eq_true (by omega)
  have d7 : decide (u - v ≤ 2147483647) = false := decide_eq_false (by omega)
  have d8 : decide (u - v ≤ l.ra) = false := decide_eq_false (by omega)
  have hw : IntKind.i64.wrap (u - v) = u - v := IntWalk.i64_in _ (by omega)
  clear hk h1 h2 h3 h4 ey eg b1 b2 h6 h7
  cases z
  all_goals
    go_enter Try.func6, Try.ntmps6
    go_upto_region 5 with (first | (go_at_call 7; refine (awake_c _).mono ?_; rintro e W ⟨rfl, hb⟩; replace HV := Lib.hid (HV.out.grow hb); clear hb) | (refine ldl rfl _ rfl _ _ rfl HV.out.head ?_) | (go_at_call 10; (with_reducible refine (CK.out _).mono ?_); rintro e W ⟨rfl, hb⟩; replace HV := Lib.hid (HV.out.grow hb); clear hb CK) | (go_at_call 8; (with_reducible refine (CS.out _).mono ?_); rintro e W1 ⟨rfl, hb⟩; replace HV := Lib.hid (HV.out.grow hb); clear hb CS) | (refine stw rfl _ _ rfl rfl _ zw ⟨v, 0, 0, 1, _, true⟩ rfl rfl (heap_alloc_last W1 _) ?_; intro W2 h1 h2; have HV2 := Lib.hid (HV.out.put h1 h2); clear h1 h2 HV; obtain ⟨k0, k1, k2, k3, k4, k5⟩ := wfld HV2.out.head; obtain ⟨x0, x1, x2, x3, x4, x5⟩ := lfld HV2.out.h2) | fail)
    go_upto_region 12 with fail
    go_wp2_with (first | fail)
    go_ret
    exact ⟨rfl, HV2.out.old⟩

set_option maxRecDepth 100000 in
set_option maxHeartbeats 16000000 in
theorem first_10 (l : Lm) (v u : Int) (hk : Ok l) (h1 : l.lo ≤ v) (h2 : v ≤ l.hi) (h3 : l.lo ≤ u) (h4 : u ≤ l.hi) (h5 : u < v) (h6 : l.ra < v - u) (h7 : v - u ≤ 2147483647) (w : World) : Calls Try.prog 6 #[.agg (lc l), .int .i64 v, .int .i64 u] w fun e w' => e = .returned (.bool true) ∧ Below w.heap.size w w' := by
  have HV := Lib.hid (one_w w l)
  obtain ⟨z, ey, eg⟩ := first_r hk h1 h2
  have CK := Lib.hid (check_ok hk)
  have CS := Lib.hid (fun W => step_v ey eg W)
  have d1 : decide (l.lo ≤ v) = true := decide_eq_true (by omega)
  have d2 : decide (v ≤ l.hi) = true := decide_eq_true (by omega)
  have d3 : decide (u < l.lo) = false := decide_eq_false (by omega)
  have d4 : decide (l.hi < u) = false := decide_eq_false (by omega)
  have d5 : (u == v) = false := by rw [beq_eq_false_iff_ne]; omega
  have b1 := hk.1.1
  have b2 := hk.2.1.2
  have mx : max v u = v := by omega
  have mn : min v u = u := by omega
  have CW := Lib.hid (fun W => wrong_v (far_t (z := z) hk h1 h2 h3 h4 (by omega) (by omega) (by omega) (by omega)) W)
  have d6 : decide (l.ra < v - u) = true := decide_eq_true (by omega)
  have d7 : decide (v - u ≤ 2147483647) = true := decide_eq_true (by omega)
  have d8 : decide (v - u ≤ l.ra) = false := decide_eq_false (by omega)
  have hw : IntKind.i64.wrap (v - u) = v - u := IntWalk.i64_in _ (by omega)
  clear hk h1 h2 h3 h4 h5 ey eg b1 b2 h6 h7
  cases z
  all_goals
    go_enter Try.func6, Try.ntmps6
    go_upto_region 5 with (first | (go_at_call 7; refine (awake_c _).mono ?_; rintro e W ⟨rfl, hb⟩; replace HV := Lib.hid (HV.out.grow hb); clear hb) | (refine ldl rfl _ rfl _ _ rfl HV.out.head ?_) | (go_at_call 10; (with_reducible refine (CK.out _).mono ?_); rintro e W ⟨rfl, hb⟩; replace HV := Lib.hid (HV.out.grow hb); clear hb CK) | (go_at_call 8; (with_reducible refine (CS.out _).mono ?_); rintro e W1 ⟨rfl, hb⟩; replace HV := Lib.hid (HV.out.grow hb); clear hb CS) | (refine stw rfl _ _ rfl rfl _ zw ⟨v, 0, 0, 1, _, true⟩ rfl rfl (heap_alloc_last W1 _) ?_; intro W2 h1 h2; have HV2 := Lib.hid (HV.out.put h1 h2); clear h1 h2 HV; obtain ⟨k0, k1, k2, k3, k4, k5⟩ := wfld HV2.out.head; obtain ⟨x0, x1, x2, x3, x4, x5⟩ := lfld HV2.out.h2) | fail)
    go_upto_region 12 with fail
    go_wp2_with (first | (go_at_call 12; (with_reducible refine (CW.out _).mono ?_); rintro e W ⟨rfl, hb⟩; replace HV2 := Lib.hid (HV2.out.grow hb); clear hb) | fail)
    go_ret
    exact ⟨rfl, HV2.out.old⟩

set_option maxRecDepth 100000 in
set_option maxHeartbeats 16000000 in
theorem first_11 (l : Lm) (v u : Int) (hk : Ok l) (h1 : l.lo ≤ v) (h2 : v ≤ l.hi) (h3 : l.lo ≤ u) (h4 : u ≤ l.hi) (h5 : u < v) (h6 : v - u ≤ l.ra) (w : World) : Calls Try.prog 6 #[.agg (lc l), .int .i64 v, .int .i64 u] w fun e w' => e = .returned (.bool true) ∧ Below w.heap.size w w' := by
  have HV := Lib.hid (one_w w l)
  obtain ⟨z, ey, eg⟩ := first_r hk h1 h2
  have CK := Lib.hid (check_ok hk)
  have CS := Lib.hid (fun W => step_v ey eg W)
  have d1 : decide (l.lo ≤ v) = true := decide_eq_true (by omega)
  have d2 : decide (v ≤ l.hi) = true := decide_eq_true (by omega)
  have d3 : decide (u < l.lo) = false := decide_eq_false (by omega)
  have d4 : decide (l.hi < u) = false := decide_eq_false (by omega)
  have d5 : (u == v) = false := by rw [beq_eq_false_iff_ne]; omega
  have b1 := hk.1.1
  have b2 := hk.2.1.2
  have mx : max v u = v := by omega
  have mn : min v u = u := by omega
  have CW := Lib.hid (fun W => wrong_v (near_f (z := z) hk h1 h2 h3 h4 (by omega) (by omega) (by omega)) W)
  have d6 : decide (l.ra < v - u) = false := decide_eq_false (by omega)
  have d8 : decide (v - u ≤ l.ra) = true := decide_eq_true (by omega)
  have hw : IntKind.i64.wrap (v - u) = v - u := IntWalk.i64_in _ (by omega)
  clear hk h1 h2 h3 h4 h5 ey eg b1 b2 h6
  cases z
  all_goals
    go_enter Try.func6, Try.ntmps6
    go_upto_region 5 with (first | (go_at_call 7; refine (awake_c _).mono ?_; rintro e W ⟨rfl, hb⟩; replace HV := Lib.hid (HV.out.grow hb); clear hb) | (refine ldl rfl _ rfl _ _ rfl HV.out.head ?_) | (go_at_call 10; (with_reducible refine (CK.out _).mono ?_); rintro e W ⟨rfl, hb⟩; replace HV := Lib.hid (HV.out.grow hb); clear hb CK) | (go_at_call 8; (with_reducible refine (CS.out _).mono ?_); rintro e W1 ⟨rfl, hb⟩; replace HV := Lib.hid (HV.out.grow hb); clear hb CS) | (refine stw rfl _ _ rfl rfl _ zw ⟨v, 0, 0, 1, _, true⟩ rfl rfl (heap_alloc_last W1 _) ?_; intro W2 h1 h2; have HV2 := Lib.hid (HV.out.put h1 h2); clear h1 h2 HV; obtain ⟨k0, k1, k2, k3, k4, k5⟩ := wfld HV2.out.head; obtain ⟨x0, x1, x2, x3, x4, x5⟩ := lfld HV2.out.h2) | fail)
    go_upto_region 12 with fail
    go_wp2_with (first | (go_at_call 12; (with_reducible refine (CW.out _).mono ?_); rintro e W ⟨rfl, hb⟩; replace HV2 := Lib.hid (HV2.out.grow hb); clear hb) | fail)
    go_ret
    exact ⟨rfl, HV2.out.old⟩

set_option maxRecDepth 100000 in
set_option maxHeartbeats 16000000 in
theorem first_12 (l : Lm) (v u : Int) (hk : Ok l) (h1 : l.lo ≤ v) (h2 : v ≤ l.hi) (h3 : l.lo ≤ u) (h4 : u ≤ l.hi) (h6 : l.ra < v - u) (h7 : 2147483647 < v - u) (w : World) : Calls Try.prog 6 #[.agg (lc l), .int .i64 v, .int .i64 u] w fun e w' => e = .returned (.bool true) ∧ Below w.heap.size w w' := by
  have HV := Lib.hid (one_w w l)
  obtain ⟨z, ey, eg⟩ := first_r hk h1 h2
  have CK := Lib.hid (check_ok hk)
  have CS := Lib.hid (fun W => step_v ey eg W)
  have d1 : decide (l.lo ≤ v) = true := decide_eq_true (by omega)
  have d2 : decide (v ≤ l.hi) = true := decide_eq_true (by omega)
  have d3 : decide (u < l.lo) = false := decide_eq_false (by omega)
  have d4 : decide (l.hi < u) = false := decide_eq_false (by omega)
  have d5 : (u == v) = false := by rw [beq_eq_false_iff_ne]; omega
  have b1 := hk.1.1
  have b2 := hk.2.1.2
  have mx : max v u = v := by omega
  have mn : min v u = u := by omega
  have d6 : decide (l.ra < v - u) = true := decide_eq_true (by omega)
  have d7 : decide (v - u ≤ 2147483647) = false := decide_eq_false (by omega)
  have d8 : decide (v - u ≤ l.ra) = false := decide_eq_false (by omega)
  have hw : IntKind.i64.wrap (v - u) = v - u := IntWalk.i64_in _ (by omega)
  clear hk h1 h2 h3 h4 ey eg b1 b2 h6 h7
  cases z
  all_goals
    go_enter Try.func6, Try.ntmps6
    go_upto_region 5 with (first | (go_at_call 7; refine (awake_c _).mono ?_; rintro e W ⟨rfl, hb⟩; replace HV := Lib.hid (HV.out.grow hb); clear hb) | (refine ldl rfl _ rfl _ _ rfl HV.out.head ?_) | (go_at_call 10; (with_reducible refine (CK.out _).mono ?_); rintro e W ⟨rfl, hb⟩; replace HV := Lib.hid (HV.out.grow hb); clear hb CK) | (go_at_call 8; (with_reducible refine (CS.out _).mono ?_); rintro e W1 ⟨rfl, hb⟩; replace HV := Lib.hid (HV.out.grow hb); clear hb CS) | (refine stw rfl _ _ rfl rfl _ zw ⟨v, 0, 0, 1, _, true⟩ rfl rfl (heap_alloc_last W1 _) ?_; intro W2 h1 h2; have HV2 := Lib.hid (HV.out.put h1 h2); clear h1 h2 HV; obtain ⟨k0, k1, k2, k3, k4, k5⟩ := wfld HV2.out.head; obtain ⟨x0, x1, x2, x3, x4, x5⟩ := lfld HV2.out.h2) | fail)
    go_upto_region 12 with fail
    go_wp2_with (first | fail)
    go_ret
    exact ⟨rfl, HV2.out.old⟩

theorem CheckFirst_walk (l : Lm) (v u : Int) (w : World) : Calls Try.prog 6 #[.agg (lc l), .int .i64 v, .int .i64 u] w fun e w' => e = .returned (.bool true) ∧ Below w.heap.size w w' := by
  by_cases hk : Ok l
  · by_cases h1 : v < l.lo
    · exact first_2 l v u hk h1 w
    by_cases h2 : l.hi < v
    · exact first_3 l v u hk (by omega) h2 w
    by_cases h3 : u < l.lo
    · exact first_4 l v u hk (by omega) (by omega) h3 w
    by_cases h4 : l.hi < u
    · exact first_5 l v u hk (by omega) (by omega) (by omega) h4 w
    rcases (by omega : u = v ∨ v < u ∨ u < v) with h5 | h5 | h5
    · exact first_6 l v u hk (by omega) (by omega) h5 w
    · by_cases h6 : u - v ≤ l.ra
      · exact first_8 l v u hk (by omega) (by omega) (by omega) (by omega) h5 h6 w
      by_cases h7 : u - v ≤ 2147483647
      · exact first_7 l v u hk (by omega) (by omega) (by omega) (by omega) h5 (by omega) h7 w
      · exact first_9 l v u hk (by omega) (by omega) (by omega) (by omega) (by omega) (by omega) w
    · by_cases h6 : v - u ≤ l.ra
      · exact first_11 l v u hk (by omega) (by omega) (by omega) (by omega) h5 h6 w
      by_cases h7 : v - u ≤ 2147483647
      · exact first_10 l v u hk (by omega) (by omega) (by omega) (by omega) h5 (by omega) h7 w
      · exact first_12 l v u hk (by omega) (by omega) (by omega) (by omega) (by omega) (by omega) w
  · exact first_1 l v u hk w
end Cw
end Go.Proofs.Ytimflomgaknoaaa
