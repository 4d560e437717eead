/- The walk of CheckFirst. -/
import Derived.Test.YtimflomgaknoaaaCheckLaw1
import Derived.Lib.MinMax
namespace Go.Proofs.Ytimflomgaknoaaa
namespace Cw
open Go.RowKit Ck Lk

theorem first_same (v : Int) : Ck.same zw v = 0 := rfl
theorem first_w {l : Lm} {v : Int} (hk : Ok l) (h : v < l.lo ∨ l.hi < v) : ∃ s z, Ck.step l zw v = ⟨s, 0, 1, 0, z, true⟩ ∧ good l zw v = false := by
  have hb : wrong l zw v = true := wrong_t (h.elim (fun h => .inr (.inl h)) (fun h => .inr (.inr (.inl h))))
  exact ⟨Fx.sat v, lost l zw true, step_ok hk hb, good_w hk hb⟩
theorem first_r {l : Lm} {v : Int} (hk : Ok l) (h1 : l.lo ≤ v) (h2 : v ≤ l.hi) : ∃ z, Ck.step l zw v = ⟨v, 0, 0, 1, z, true⟩ ∧ good l zw v = !z := by
  have hb : wrong l zw v = false := wrong_f fun h => by
    rcases h with h | h | h | h | h
    · exact h hk
    · omega
    · omega
    · exact Bool.noConfusion h.1
    · have := h.2
      rw [first_same] at this
      have := hk.2.2.2.1.1
      exact h.1 (by omega)
  refine ⟨lost l zw false, ?_, good_r hk hb⟩
  rw [step_ok hk hb]
  unfold Ck.go
  rw [Fx.sat_id v (by have := hk.1.1; omega) (by have := hk.2.1.2; omega)]
  rfl
/-- Of the second value the rate alone matters. -/
theorem second {l : Lm} {v u : Int} {z : Bool} (hk : Ok l) (h1 : l.lo ≤ v) (h2 : v ≤ l.hi) (h3 : l.lo ≤ u) (h4 : u ≤ l.hi) (h5 : u ≠ v) :
    Wrong l ⟨v, 0, 0, 1, z, true⟩ u ↔ l.ra < Fx.sub u v ∨ Fx.sub u v < -l.ra := by
  have b1 := hk.1.1
  have b2 := hk.2.1.2
  have hs : Ck.same ⟨v, 0, 0, 1, z, true⟩ u = 0 := by
    show cnt 0 (true && (v == Fx.sat u)) = 0
    rw [Fx.sat_id u (by omega) (by omega)]
    have : (v == u) = false := beq_eq_false_iff_ne.2 (fun h => h5 h.symm)
    rw [this]
    rfl
  unfold Wrong
  rw [hs]
  constructor
  · intro h
    rcases h with h | h | h | h | h
    · exact absurd hk h
    · omega
    · omega
    · exact h.2
    · have := hk.2.2.2.1.1
      exact absurd h.2 (by have := h.1; omega)
  · exact fun h => .inr (.inr (.inr (.inl ⟨rfl, h⟩)))
theorem sub_in {u v : Int} (h1 : -2147483648 ≤ v) (h2 : v ≤ 2147483647) (h3 : -2147483648 ≤ u) (h4 : u ≤ 2147483647) : Fx.sub u v = Fx.sat (u - v) := by
  unfold Fx.sub; rw [Fx.sat_id u h3 h4, Fx.sat_id v h1 h2]
theorem far_t {l : Lm} {v u : Int} {z : Bool} (hk : Ok l) (h1 : l.lo ≤ v) (h2 : v ≤ l.hi) (h3 : l.lo ≤ u) (h4 : u ≤ l.hi) (h5 : u ≠ v) (h6 : l.ra < u - v ∨ l.ra < v - u) (h7 : u - v ≤ 2147483647) (h8 : v - u ≤ 2147483647) : wrong l ⟨v, 0, 0, 1, z, true⟩ u = true := by
  have b1 := hk.1.1
  have b2 := hk.2.1.2
  refine wrong_t ((second hk h1 h2 h3 h4 h5).2 ?_)
  rw [sub_in (by omega) (by omega) (by omega) (by omega), Fx.sat_id _ (by omega) (by omega)]
  omega
theorem near_f {l : Lm} {v u : Int} {z : Bool} (hk : Ok l) (h1 : l.lo ≤ v) (h2 : v ≤ l.hi) (h3 : l.lo ≤ u) (h4 : u ≤ l.hi) (h5 : u ≠ v) (h6 : u - v ≤ l.ra) (h7 : v - u ≤ l.ra) : wrong l ⟨v, 0, 0, 1, z, true⟩ u = false := by
  have b1 := hk.1.1
  have b2 := hk.2.1.2
  have b3 := hk.2.2.1.2
  refine wrong_f fun h => ?_
  have := (second hk h1 h2 h3 h4 h5).1 h
  rw [sub_in (by omega) (by omega) (by omega) (by omega), Fx.sat_id _ (by omega) (by omega)] at this
  omega
theorem one_w (w : World) (l : Lm) : Hv w (w.alloc (lob l)) [(w.heap.size, lob l)] := one_l w l

set_option maxRecDepth 100000 in
set_option maxHeartbeats 16000000 in
theorem first_1 (l : Lm) (v u : Int) (hk : ¬ Ok l) (w : World) : Calls Try.prog 6 #[.agg (lc l), .int .i64 v, .int .i64 u] w fun e w' => e = .returned (.bool true) ∧ Below w.heap.size w w' := by
  have HV := Lib.hid (one_w w l)
  have CK := Lib.hid (check_no hk)
  have CW := Lib.hid (fun W => wrong_v (wrong_t (w := zw) (v := v) (.inl hk)) W)
  clear hk
  go_enter Try.func6, Try.ntmps6
  go_wp2_with (first | (go_at_call 7; refine (awake_c _).mono ?_; rintro e W ⟨rfl, hb⟩; replace HV := Lib.hid (HV.out.grow hb); clear hb) | (refine ldl rfl _ rfl _ _ rfl HV.out.head ?_) | (go_at_call 10; (with_reducible refine (CK.out _).mono ?_); rintro e W ⟨rfl, hb⟩; replace HV := Lib.hid (HV.out.grow hb); clear hb CK) | (go_at_call 12; (with_reducible refine (CW.out _).mono ?_); rintro e W ⟨rfl, hb⟩; replace HV := Lib.hid (HV.out.grow hb); clear hb CW) | fail)
  go_ret
  exact ⟨rfl, HV.out.old⟩

set_option maxRecDepth 100000 in
set_option maxHeartbeats 16000000 in
theorem first_2 (l : Lm) (v u : Int) (hk : Ok l) (h1 : v < l.lo) (w : World) : Calls Try.prog 6 #[.agg (lc l), .int .i64 v, .int .i64 u] w fun e w' => e = .returned (.bool true) ∧ Below w.heap.size w w' := by
  have HV := Lib.hid (one_w w l)
  obtain ⟨s, z, ey, eg⟩ := first_w hk (.inl h1)
  have CK := Lib.hid (check_ok hk)
  have CS := Lib.hid (fun W => step_v ey eg W)
  have d1 : decide (l.lo ≤ v) = false := decide_eq_false (by omega)
  clear hk h1 ey eg
  cases z
  all_goals
    go_enter Try.func6, Try.ntmps6
    go_upto_region 5 with (first | (go_at_call 7; refine (awake_c _).mono ?_; rintro e W ⟨rfl, hb⟩; replace HV := Lib.hid (HV.out.grow hb); clear hb) | (refine ldl rfl _ rfl _ _ rfl HV.out.head ?_) | (go_at_call 10; (with_reducible refine (CK.out _).mono ?_); rintro e W ⟨rfl, hb⟩; replace HV := Lib.hid (HV.out.grow hb); clear hb CK) | (go_at_call 8; (with_reducible refine (CS.out _).mono ?_); rintro e W1 ⟨rfl, hb⟩; replace HV := Lib.hid (HV.out.grow hb); clear hb CS) | (refine stw rfl _ _ rfl rfl _ zw ⟨s, 0, 1, 0, _, true⟩ rfl rfl (heap_alloc_last W1 _) ?_; intro W2 h1 h2; have HV2 := Lib.hid (HV.out.put h1 h2); clear h1 h2 HV; obtain ⟨k0, k1, k2, k3, k4, k5⟩ := wfld HV2.out.head; obtain ⟨x0, x1, x2, x3, x4, x5⟩ := lfld HV2.out.h2) | fail)
    go_wp2_with fail
    go_ret
    exact ⟨rfl, HV2.out.old⟩

set_option maxRecDepth 100000 in
set_option maxHeartbeats 16000000 in
theorem first_3 (l : Lm) (v u : Int) (hk : Ok l) (h1 : l.lo ≤ v) (h2 : l.hi < v) (w : World) : Calls Try.prog 6 #[.agg (lc l), .int .i64 v, .int .i64 u] w fun e w' => e = .returned (.bool true) ∧ Below w.heap.size w w' := by
  have HV := Lib.hid (one_w w l)
  obtain ⟨s, z, ey, eg⟩ := first_w hk (.inr h2)
  have CK := Lib.hid (check_ok hk)
  have CS := Lib.hid (fun W => step_v ey eg W)
  have d1 : decide (l.lo ≤ v) = true := decide_eq_true (by omega)
  have d2 : decide (v ≤ l.hi) = false := decide_eq_false (by omega)
  clear hk h1 h2 ey eg
  cases z
  all_goals
    go_enter Try.func6, Try.ntmps6
    go_upto_region 5 with (first | (go_at_call 7; refine (awake_c _).mono ?_; rintro e W ⟨rfl, hb⟩; replace HV := Lib.hid (HV.out.grow hb); clear hb) | (refine ldl rfl _ rfl _ _ rfl HV.out.head ?_) | (go_at_call 10; (with_reducible refine (CK.out _).mono ?_); rintro e W ⟨rfl, hb⟩; replace HV := Lib.hid (HV.out.grow hb); clear hb CK) | (go_at_call 8; (with_reducible refine (CS.out _).mono ?_); rintro e W1 ⟨rfl, hb⟩; replace HV := Lib.hid (HV.out.grow hb); clear hb CS) | (refine stw rfl _ _ rfl rfl _ zw ⟨s, 0, 1, 0, _, true⟩ rfl rfl (heap_alloc_last W1 _) ?_; intro W2 h1 h2; have HV2 := Lib.hid (HV.out.put h1 h2); clear h1 h2 HV; obtain ⟨k0, k1, k2, k3, k4, k5⟩ := wfld HV2.out.head; obtain ⟨x0, x1, x2, x3, x4, x5⟩ := lfld HV2.out.h2) | fail)
    go_wp2_with fail
    go_ret
    exact ⟨rfl, HV2.out.old⟩

set_option maxRecDepth 100000 in
set_option maxHeartbeats 16000000 in
theorem first_4 (l : Lm) (v u : Int) (hk : Ok l) (h1 : l.lo ≤ v) (h2 : v ≤ l.hi) (h3 : u < l.lo) (w : World) : Calls Try.prog 6 #[.agg (lc l), .int .i64 v, .int .i64 u] w fun e w' => e = .returned (.bool true) ∧ Below w.heap.size w w' := by
  have HV := Lib.hid (one_w w l)
  obtain ⟨z, ey, eg⟩ := first_r hk h1 h2
  have CK := Lib.hid (check_ok hk)
  have CS := Lib.hid (fun W => step_v ey eg W)
  have d1 : decide (l.lo ≤ v) = true := decide_eq_true (by omega)
  have d2 : decide (v ≤ l.hi) = true := decide_eq_true (by omega)
  have d3 : decide (u < l.lo) = true := decide_eq_true (by omega)
  clear hk h1 h2 h3 ey eg
  cases z
  all_goals
    go_enter Try.func6, Try.ntmps6
    go_upto_region 5 with (first | (go_at_call 7; refine (awake_c _).mono ?_; rintro e W ⟨rfl, hb⟩; replace HV := Lib.hid (HV.out.grow hb); clear hb) | (refine ldl rfl _ rfl _ _ rfl HV.out.head ?_) | (go_at_call 10; (with_reducible refine (CK.out _).mono ?_); rintro e W ⟨rfl, hb⟩; replace HV := Lib.hid (HV.out.grow hb); clear hb CK) | (go_at_call 8; (with_reducible refine (CS.out _).mono ?_); rintro e W1 ⟨rfl, hb⟩; replace HV := Lib.hid (HV.out.grow hb); clear hb CS) | (refine stw rfl _ _ rfl rfl _ zw ⟨v, 0, 0, 1, _, true⟩ rfl rfl (heap_alloc_last W1 _) ?_; intro W2 h1 h2; have HV2 := Lib.hid (HV.out.put h1 h2); clear h1 h2 HV; obtain ⟨k0, k1, k2, k3, k4, k5⟩ := wfld HV2.out.head; obtain ⟨x0, x1, x2, x3, x4, x5⟩ := lfld HV2.out.h2) | fail)
    go_wp2_with fail
    go_ret
    exact ⟨rfl, HV2.out.old⟩

set_option maxRecDepth 100000 in
set_option maxHeartbeats 16000000 in
theorem first_5 (l : Lm) (v u : Int) (hk : Ok l) (h1 : l.lo ≤ v) (h2 : v ≤ l.hi) (h3 : l.lo ≤ u) (h4 : l.hi < u) (w : World) : Calls Try.prog 6 #[.agg (lc l), .int .i64 v, .int .i64 u] w fun e w' => e = .returned (.bool true) ∧ Below w.heap.size w w' := by
  have HV := Lib.hid (one_w w l)
  obtain ⟨z, ey, eg⟩ := first_r hk h1 h2
  have CK := Lib.hid (check_ok hk)
  have CS := Lib.hid (fun W => step_v ey eg W)
  have d1 : decide (l.lo ≤ v) = true := decide_eq_true (by omega)
  have d2 : decide (v ≤ l.hi) = true := decide_eq_true (by omega)
  have d3 : decide (u < l.lo) = false := decide_eq_false (by omega)
  have d4 : decide (l.hi < u) = true := decide_eq_true (by omega)
  clear hk h1 h2 h3 h4 ey eg
  cases z
  all_goals
    go_enter Try.func6, Try.ntmps6
    go_upto_region 5 with (first | (go_at_call 7; refine (awake_c _).mono ?_; rintro e W ⟨rfl, hb⟩; replace HV := Lib.hid (HV.out.grow hb); clear hb) | (refine ldl rfl _ rfl _ _ rfl HV.out.head ?_) | (go_at_call 10; (with_reducible refine (CK.out _).mono ?_); rintro e W ⟨rfl, hb⟩; replace HV := Lib.hid (HV.out.grow hb); clear hb CK) | (go_at_call 8; (with_reducible refine (CS.out _).mono ?_); rintro e W1 ⟨rfl, hb⟩; replace HV := Lib.hid (HV.out.grow hb); clear hb CS) | (refine stw rfl _ _ rfl rfl _ zw ⟨v, 0, 0, 1, _, true⟩ rfl rfl (heap_alloc_last W1 _) ?_; intro W2 h1 h2; have HV2 := Lib.hid (HV.out.put h1 h2); clear h1 h2 HV; obtain ⟨k0, k1, k2, k3, k4, k5⟩ := wfld HV2.out.head; obtain ⟨x0, x1, x2, x3, x4, x5⟩ := lfld HV2.out.h2) | fail)
    go_wp2_with fail
    go_ret
    exact ⟨rfl, HV2.out.old⟩

set_option maxRecDepth 100000 in
set_option maxHeartbeats 16000000 in
theorem first_6 (l : Lm) (v u : Int) (hk : Ok l) (h1 : l.lo ≤ v) (h2 : v ≤ l.hi) (h5 : u = v) (w : World) : Calls Try.prog 6 #[.agg (lc l), .int .i64 v, .int .i64 u] w fun e w' => e = .returned (.bool true) ∧ Below w.heap.size w w' := by
  have HV := Lib.hid (one_w w l)
  obtain ⟨z, ey, eg⟩ := first_r hk h1 h2
  have CK := Lib.hid (check_ok hk)
  have CS := Lib.hid (fun W => step_v ey eg W)
  have d1 : decide (l.lo ≤ v) = true := decide_eq_true (by omega)
  have d2 : decide (v ≤ l.hi) = true := decide_eq_true (by omega)
  have d3 : decide (u < l.lo) = false := decide_eq_false (by omega)
  have d4 : decide (l.hi < u) = false := decide_eq_false (by omega)
  have d5 : (u == v) = true := by simp [h5]
  clear hk h1 h2 h5 ey eg
  cases z
  all_goals
    go_enter Try.func6, Try.ntmps6
    go_upto_region 5 with (first | (go_at_call 7; refine (awake_c _).mono ?_; rintro e W ⟨rfl, hb⟩; replace HV := Lib.hid (HV.out.grow hb); clear hb) | (refine ldl rfl _ rfl _ _ rfl HV.out.head ?_) | (go_at_call 10; (with_reducible refine (CK.out _).mono ?_); rintro e W ⟨rfl, hb⟩; replace HV := Lib.hid (HV.out.grow hb); clear hb CK) | (go_at_call 8; (with_reducible refine (CS.out _).mono ?_); rintro e W1 ⟨rfl, hb⟩; replace HV := Lib.hid (HV.out.grow hb); clear hb CS) | (refine stw rfl _ _ rfl rfl _ zw ⟨v, 0, 0, 1, _, true⟩ rfl rfl (heap_alloc_last W1 _) ?_; intro W2 h1 h2; have HV2 := Lib.hid (HV.out.put h1 h2); clear h1 h2 HV; obtain ⟨k0, k1, k2, k3, k4, k5⟩ := wfld HV2.out.head; obtain ⟨x0, x1, x2, x3, x4, x5⟩ := lfld HV2.out.h2) | fail)
    go_wp2_with fail
    go_ret
    exact ⟨rfl, HV2.out.old⟩

set_option maxRecDepth 100000 in
set_option maxHeartbeats 16000000 in
theorem first_7 (l : Lm) (v u : Int) (hk : Ok l) (h1 : l.lo ≤ v) (h2 : v ≤ l.hi) (h3 : l.lo ≤ u) (h4 : u ≤ l.hi) (h5 : v < u) (h6 : l.ra < u - v) (h7 : u - v ≤ 2147483647) (w : World) : Calls Try.prog 6 #[.agg (lc l), .int .i64 v, .int .i64 u] w fun e w' => e = .returned (.bool true) ∧ Below w.heap.size w w' := by
  have HV := Lib.hid (one_w w l)
  obtain ⟨z, ey, eg⟩ := first_r hk h1 h2
  have CK := Lib.hid (check_ok hk)
  have CS := Lib.hid (fun W => step_v ey eg W)
  have d1 : decide (l.lo ≤ v) = true := decide_eq_true (by omega)
  have d2 : decide (v ≤ l.hi) = true := decide_eq_true (by omega)
  have d3 : decide (u < l.lo) = false := decide_eq_false (by omega)
  have d4 : decide (l.hi < u) = false := decide_eq_false (by omega)
  have d5 : (u == v) = false := by rw [beq_eq_false_iff_ne]; omega
  have b1 := hk.1.1
  have b2 := hk.2.1.2
  have mx : max v u = u := by omega
  have mn : min v u = v := by omega
  have CW := Lib.hid (fun W => wrong_v (far_t (z := z) hk h1 h2 h3 h4 (by omega) (by omega) (by omega) (by omega)) W)
  have d6 : decide (l.ra < u - v) = true := decide_eq_true (by omega)
  have d7 : decide (u - v ≤ 2147483647) = true := decide_eq_true (by omega)
  have d8 : decide (u - v ≤ l.ra) = false := decide_eq_false (by omega)
  have hw : IntKind.i64.wrap (u - v) = u - v := IntWalk.i64_in _ (by omega)
  clear hk h1 h2 h3 h4 h5 ey eg b1 b2 h6 h7
  cases z
  all_goals
    go_enter Try.func6, Try.ntmps6
    go_upto_region 5 with (first | (go_at_call 7; refine (awake_c _).mono ?_; rintro e W ⟨rfl, hb⟩; replace HV := Lib.hid (HV.out.grow hb); clear hb) | (refine ldl rfl _ rfl _ _ rfl HV.out.head ?_) | (go_at_call 10; (with_reducible refine (CK.out _).mono ?_); rintro e W ⟨rfl, hb⟩; replace HV := Lib.hid (HV.out.grow hb); clear hb CK) | (go_at_call 8; (with_reducible refine (CS.out _).mono ?_); rintro e W1 ⟨rfl, hb⟩; replace HV := Lib.hid (HV.out.grow hb); clear hb CS) | (refine stw rfl _ _ rfl rfl _ zw ⟨v, 0, 0, 1, _, true⟩ rfl rfl (heap_alloc_last W1 _) ?_; intro W2 h1 h2; have HV2 := Lib.hid (HV.out.put h1 h2); clear h1 h2 HV; obtain ⟨k0, k1, k2, k3, k4, k5⟩ := wfld HV2.out.head; obtain ⟨x0, x1, x2, x3, x4, x5⟩ := lfld HV2.out.h2) | fail)
    go_upto_region 12 with fail
    go_wp2_with (first | (go_at_call 12; (with_reducible refine (CW.out _).mono ?_); rintro e W ⟨rfl, hb⟩; replace HV2 := Lib.hid (HV2.out.grow hb); clear hb) | fail)
    go_ret
    exact ⟨rfl, HV2.out.old⟩
end Cw
end Go.Proofs.Ytimflomgaknoaaa
