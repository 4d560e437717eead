/- The document's answers: Check, next, Wrong. -/
import Derived.Test.YtimflomgaknoaaaCheckStep
namespace Go.Proofs.Ytimflomgaknoaaa
namespace Cw
open Go.RowKit Ck Lk

set_option maxRecDepth 100000 in
set_option maxHeartbeats 8000000 in
theorem rcheck_c (l : Lm) (w : World) : Calls Try.prog 11 #[.agg (lc l)] w fun e w' => e = .returned (.int .i64 (err l)) ∧ Below w.heap.size w w' := by
  have KP := Lib.hid (one_l w l).old
  by_cases h0 : l.lo < -2147483648
  · have E : Hid (err l = 1) := err_no (fun o => by obtain ⟨o1, o2, o3, o4, o5, o6⟩ := o; omega)
    have d0 : decide (l.lo < -2147483648) = true := decide_eq_true (by omega)
    clear h0
    go_enter Try.func11, Try.ntmps11
    go_wp2_with fail
    go_ret
    exact ⟨FixC.ret_int E.out.symm, KP.out⟩
  by_cases h1 : 2147483647 < l.hi
  · have E : Hid (err l = 1) := err_no (fun o => by obtain ⟨o1, o2, o3, o4, o5, o6⟩ := o; omega)
    have d0 : decide (l.lo < -2147483648) = false := decide_eq_false (by omega)
    have d1 : decide (2147483647 < l.hi) = true := decide_eq_true (by omega)
    clear h0 h1
    go_enter Try.func11, Try.ntmps11
    go_wp2_with fail
    go_ret
    exact ⟨FixC.ret_int E.out.symm, KP.out⟩
  by_cases h2 : l.hi < l.lo
  · have E : Hid (err l = 1) := err_no (fun o => by obtain ⟨o1, o2, o3, o4, o5, o6⟩ := o; omega)
    have d0 : decide (l.lo < -2147483648) = false := decide_eq_false (by omega)
    have d1 : decide (2147483647 < l.hi) = false := decide_eq_false (by omega)
    have d2 : decide (l.hi < l.lo) = true := decide_eq_true (by omega)
    clear h0 h1 h2
    go_enter Try.func11, Try.ntmps11
    go_wp2_with fail
    go_ret
    exact ⟨FixC.ret_int E.out.symm, KP.out⟩
  by_cases h3 : l.ra < 0
  · have E : Hid (err l = 1) := err_no (fun o => by obtain ⟨o1, o2, o3, o4, o5, o6⟩ := o; omega)
    have d0 : decide (l.lo < -2147483648) = false := decide_eq_false (by omega)
    have d1 : decide (2147483647 < l.hi) = false := decide_eq_false (by omega)
    have d2 : decide (l.hi < l.lo) = false := decide_eq_false (by omega)
    have d3 : decide (l.ra < 0) = true := decide_eq_true (by omega)
    clear h0 h1 h2 h3
    go_enter Try.func11, Try.ntmps11
    go_wp2_with fail
    go_ret
    exact ⟨FixC.ret_int E.out.symm, KP.out⟩
  by_cases h4 : 2147483647 < l.ra
  · have E : Hid (err l = 1) := err_no (fun o => by obtain ⟨o1, o2, o3, o4, o5, o6⟩ := o; omega)
    have d0 : decide (l.lo < -2147483648) = false := decide_eq_false (by omega)
    have d1 : decide (2147483647 < l.hi) = false := decide_eq_false (by omega)
    have d2 : decide (l.hi < l.lo) = false := decide_eq_false (by omega)
    have d3 : decide (l.ra < 0) = false := decide_eq_false (by omega)
    have d4 : decide (2147483647 < l.ra) = true := decide_eq_true (by omega)
    clear h0 h1 h2 h3 h4
    go_enter Try.func11, Try.ntmps11
    go_wp2_with fail
    go_ret
    exact ⟨FixC.ret_int E.out.symm, KP.out⟩
  by_cases h5 : l.st < 0
  · have E : Hid (err l = 1) := err_no (fun o => by obtain ⟨o1, o2, o3, o4, o5, o6⟩ := o; omega)
    have d0 : decide (l.lo < -2147483648) = false := decide_eq_false (by omega)
    have d1 : decide (2147483647 < l.hi) = false := decide_eq_false (by omega)
    have d2 : decide (l.hi < l.lo) = false := decide_eq_false (by omega)
    have d3 : decide (l.ra < 0) = false := decide_eq_false (by omega)
    have d4 : decide (2147483647 < l.ra) = false := decide_eq_false (by omega)
    have d5 : decide (l.st < 0) = true := decide_eq_true (by omega)
    clear h0 h1 h2 h3 h4 h5
    go_enter Try.func11, Try.ntmps11
    go_wp2_with fail
    go_ret
    exact ⟨FixC.ret_int E.out.symm, KP.out⟩
  by_cases h6 : 2147483647 < l.st
  · have E : Hid (err l = 1) := err_no (fun o => by obtain ⟨o1, o2, o3, o4, o5, o6⟩ := o; omega)
    have d0 : decide (l.lo < -2147483648) = false := decide_eq_false (by omega)
    have d1 : decide (2147483647 < l.hi) = false := decide_eq_false (by omega)
    have d2 : decide (l.hi < l.lo) = false := decide_eq_false (by omega)
    have d3 : decide (l.ra < 0) = false := decide_eq_false (by omega)
    have d4 : decide (2147483647 < l.ra) = false := decide_eq_false (by omega)
    have d5 : decide (l.st < 0) = false := decide_eq_false (by omega)
    have d6 : decide (2147483647 < l.st) = true := decide_eq_true (by omega)
    clear h0 h1 h2 h3 h4 h5 h6
    go_enter Try.func11, Try.ntmps11
    go_wp2_with fail
    go_ret
    exact ⟨FixC.ret_int E.out.symm, KP.out⟩
  by_cases h7 : l.ba < 1
  · have E : Hid (err l = 1) := err_no (fun o => by obtain ⟨o1, o2, o3, o4, o5, o6⟩ := o; omega)
    have d0 : decide (l.lo < -2147483648) = false := decide_eq_false (by omega)
    have d1 : decide (2147483647 < l.hi) = false := decide_eq_false (by omega)
    have d2 : decide (l.hi < l.lo) = false := decide_eq_false (by omega)
    have d3 : decide (l.ra < 0) = false := decide_eq_false (by omega)
    have d4 : decide (2147483647 < l.ra) = false := decide_eq_false (by omega)
    have d5 : decide (l.st < 0) = false := decide_eq_false (by omega)
    have d6 : decide (2147483647 < l.st) = false := decide_eq_false (by omega)
    have d7 : decide (l.ba < 1) = true := decide_eq_true (by omega)
    clear h0 h1 h2 h3 h4 h5 h6 h7
    go_enter Try.func11, Try.ntmps11
    go_wp2_with fail
    go_ret
    exact ⟨FixC.ret_int E.out.symm, KP.out⟩
  by_cases h8 : 1000 < l.ba
  · have E : Hid (err l = 1) := err_no (fun o => by obtain ⟨o1, o2, o3, o4, o5, o6⟩ := o; omega)
    have d0 : decide (l.lo < -2147483648) = false := decide_eq_false (by omega)
    have d1 : decide (2147483647 < l.hi) = false := decide_eq_false (by omega)
    have d2 : decide (l.hi < l.lo) = false := decide_eq_false (by omega)
    have d3 : decide (l.ra < 0) = false := decide_eq_false (by omega)
    have d4 : decide (2147483647 < l.ra) = false := decide_eq_false (by omega)
    have d5 : decide (l.st < 0) = false := decide_eq_false (by omega)
    have d6 : decide (2147483647 < l.st) = false := decide_eq_false (by omega)
    have d7 : decide (l.ba < 1) = false := decide_eq_false (by omega)
    have d8 : decide (1000 < l.ba) = true := decide_eq_true (by omega)
    clear h0 h1 h2 h3 h4 h5 h6 h7 h8
    go_enter Try.func11, Try.ntmps11
    go_wp2_with fail
    go_ret
    exact ⟨FixC.ret_int E.out.symm, KP.out⟩
  by_cases h9 : l.fi < 1
  · have E : Hid (err l = 1) := err_no (fun o => by obtain ⟨o1, o2, o3, o4, o5, o6⟩ := o; omega)
    have d0 : decide (l.lo < -2147483648) = false := decide_eq_false (by omega)
    have d1 : decide (2147483647 < l.hi) = false := decide_eq_false (by omega)
    have d2 : decide (l.hi < l.lo) = false := decide_eq_false (by omega)
    have d3 : decide (l.ra < 0) = false := decide_eq_false (by omega)
    have d4 : decide (2147483647 < l.ra) = false := decide_eq_false (by omega)
    have d5 : decide (l.st < 0) = false := decide_eq_false (by omega)
    have d6 : decide (2147483647 < l.st) = false := decide_eq_false (by omega)
    have d7 : decide (l.ba < 1) = false := decide_eq_false (by omega)
    have d8 : decide (1000 < l.ba) = false := decide_eq_false (by omega)
    have d9 : decide (l.fi < 1) = true := decide_eq_true (by omega)
    clear h0 h1 h2 h3 h4 h5 h6 h7 h8 h9
    go_enter Try.func11, Try.ntmps11
    go_wp2_with fail
    go_ret
    exact ⟨FixC.ret_int E.out.symm, KP.out⟩
  by_cases h10 : 1000 < l.fi
  · have E : Hid (err l = 1) := err_no (fun o => by obtain ⟨o1, o2, o3, o4, o5, o6⟩ := o; omega)
    have d0 : decide (l.lo < -2147483648) = false := decide_eq_false (by omega)
    have d1 : decide (2147483647 < l.hi) = false := decide_eq_false (by omega)
    have d2 : decide (l.hi < l.lo) = false := decide_eq_false (by omega)
    have d3 : decide (l.ra < 0) = false := decide_eq_false (by omega)
    have d4 : decide (2147483647 < l.ra) = false := decide_eq_false (by omega)
    have d5 : decide (l.st < 0) = false := decide_eq_false (by omega)
    have d6 : decide (2147483647 < l.st) = false := decide_eq_false (by omega)
    have d7 : decide (l.ba < 1) = false := decide_eq_false (by omega)
    have d8 : decide (1000 < l.ba) = false := decide_eq_false (by omega)
    have d9 : decide (l.fi < 1) = false := decide_eq_false (by omega)
    have d10 : decide (1000 < l.fi) = true := decide_eq_true (by omega)
    clear h0 h1 h2 h3 h4 h5 h6 h7 h8 h9 h10
    go_enter Try.func11, Try.ntmps11
    go_wp2_with fail
    go_ret
    exact ⟨FixC.ret_int E.out.symm, KP.out⟩
  have E : Hid (err l = 0) := err_ok ⟨⟨by omega, by omega⟩, ⟨by omega, by omega⟩, ⟨by omega, by omega⟩, ⟨by omega, by omega⟩, ⟨by omega, by omega⟩, ⟨by omega, by omega⟩⟩
  have d0 : decide (l.lo < -2147483648) = false := decide_eq_false (by omega)
  have d1 : decide (2147483647 < l.hi) = false := decide_eq_false (by omega)
  have d2 : decide (l.hi < l.lo) = false := decide_eq_false (by omega)
  have d3 : decide (l.ra < 0) = false := decide_eq_false (by omega)
  have d4 : decide (2147483647 < l.ra) = false := decide_eq_false (by omega)
  have d5 : decide (l.st < 0) = false := decide_eq_false (by omega)
  have d6 : decide (2147483647 < l.st) = false := decide_eq_false (by omega)
  have d7 : decide (l.ba < 1) = false := decide_eq_false (by omega)
  have d8 : decide (1000 < l.ba) = false := decide_eq_false (by omega)
  have d9 : decide (l.fi < 1) = false := decide_eq_false (by omega)
  have d10 : decide (1000 < l.fi) = false := decide_eq_false (by omega)
  clear h0 h1 h2 h3 h4 h5 h6 h7 h8 h9 h10
  go_enter Try.func11, Try.ntmps11
  go_wp2_with fail
  go_ret
  exact ⟨FixC.ret_int E.out.symm, KP.out⟩
theorem rcheck_ok {l : Lm} (h : Ok l) (w : World) : Calls Try.prog 11 #[.agg (lc l)] w fun e w' => e = .returned (.int .i64 0) ∧ Below w.heap.size w w' := by
  have := rcheck_c l w
  rwa [err_ok h] at this
theorem rcheck_no {l : Lm} (h : ¬ Ok l) (w : World) : Calls Try.prog 11 #[.agg (lc l)] w fun e w' => e = .returned (.int .i64 1) ∧ Below w.heap.size w w' := by
  have := rcheck_c l w
  rwa [err_no h] at this
theorem rcheck_v {l : Lm} {v : Int} (h : err l = v) (w : World) : Calls Try.prog 11 #[.agg (lc l)] w fun e w' => e = .returned (.int .i64 v) ∧ Below w.heap.size w w' := h ▸ rcheck_c l w

theorem next_c (n : Int) (w : World) : Calls Try.prog 19 #[.int .i64 n] w fun e w' => e = .returned (.int .i64 (next n)) ∧ w = w' := by
  rcases (by omega : n < 0 ∨ (0 ≤ n ∧ 1073741824 ≤ n) ∨ (0 ≤ n ∧ n < 1073741824)) with h | ⟨h, g⟩ | ⟨h, g⟩
  all_goals
    have E : Hid (next n = if n < 0 then 1 else if 1073741824 ≤ n then 1073741824 else n + 1) := rfl
    go_enter Try.func19, Try.ntmps19
    go_wp2_with fail
    go_ret
    refine ⟨FixC.ret_int ?_, rfl⟩
    rw [E.out]
    (repeat' split) <;> omega
theorem next_v {n v : Int} (h : next n = v) (w : World) : Calls Try.prog 19 #[.int .i64 n] w fun e w' => e = .returned (.int .i64 v) ∧ w = w' := h ▸ next_c n w
theorem rsub_v {a b d : Int} (h : Fx.sub a b = d) (w : World) : Calls Try.prog 22 #[.int .i64 a, .int .i64 b] w fun e w' => e = .returned (.int .i64 d) ∧ w = w' := h ▸ FixC.rsub_c a b w
theorem rsat_v {a d : Int} (h : Fx.sat a = d) (w : World) : Calls Try.prog 18 #[.int .i64 a] w fun e w' => e = .returned (.int .i64 d) ∧ w = w' := h ▸ FixC.rsat_c a w

set_option maxRecDepth 100000 in
set_option maxHeartbeats 4000000 in
theorem rwrong_1 (l : Lm) (la sm wr ri : Int) (lo be : Bool) (v d p : Int) (hk : ¬ Ok l) (hp : next sm = p) (hd : Fx.sub v la = d) (w : World) :
    Calls Try.prog 13 #[.agg (lc l), .agg (wc ⟨la, sm, wr, ri, lo, be⟩), .int .i64 v] w fun e w' => e = .returned (.bool true) ∧ Below w.heap.size w w' := by
  have HV := Lib.hid (two_lw w l ⟨la, sm, wr, ri, lo, be⟩)
  have CK := Lib.hid (rcheck_no hk)
  have CD := Lib.hid (fun W => rsub_v hd W)
  have CN := Lib.hid (fun W => next_v hp W)
  clear hk
  go_enter Try.func13, Try.ntmps13
  go_wp2_with (first | (refine ldl rfl _ rfl _ _ rfl HV.out.h2 ?_) | (go_at_call 22; (with_reducible refine (CD.out _).mono ?_); rintro e w' ⟨rfl, rfl⟩) | (go_at_call 11; (with_reducible refine (CK.out _).mono ?_); rintro e W ⟨rfl, hb⟩; replace HV := Lib.hid (HV.out.grow hb); clear hb CK; obtain ⟨c0, c1, c2, c3, c4, c5⟩ := lfld HV.out.h2; obtain ⟨k0, k1, k2, k3, k4, k5⟩ := wfld HV.out.head) | fail)
  go_ret
  exact ⟨rfl, HV.out.old⟩

set_option maxRecDepth 100000 in
set_option maxHeartbeats 4000000 in
theorem rwrong_2 (l : Lm) (la sm wr ri : Int) (lo be : Bool) (v d p : Int) (hk : Ok l) (h1 : v < l.lo) (hp : next sm = p) (hd : Fx.sub v la = d) (w : World) :
    Calls Try.prog 13 #[.agg (lc l), .agg (wc ⟨la, sm, wr, ri, lo, be⟩), .int .i64 v] w fun e w' => e = .returned (.bool true) ∧ Below w.heap.size w w' := by
  have HV := Lib.hid (two_lw w l ⟨la, sm, wr, ri, lo, be⟩)
  have CK := Lib.hid (rcheck_ok hk)
  have CD := Lib.hid (fun W => rsub_v hd W)
  have CN := Lib.hid (fun W => next_v hp W)
  have d1 : decide (v < l.lo) = true := decide_eq_true (by omega)
  clear hk h1
  go_enter Try.func13, Try.ntmps13
  go_wp2_with (first | (refine ldl rfl _ rfl _ _ rfl HV.out.h2 ?_) | (go_at_call 22; (with_reducible refine (CD.out _).mono ?_); rintro e w' ⟨rfl, rfl⟩) | (go_at_call 11; (with_reducible refine (CK.out _).mono ?_); rintro e W ⟨rfl, hb⟩; replace HV := Lib.hid (HV.out.grow hb); clear hb CK; obtain ⟨c0, c1, c2, c3, c4, c5⟩ := lfld HV.out.h2; obtain ⟨k0, k1, k2, k3, k4, k5⟩ := wfld HV.out.head) | fail)
  go_ret
  exact ⟨rfl, HV.out.old⟩

set_option maxRecDepth 100000 in
set_option maxHeartbeats 4000000 in
theorem rwrong_3 (l : Lm) (la sm wr ri : Int) (lo be : Bool) (v d p : Int) (hk : Ok l) (h1 : l.lo ≤ v) (h2 : l.hi < v) (hp : next sm = p) (hd : Fx.sub v la = d) (w : World) :
    Calls Try.prog 13 #[.agg (lc l), .agg (wc ⟨la, sm, wr, ri, lo, be⟩), .int .i64 v] w fun e w' => e = .returned (.bool true) ∧ Below w.heap.size w w' := by
  have HV := Lib.hid (two_lw w l ⟨la, sm, wr, ri, lo, be⟩)
  have CK := Lib.hid (rcheck_ok hk)
  have CD := Lib.hid (fun W => rsub_v hd W)
  have CN := Lib.hid (fun W => next_v hp W)
  have d1 : decide (v < l.lo) = false := decide_eq_false (by omega)
  have d2 : decide (l.hi < v) = true := decide_eq_true (by omega)
  clear hk h1 h2
  go_enter Try.func13, Try.ntmps13
  go_wp2_with (first | (refine ldl rfl _ rfl _ _ rfl HV.out.h2 ?_) | (go_at_call 22; (with_reducible refine (CD.out _).mono ?_); rintro e w' ⟨rfl, rfl⟩) | (go_at_call 11; (with_reducible refine (CK.out _).mono ?_); rintro e W ⟨rfl, hb⟩; replace HV := Lib.hid (HV.out.grow hb); clear hb CK; obtain ⟨c0, c1, c2, c3, c4, c5⟩ := lfld HV.out.h2; obtain ⟨k0, k1, k2, k3, k4, k5⟩ := wfld HV.out.head) | fail)
  go_ret
  exact ⟨rfl, HV.out.old⟩

set_option maxRecDepth 100000 in
set_option maxHeartbeats 4000000 in
theorem rwrong_4 (l : Lm) (la sm wr ri : Int) (lo : Bool) (v d p : Int) (hk : Ok l) (h1 : l.lo ≤ v) (h2 : v ≤ l.hi) (hp : next sm = p) (hd : Fx.sub v la = d) (w : World) :
    Calls Try.prog 13 #[.agg (lc l), .agg (wc ⟨la, sm, wr, ri, lo, false⟩), .int .i64 v] w fun e w' => e = .returned (.bool false) ∧ Below w.heap.size w w' := by
  have HV := Lib.hid (two_lw w l ⟨la, sm, wr, ri, lo, false⟩)
  have CK := Lib.hid (rcheck_ok hk)
  have CD := Lib.hid (fun W => rsub_v hd W)
  have CN := Lib.hid (fun W => next_v hp W)
  have d1 : decide (v < l.lo) = false := decide_eq_false (by omega)
  have d2 : decide (l.hi < v) = false := decide_eq_false (by omega)
  clear hk h1 h2
  go_enter Try.func13, Try.ntmps13
  go_wp2_with (first | (refine ldl rfl _ rfl _ _ rfl HV.out.h2 ?_) | (go_at_call 22; (with_reducible refine (CD.out _).mono ?_); rintro e w' ⟨rfl, rfl⟩) | (go_at_call 11; (with_reducible refine (CK.out _).mono ?_); rintro e W ⟨rfl, hb⟩; replace HV := Lib.hid (HV.out.grow hb); clear hb CK; obtain ⟨c0, c1, c2, c3, c4, c5⟩ := lfld HV.out.h2; obtain ⟨k0, k1, k2, k3, k4, k5⟩ := wfld HV.out.head) | fail)
  go_ret
  exact ⟨rfl, HV.out.old⟩

set_option maxRecDepth 100000 in
set_option maxHeartbeats 4000000 in
theorem rwrong_5 (l : Lm) (la sm wr ri : Int) (lo : Bool) (v d p : Int) (hk : Ok l) (h1 : l.lo ≤ v) (h2 : v ≤ l.hi) (h3 : l.ra < d) (hp : next sm = p) (hd : Fx.sub v la = d) (w : World) :
    Calls Try.prog 13 #[.agg (lc l), .agg (wc ⟨la, sm, wr, ri, lo, true⟩), .int .i64 v] w fun e w' => e = .returned (.bool true) ∧ Below w.heap.size w w' := by
  have HV := Lib.hid (two_lw w l ⟨la, sm, wr, ri, lo, true⟩)
  have CK := Lib.hid (rcheck_ok hk)
  have CD := Lib.hid (fun W => rsub_v hd W)
  have CN := Lib.hid (fun W => next_v hp W)
  have d1 : decide (v < l.lo) = false := decide_eq_false (by omega)
  have d2 : decide (l.hi < v) = false := decide_eq_false (by omega)
  have d3 : decide (l.ra < d) = true := decide_eq_true (by omega)
  clear hk h1 h2 h3
  go_enter Try.func13, Try.ntmps13
  go_wp2_with (first | (refine ldl rfl _ rfl _ _ rfl HV.out.h2 ?_) | (go_at_call 22; (with_reducible refine (CD.out _).mono ?_); rintro e w' ⟨rfl, rfl⟩) | (go_at_call 11; (with_reducible refine (CK.out _).mono ?_); rintro e W ⟨rfl, hb⟩; replace HV := Lib.hid (HV.out.grow hb); clear hb CK; obtain ⟨c0, c1, c2, c3, c4, c5⟩ := lfld HV.out.h2; obtain ⟨k0, k1, k2, k3, k4, k5⟩ := wfld HV.out.head) | fail)
  go_ret
  exact ⟨rfl, HV.out.old⟩

set_option maxRecDepth 100000 in
set_option maxHeartbeats 4000000 in
theorem rwrong_6 (l : Lm) (la sm wr ri : Int) (lo : Bool) (v d p : Int) (hk : Ok l) (h1 : l.lo ≤ v) (h2 : v ≤ l.hi) (h3 : d ≤ l.ra) (h4 : d < -l.ra) (hp : next sm = p) (hd : Fx.sub v la = d) (w : World) :
    Calls Try.prog 13 #[.agg (lc l), .agg (wc ⟨la, sm, wr, ri, lo, true⟩), .int .i64 v] w fun e w' => e = .returned (.bool true) ∧ Below w.heap.size w w' := by
  have HV := Lib.hid (two_lw w l ⟨la, sm, wr, ri, lo, true⟩)
  have CK := Lib.hid (rcheck_ok hk)
  have CD := Lib.hid (fun W => rsub_v hd W)
  have CN := Lib.hid (fun W => next_v hp W)
  have ra1 := hk.2.2.1.1; have ra2 := hk.2.2.1.2; have hw : IntKind.i64.wrap (-l.ra) = -l.ra := IntWalk.i64_in _ (by omega)
  have d1 : decide (v < l.lo) = false := decide_eq_false (by omega)
  have d2 : decide (l.hi < v) = false := decide_eq_false (by omega)
  have d3 : decide (l.ra < d) = false := decide_eq_false (by omega)
  have d4 : decide (d < -l.ra) = true := decide_eq_true (by omega)
  clear hk h1 h2 h3 h4
  go_enter Try.func13, Try.ntmps13
  go_wp2_with (first | (refine ldl rfl _ rfl _ _ rfl HV.out.h2 ?_) | (go_at_call 22; (with_reducible refine (CD.out _).mono ?_); rintro e w' ⟨rfl, rfl⟩) | (go_at_call 11; (with_reducible refine (CK.out _).mono ?_); rintro e W ⟨rfl, hb⟩; replace HV := Lib.hid (HV.out.grow hb); clear hb CK; obtain ⟨c0, c1, c2, c3, c4, c5⟩ := lfld HV.out.h2; obtain ⟨k0, k1, k2, k3, k4, k5⟩ := wfld HV.out.head) | fail)
  go_ret
  exact ⟨rfl, HV.out.old⟩

set_option maxRecDepth 100000 in
set_option maxHeartbeats 4000000 in
theorem rwrong_7 (l : Lm) (la sm wr ri : Int) (lo : Bool) (v d p : Int) (hk : Ok l) (h1 : l.lo ≤ v) (h2 : v ≤ l.hi) (h3 : d ≤ l.ra) (h4 : -l.ra ≤ d) (h5 : l.st = 0) (hp : next sm = p) (hd : Fx.sub v la = d) (w : World) :
    Calls Try.prog 13 #[.agg (lc l), .agg (wc ⟨la, sm, wr, ri, lo, true⟩), .int .i64 v] w fun e w' => e = .returned (.bool false) ∧ Below w.heap.size w w' := by
  have HV := Lib.hid (two_lw w l ⟨la, sm, wr, ri, lo, true⟩)
  have CK := Lib.hid (rcheck_ok hk)
  have CD := Lib.hid (fun W => rsub_v hd W)
  have CN := Lib.hid (fun W => next_v hp W)
  have ra1 := hk.2.2.1.1; have ra2 := hk.2.2.1.2; have hw : IntKind.i64.wrap (-l.ra) = -l.ra := IntWalk.i64_in _ (by omega)
  have d1 : decide (v < l.lo) = false := decide_eq_false (by omega)
  have d2 : decide (l.hi < v) = false := decide_eq_false (by omega)
  have d3 : decide (l.ra < d) = false := decide_eq_false (by omega)
  have d4 : decide (d < -l.ra) = false := decide_eq_false (by omega)
  have d5 : (l.st != 0) = false := by simp [h5]
  clear hk h1 h2 h3 h4 h5
  go_enter Try.func13, Try.ntmps13
  go_wp2_with (first | (refine ldl rfl _ rfl _ _ rfl HV.out.h2 ?_) | (go_at_call 22; (with_reducible refine (CD.out _).mono ?_); rintro e w' ⟨rfl, rfl⟩) | (go_at_call 11; (with_reducible refine (CK.out _).mono ?_); rintro e W ⟨rfl, hb⟩; replace HV := Lib.hid (HV.out.grow hb); clear hb CK; obtain ⟨c0, c1, c2, c3, c4, c5⟩ := lfld HV.out.h2; obtain ⟨k0, k1, k2, k3, k4, k5⟩ := wfld HV.out.head) | fail)
  go_quiet (fail)
  have HB : Hid (∀ n, Below w.heap.size w (W.drewN n)) := fun n => HV.out.old.trans ⟨rfl, rfl, rfl, Nat.le_refl _, fun _ _ => rfl⟩
  go_wp2_with fail
  go_ret
  exact ⟨rfl, HB.out _⟩

set_option maxRecDepth 100000 in
set_option maxHeartbeats 4000000 in
theorem rwrong_8 (l : Lm) (la sm wr ri : Int) (lo : Bool) (v d p : Int) (hk : Ok l) (h1 : l.lo ≤ v) (h2 : v ≤ l.hi) (h3 : d ≤ l.ra) (h4 : -l.ra ≤ d) (h5 : l.st ≠ 0) (h6 : v ≠ la) (hp : next sm = p) (hd : Fx.sub v la = d) (w : World) :
    Calls Try.prog 13 #[.agg (lc l), .agg (wc ⟨la, sm, wr, ri, lo, true⟩), .int .i64 v] w fun e w' => e = .returned (.bool false) ∧ Below w.heap.size w w' := by
  have HV := Lib.hid (two_lw w l ⟨la, sm, wr, ri, lo, true⟩)
  have CK := Lib.hid (rcheck_ok hk)
  have CD := Lib.hid (fun W => rsub_v hd W)
  have CN := Lib.hid (fun W => next_v hp W)
  have ra1 := hk.2.2.1.1; have ra2 := hk.2.2.1.2; have hw : IntKind.i64.wrap (-l.ra) = -l.ra := IntWalk.i64_in _ (by omega)
  have d1 : decide (v < l.lo) = false := decide_eq_false (by omega)
  have d2 : decide (l.hi < v) = false := decide_eq_false (by omega)
  have d3 : decide (l.ra < d) = false := decide_eq_false (by omega)
  have d4 : decide (d < -l.ra) = false := decide_eq_false (by omega)
  have d5 : (l.st != 0) = true := by simp [h5]
  have d6 : (v == la) = false := by simp [h6]
  clear hk h1 h2 h3 h4 h5 h6
  go_enter Try.func13, Try.ntmps13
  go_wp2_with (first | (refine ldl rfl _ rfl _ _ rfl HV.out.h2 ?_) | (go_at_call 22; (with_reducible refine (CD.out _).mono ?_); rintro e w' ⟨rfl, rfl⟩) | (go_at_call 11; (with_reducible refine (CK.out _).mono ?_); rintro e W ⟨rfl, hb⟩; replace HV := Lib.hid (HV.out.grow hb); clear hb CK; obtain ⟨c0, c1, c2, c3, c4, c5⟩ := lfld HV.out.h2; obtain ⟨k0, k1, k2, k3, k4, k5⟩ := wfld HV.out.head) | fail)
  go_quiet (fail)
  have HB : Hid (∀ n, Below w.heap.size w (W.drewN n)) := fun n => HV.out.old.trans ⟨rfl, rfl, rfl, Nat.le_refl _, fun _ _ => rfl⟩
  go_wp2_with fail
  go_ret
  exact ⟨rfl, HB.out _⟩

set_option maxRecDepth 100000 in
set_option maxHeartbeats 4000000 in
theorem rwrong_9 (l : Lm) (la sm wr ri : Int) (lo : Bool) (v d p : Int) (hk : Ok l) (h1 : l.lo ≤ v) (h2 : v ≤ l.hi) (h3 : d ≤ l.ra) (h4 : -l.ra ≤ d) (h5 : l.st ≠ 0) (h6 : v = la) (h7 : l.st ≤ p) (hp : next sm = p) (hd : Fx.sub v la = d) (w : World) :
    Calls Try.prog 13 #[.agg (lc l), .agg (wc ⟨la, sm, wr, ri, lo, true⟩), .int .i64 v] w fun e w' => e = .returned (.bool true) ∧ Below w.heap.size w w' := by
  have HV := Lib.hid (two_lw w l ⟨la, sm, wr, ri, lo, true⟩)
  have CK := Lib.hid (rcheck_ok hk)
  have CD := Lib.hid (fun W => rsub_v hd W)
  have CN := Lib.hid (fun W => next_v hp W)
  have ra1 := hk.2.2.1.1; have ra2 := hk.2.2.1.2; have hw : IntKind.i64.wrap (-l.ra) = -l.ra := IntWalk.i64_in _ (by omega)
  have d1 : decide (v < l.lo) = false := decide_eq_false (by omega)
  have d2 : decide (l.hi < v) = false := decide_eq_false (by omega)
  have d3 : decide (l.ra < d) = false := decide_eq_false (by omega)
  have d4 : decide (d < -l.ra) = false := decide_eq_false (by omega)
  have d5 : (l.st != 0) = true := by simp [h5]
  have d6 : (v == la) = true := by simp [h6]
  have d7 : decide (l.st ≤ p) = true := decide_eq_true (by omega)
  clear hk h1 h2 h3 h4 h5 h6 h7
  go_enter Try.func13, Try.ntmps13
  go_wp2_with (first | (refine ldl rfl _ rfl _ _ rfl HV.out.h2 ?_) | (go_at_call 22; (with_reducible refine (CD.out _).mono ?_); rintro e w' ⟨rfl, rfl⟩) | (go_at_call 11; (with_reducible refine (CK.out _).mono ?_); rintro e W ⟨rfl, hb⟩; replace HV := Lib.hid (HV.out.grow hb); clear hb CK; obtain ⟨c0, c1, c2, c3, c4, c5⟩ := lfld HV.out.h2; obtain ⟨k0, k1, k2, k3, k4, k5⟩ := wfld HV.out.head) | fail)
  clear c0 c1 c2 c3 c4 c5 k0 k1 k2 k3 k4 k5
  go_region_held3 (fun V => V.cell? ⟨w.heap.size, 3, none⟩ = some (.int .i64 l.st) ∧ V.cell? ⟨w.heap.size + 1, 0, none⟩ = some (.int .i64 la) ∧ V.cell? ⟨w.heap.size + 1, 1, none⟩ = some (.int .i64 sm)) (first | exact ⟨(lfld HV.out.h2).2.2.2.1, (wfld HV.out.head).1, (wfld HV.out.head).2.1⟩ | exact ⟨(lfld HV.out.drew.h2).2.2.2.1, (wfld HV.out.drew.head).1, (wfld HV.out.drew.head).2.1⟩ | fail)
    (first | (go_at_call 19; (with_reducible refine (CN.out _).mono ?_); rintro e w' ⟨rfl, rfl⟩) | fail)
  go_wp2_with fail
  go_ret
  exact ⟨rfl, HV.out.drew.old⟩

set_option maxRecDepth 100000 in
set_option maxHeartbeats 4000000 in
theorem rwrong_10 (l : Lm) (la sm wr ri : Int) (lo : Bool) (v d p : Int) (hk : Ok l) (h1 : l.lo ≤ v) (h2 : v ≤ l.hi) (h3 : d ≤ l.ra) (h4 : -l.ra ≤ d) (h5 : l.st ≠ 0) (h6 : v = la) (h7 : p < l.st) (hp : next sm = p) (hd : Fx.sub v la = d) (w : World) :
    Calls Try.prog 13 #[.agg (lc l), .agg (wc ⟨la, sm, wr, ri, lo, true⟩), .int .i64 v] w fun e w' => e = .returned (.bool false) ∧ Below w.heap.size w w' := by
  have HV := Lib.hid (two_lw w l ⟨la, sm, wr, ri, lo, true⟩)
  have CK := Lib.hid (rcheck_ok hk)
  have CD := Lib.hid (fun W => rsub_v hd W)
  have CN := Lib.hid (fun W => next_v hp W)
  have ra1 := hk.2.2.1.1; have ra2 := hk.2.2.1.2; have hw : IntKind.i64.wrap (-l.ra) = -l.ra := IntWalk.i64_in _ (by omega)
  have d1 : decide (v < l.lo) = false := decide_eq_false (by omega)
  have d2 : decide (l.hi < v) = false := decide_eq_false (by omega)
  have d3 : decide (l.ra < d) = false := decide_eq_false (by omega)
  have d4 : decide (d < -l.ra) = false := decide_eq_false (by omega)
  have d5 : (l.st != 0) = true := by simp [h5]
  have d6 : (v == la) = true := by simp [h6]
  have d7 : decide (l.st ≤ p) = false := decide_eq_false (by omega)
  clear hk h1 h2 h3 h4 h5 h6 h7
  go_enter Try.func13, Try.ntmps13
  go_wp2_with (first | (refine ldl rfl _ rfl _ _ rfl HV.out.h2 ?_) | (go_at_call 22; (with_reducible refine (CD.out _).mono ?_); rintro e w' ⟨rfl, rfl⟩) | (go_at_call 11; (with_reducible refine (CK.out _).mono ?_); rintro e W ⟨rfl, hb⟩; replace HV := Lib.hid (HV.out.grow hb); clear hb CK; obtain ⟨c0, c1, c2, c3, c4, c5⟩ := lfld HV.out.h2; obtain ⟨k0, k1, k2, k3, k4, k5⟩ := wfld HV.out.head) | fail)
  clear c0 c1 c2 c3 c4 c5 k0 k1 k2 k3 k4 k5
  go_region_held3 (fun V => V.cell? ⟨w.heap.size, 3, none⟩ = some (.int .i64 l.st) ∧ V.cell? ⟨w.heap.size + 1, 0, none⟩ = some (.int .i64 la) ∧ V.cell? ⟨w.heap.size + 1, 1, none⟩ = some (.int .i64 sm)) (first | exact ⟨(lfld HV.out.h2).2.2.2.1, (wfld HV.out.head).1, (wfld HV.out.head).2.1⟩ | exact ⟨(lfld HV.out.drew.h2).2.2.2.1, (wfld HV.out.drew.head).1, (wfld HV.out.drew.head).2.1⟩ | fail)
    (first | (go_at_call 19; (with_reducible refine (CN.out _).mono ?_); rintro e w' ⟨rfl, rfl⟩) | fail)
  go_wp2_with fail
  go_ret
  exact ⟨rfl, HV.out.drew.old⟩

theorem rwrong_c (l : Lm) (x : Wa) (v : Int) (w : World) : Calls Try.prog 13 #[.agg (lc l), .agg (wc x), .int .i64 v] w fun e w' => e = .returned (.bool (wrong l x v)) ∧ Below w.heap.size w w' := by
  obtain ⟨la, sm, wr, ri, lo, be⟩ := x
  obtain ⟨d, hd⟩ : ∃ d, Fx.sub v la = d := ⟨_, rfl⟩
  obtain ⟨p, hp⟩ : ∃ p, next sm = p := ⟨_, rfl⟩
  by_cases hk : Ok l
  · by_cases h1 : v < l.lo
    · rw [wrong_t (.inr (.inl h1))]; exact rwrong_2 l la sm wr ri lo be v d p hk h1 hp hd w
    by_cases h2 : l.hi < v
    · rw [wrong_t (.inr (.inr (.inl h2)))]; exact rwrong_3 l la sm wr ri lo be v d p hk (by omega) h2 hp hd w
    have h1' : l.lo ≤ v := by omega
    have h2' : v ≤ l.hi := by omega
    have hv : Fx.sat v = v := Fx.sat_id v (by have := hk.1.1; omega) (by have := hk.2.1.2; omega)
    have hst := hk.2.2.2.1.1
    have hne := Ck.next_in sm
    have W : Wrong l ⟨la, sm, wr, ri, lo, be⟩ v ↔ (be = true ∧ (l.ra < d ∨ d < -l.ra)) ∨ (l.st ≠ 0 ∧ be = true ∧ v = la ∧ l.st ≤ p) := by
      unfold Wrong; rw [hd]
      have hs : Ck.same ⟨la, sm, wr, ri, lo, be⟩ v = if be = true ∧ v = la then p else 0 := by
        show cnt sm (be && (la == Fx.sat v)) = _
        rw [hv]
        unfold cnt
        rw [hp]
        cases be
        · simp
        · by_cases e : la = v
          · simp [e]
          · have e' : ¬ v = la := fun h => e h.symm
            simp [e, e']
      rw [hs]
      have hx : (l.st ≠ 0 ∧ l.st ≤ (if be = true ∧ v = la then p else 0)) ↔ (l.st ≠ 0 ∧ be = true ∧ v = la ∧ l.st ≤ p) := by
        split
        · rename_i h; exact ⟨fun g => ⟨g.1, h.1, h.2, g.2⟩, fun g => ⟨g.1, g.2.2.2⟩⟩
        · rename_i h; exact ⟨fun g => absurd g.2 (by have := g.1; omega), fun g => absurd ⟨g.2.1, g.2.2.1⟩ h⟩
      exact ⟨fun h => h.elim (fun h => absurd hk h) fun h => h.elim (fun h => absurd h h1) fun h => h.elim (fun h => absurd h h2) fun h => h.imp id hx.1, fun h => .inr (.inr (.inr (h.imp id hx.2)))⟩
    cases be with
    | false => rw [wrong_f (fun h => (W.1 h).elim (fun h => Bool.noConfusion h.1) (fun h => Bool.noConfusion h.2.1))]; exact rwrong_4 l la sm wr ri lo v d p hk h1' h2' hp hd w
    | true =>
      by_cases h3 : l.ra < d
      · rw [wrong_t (W.2 (.inl ⟨rfl, .inl h3⟩))]; exact rwrong_5 l la sm wr ri lo v d p hk h1' h2' h3 hp hd w
      by_cases h4 : d < -l.ra
      · rw [wrong_t (W.2 (.inl ⟨rfl, .inr h4⟩))]; exact rwrong_6 l la sm wr ri lo v d p hk h1' h2' (by omega) h4 hp hd w
      by_cases h5 : l.st = 0
      · rw [wrong_f (fun h => (W.1 h).elim (fun h => h.2.elim h3 h4) (fun h => h.1 h5))]; exact rwrong_7 l la sm wr ri lo v d p hk h1' h2' (by omega) (by omega) h5 hp hd w
      by_cases h6 : v = la
      · by_cases h7 : l.st ≤ p
        · rw [wrong_t (W.2 (.inr ⟨h5, rfl, h6, h7⟩))]; exact rwrong_9 l la sm wr ri lo v d p hk h1' h2' (by omega) (by omega) h5 h6 h7 hp hd w
        · rw [wrong_f (fun h => (W.1 h).elim (fun h => h.2.elim h3 h4) (fun h => h7 h.2.2.2))]; exact rwrong_10 l la sm wr ri lo v d p hk h1' h2' (by omega) (by omega) h5 h6 (by omega) hp hd w
      · rw [wrong_f (fun h => (W.1 h).elim (fun h => h.2.elim h3 h4) (fun h => h6 h.2.2.1))]; exact rwrong_8 l la sm wr ri lo v d p hk h1' h2' (by omega) (by omega) h5 h6 hp hd w
  · rw [wrong_t (.inl hk)]; exact rwrong_1 l la sm wr ri lo be v d p hk hp hd w
theorem rwrong_v {l : Lm} {x : Wa} {v : Int} {b : Bool} (h : wrong l x v = b) (w : World) : Calls Try.prog 13 #[.agg (lc l), .agg (wc x), .int .i64 v] w fun e w' => e = .returned (.bool b) ∧ Below w.heap.size w w' := h ▸ rwrong_c l x v w
end Cw
end Go.Proofs.Ytimflomgaknoaaa
