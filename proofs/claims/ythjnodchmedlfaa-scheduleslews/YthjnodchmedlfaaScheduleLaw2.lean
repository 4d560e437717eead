/- The walk of ScheduleSlews. Printed by gen_law2.py. -/
import Derived.Test.YthjnodchmedlfaaScheduleLaw1
import Derived.Test.YthjnodchmedlfaaLimKit
import Derived.Lib.MinMax
namespace Go.Proofs.Ythjnodchmedlfaa
namespace Hw
open Go.RowKit TabC Lk Ew

set_option maxRecDepth 100000 in
set_option maxHeartbeats 4000000 in
theorem ScheduleSlews_few1 (e : Eg) (l : Lg) (n v x : Int) (w : World) (h1 : fewL l = false) : Calls Try.prog 4 #[.agg (ec e), .agg (lc l), .int .i64 n, .int .i64 v, .int .i64 x] w fun r w' => r = .returned (.bool true) ∧ Below w.heap.size w w' := by
  have HV := Lib.hid (two_el w e l)
  have F1 := Lib.hid (fewl_v h1)
  clear h1
  go_enter Try.func4, Try.ntmps4
  go_upto_region 1 with fail
  generalize hE : Value.agg (ec e) = E at *
  generalize hL : Value.agg (lc l) = L at *
  go_wp2_with (first | (refine ldE hE rfl _ rfl _ rfl HV.out.h2 ?_) | (refine ldL hL rfl _ rfl _ rfl HV.out.head ?_) | (go_at_call 7; (with_reducible refine (awake_c _).mono ?_); rintro r W ⟨rfl, hb⟩; replace HV := Lib.hid (HV.out.grow hb); clear hb) | (go_at_call 8; (with_reducible refine (F1.out _).mono ?_); rintro r W ⟨rfl, hb⟩; replace HV := Lib.hid (HV.out.grow hb); clear hb) | fail)
  go_ret
  exact ⟨rfl, HV.out.old⟩

set_option maxRecDepth 100000 in
set_option maxHeartbeats 4000000 in
theorem ScheduleSlews_few2 (e : Eg) (l : Lg) (n v x : Int) (w : World) (h1 : fewL l = true) (h2 : fewE e = false) : Calls Try.prog 4 #[.agg (ec e), .agg (lc l), .int .i64 n, .int .i64 v, .int .i64 x] w fun r w' => r = .returned (.bool true) ∧ Below w.heap.size w w' := by
  have HV := Lib.hid (two_el w e l)
  have F1 := Lib.hid (fewl_v h1)
  have F2 := Lib.hid (Ew.few_v h2)
  clear h1 h2
  go_enter Try.func4, Try.ntmps4
  go_upto_region 1 with fail
  generalize hE : Value.agg (ec e) = E at *
  generalize hL : Value.agg (lc l) = L at *
  go_wp2_with (first | (refine ldE hE rfl _ rfl _ rfl HV.out.h2 ?_) | (refine ldL hL rfl _ rfl _ rfl HV.out.head ?_) | (go_at_call 7; (with_reducible refine (awake_c _).mono ?_); rintro r W ⟨rfl, hb⟩; replace HV := Lib.hid (HV.out.grow hb); clear hb) | (go_at_call 8; (with_reducible refine (F1.out _).mono ?_); rintro r W ⟨rfl, hb⟩; replace HV := Lib.hid (HV.out.grow hb); clear hb) | (go_at_call 9; (with_reducible refine (F2.out _).mono ?_); rintro r W ⟨rfl, hb⟩; replace HV := Lib.hid (HV.out.grow hb); clear hb) | fail)
  go_ret
  exact ⟨rfl, HV.out.old⟩

set_option maxRecDepth 100000 in
set_option maxHeartbeats 4000000 in
theorem Slews_no1 (e : Eg) (l : Lg) (n v x : Int) (w : World) (hE : EngIn w e) (h1 : fewL l = true) (h2 : fewE e = true) (h3 : Em.okB (en e) = false) : Calls Try.prog 4 #[.agg (ec e), .agg (lc l), .int .i64 n, .int .i64 v, .int .i64 x] w fun r w' => r = .returned (.bool true) ∧ Below w.heap.size w w' := by
  have HV := Lib.hid (two_el w e l)
  have F1 := Lib.hid (fewl_v h1)
  have F2 := Lib.hid (Ew.few_v h2)
  have C1 := Lib.hid (fun W (hW : Below w.heap.size w W) => Ew.check_no e W (hE.below hW) h3)
  clear hE h1 h2 h3
  go_enter Try.func4, Try.ntmps4
  go_upto_region 1 with fail
  generalize hE : Value.agg (ec e) = E at *
  generalize hL : Value.agg (lc l) = L at *
  go_wp2_with (first | (refine ldE hE rfl _ rfl _ rfl HV.out.h2 ?_) | (refine ldL hL rfl _ rfl _ rfl HV.out.head ?_) | (go_at_call 7; (with_reducible refine (awake_c _).mono ?_); rintro r W ⟨rfl, hb⟩; replace HV := Lib.hid (HV.out.grow hb); clear hb) | (go_at_call 8; (with_reducible refine (F1.out _).mono ?_); rintro r W ⟨rfl, hb⟩; replace HV := Lib.hid (HV.out.grow hb); clear hb) | (go_at_call 9; (with_reducible refine (F2.out _).mono ?_); rintro r W ⟨rfl, hb⟩; replace HV := Lib.hid (HV.out.grow hb); clear hb) | (go_at_call 18; (with_reducible refine (C1.out _ HV.out.old).mono ?_); rintro r W ⟨rfl, hb⟩; replace HV := Lib.hid (HV.out.grow hb); clear hb) | fail)
  go_ret
  exact ⟨rfl, HV.out.old⟩

set_option maxRecDepth 100000 in
set_option maxHeartbeats 4000000 in
theorem Slews_no2 (e : Eg) (l : Lg) (n v x : Int) (w : World) (hE : EngIn w e) (hL : LawIn w l) (h1 : fewL l = true) (h2 : fewE e = true) (h3 : Em.okB (en e) = true) (h4 : Sd.okB (la l) = false) : Calls Try.prog 4 #[.agg (ec e), .agg (lc l), .int .i64 n, .int .i64 v, .int .i64 x] w fun r w' => r = .returned (.bool true) ∧ Below w.heap.size w w' := by
  have HV := Lib.hid (two_el w e l)
  have F1 := Lib.hid (fewl_v h1)
  have F2 := Lib.hid (Ew.few_v h2)
  have C1 := Lib.hid (fun W (hW : Below w.heap.size w W) => Ew.check_ok e W (hE.below hW) h3)
  have C2 := Lib.hid (fun W (hW : Below w.heap.size w W) => cl_no l W (hL.below hW) h4)
  clear hE hL h1 h2 h3 h4
  go_enter Try.func4, Try.ntmps4
  go_upto_region 1 with fail
  generalize hE : Value.agg (ec e) = E at *
  generalize hL : Value.agg (lc l) = L at *
  go_wp2_with (first | (refine ldE hE rfl _ rfl _ rfl HV.out.h2 ?_) | (refine ldL hL rfl _ rfl _ rfl HV.out.head ?_) | (go_at_call 7; (with_reducible refine (awake_c _).mono ?_); rintro r W ⟨rfl, hb⟩; replace HV := Lib.hid (HV.out.grow hb); clear hb) | (go_at_call 8; (with_reducible refine (F1.out _).mono ?_); rintro r W ⟨rfl, hb⟩; replace HV := Lib.hid (HV.out.grow hb); clear hb) | (go_at_call 9; (with_reducible refine (F2.out _).mono ?_); rintro r W ⟨rfl, hb⟩; replace HV := Lib.hid (HV.out.grow hb); clear hb) | (go_at_call 18; (with_reducible refine (C1.out _ HV.out.old).mono ?_); rintro r W ⟨rfl, hb⟩; replace HV := Lib.hid (HV.out.grow hb); clear hb) | (go_at_call 10; (with_reducible refine (C2.out _ HV.out.old).mono ?_); rintro r W ⟨rfl, hb⟩; replace HV := Lib.hid (HV.out.grow hb); clear hb) | fail)
  go_ret
  exact ⟨rfl, HV.out.old⟩

set_option maxRecDepth 100000 in
set_option maxHeartbeats 4000000 in
theorem Slews_low (e : Eg) (l : Lg) (n v x : Int) (w : World) (hE : EngIn w e) (hL : LawIn w l) (h1 : fewL l = true) (h2 : fewE e = true) (h3 : Em.okB (en e) = true) (h4 : Sd.okB (la l) = true) (hv : v < 0) : Calls Try.prog 4 #[.agg (ec e), .agg (lc l), .int .i64 n, .int .i64 v, .int .i64 x] w fun r w' => r = .returned (.bool true) ∧ Below w.heap.size w w' := by
  have HV := Lib.hid (two_el w e l)
  have F1 := Lib.hid (fewl_v h1)
  have F2 := Lib.hid (Ew.few_v h2)
  have C1 := Lib.hid (fun W (hW : Below w.heap.size w W) => Ew.check_ok e W (hE.below hW) h3)
  have C2 := Lib.hid (fun W (hW : Below w.heap.size w W) => cl_ok l W (hL.below hW) h4)
  have d1 : decide (v < 0) = true := decide_eq_true hv
  clear hE hL h1 h2 h3 h4 hv
  go_enter Try.func4, Try.ntmps4
  go_upto_region 1 with fail
  generalize hE : Value.agg (ec e) = E at *
  generalize hL : Value.agg (lc l) = L at *
  go_wp2_with (first | (refine ldE hE rfl _ rfl _ rfl HV.out.h2 ?_) | (refine ldL hL rfl _ rfl _ rfl HV.out.head ?_) | (go_at_call 7; (with_reducible refine (awake_c _).mono ?_); rintro r W ⟨rfl, hb⟩; replace HV := Lib.hid (HV.out.grow hb); clear hb) | (go_at_call 8; (with_reducible refine (F1.out _).mono ?_); rintro r W ⟨rfl, hb⟩; replace HV := Lib.hid (HV.out.grow hb); clear hb) | (go_at_call 9; (with_reducible refine (F2.out _).mono ?_); rintro r W ⟨rfl, hb⟩; replace HV := Lib.hid (HV.out.grow hb); clear hb) | (go_at_call 18; (with_reducible refine (C1.out _ HV.out.old).mono ?_); rintro r W ⟨rfl, hb⟩; replace HV := Lib.hid (HV.out.grow hb); clear hb) | (go_at_call 10; (with_reducible refine (C2.out _ HV.out.old).mono ?_); rintro r W ⟨rfl, hb⟩; replace HV := Lib.hid (HV.out.grow hb); clear hb) | fail)
  go_ret
  exact ⟨rfl, HV.out.old⟩

set_option maxRecDepth 100000 in
set_option maxHeartbeats 4000000 in
theorem Slews_high (e : Eg) (l : Lg) (n v x : Int) (w : World) (hE : EngIn w e) (hL : LawIn w l) (h1 : fewL l = true) (h2 : fewE e = true) (h3 : Em.okB (en e) = true) (h4 : Sd.okB (la l) = true) (hv : ¬ v < 0) (hx : 1048576 < v) : Calls Try.prog 4 #[.agg (ec e), .agg (lc l), .int .i64 n, .int .i64 v, .int .i64 x] w fun r w' => r = .returned (.bool true) ∧ Below w.heap.size w w' := by
  have HV := Lib.hid (two_el w e l)
  have F1 := Lib.hid (fewl_v h1)
  have F2 := Lib.hid (Ew.few_v h2)
  have C1 := Lib.hid (fun W (hW : Below w.heap.size w W) => Ew.check_ok e W (hE.below hW) h3)
  have C2 := Lib.hid (fun W (hW : Below w.heap.size w W) => cl_ok l W (hL.below hW) h4)
  have d1 : decide (v < 0) = false := decide_eq_false hv
  have d2 : decide (1048576 < v) = true := decide_eq_true hx
  clear hE hL h1 h2 h3 h4 hv hx
  go_enter Try.func4, Try.ntmps4
  go_upto_region 1 with fail
  generalize hE : Value.agg (ec e) = E at *
  generalize hL : Value.agg (lc l) = L at *
  go_wp2_with (first | (refine ldE hE rfl _ rfl _ rfl HV.out.h2 ?_) | (refine ldL hL rfl _ rfl _ rfl HV.out.head ?_) | (go_at_call 7; (with_reducible refine (awake_c _).mono ?_); rintro r W ⟨rfl, hb⟩; replace HV := Lib.hid (HV.out.grow hb); clear hb) | (go_at_call 8; (with_reducible refine (F1.out _).mono ?_); rintro r W ⟨rfl, hb⟩; replace HV := Lib.hid (HV.out.grow hb); clear hb) | (go_at_call 9; (with_reducible refine (F2.out _).mono ?_); rintro r W ⟨rfl, hb⟩; replace HV := Lib.hid (HV.out.grow hb); clear hb) | (go_at_call 18; (with_reducible refine (C1.out _ HV.out.old).mono ?_); rintro r W ⟨rfl, hb⟩; replace HV := Lib.hid (HV.out.grow hb); clear hb) | (go_at_call 10; (with_reducible refine (C2.out _ HV.out.old).mono ?_); rintro r W ⟨rfl, hb⟩; replace HV := Lib.hid (HV.out.grow hb); clear hb) | fail)
  go_ret
  exact ⟨rfl, HV.out.old⟩

/-- What Next comes to, of laws and engines that may be. -/
theorem next_is {e : Eg} {l : Lg} (h3 : Em.okB (en e) = true) (h4 : Sd.okB (la l) = true) {n v x a : Int} (ha : Sd.allow (la l) n x = a) (hv : 0 ≤ v ∧ v ≤ 1048576) : Sd.next (en e) (la l) n v x = if e.slew < a - v then v + e.slew else if e.slew < v - a then v - e.slew else a := by
  have K := Em.ok_of h3
  have hs : 1 ≤ e.slew ∧ e.slew ≤ 1048576 := by
    simp only [Em.okB, Em.nums, Em.within, Bool.and_eq_true, decide_eq_true_eq] at h3
    exact h3.1.2.1.1.1.1
  have hal : Sd.allow (la l) n x = Sd.alw (la l) n x := by rw [Sd.allow, if_pos h4]
  have hb := Sd.alw_bd (Sd.ok_of h4) n x
  rw [Sd.next, h3, h4, if_pos (by rfl), ← hal, ha]
  exact Sd.slew_is hv (by rw [← ha, hal]; exact hb) hs
theorem slew_bd {e : Eg} (h3 : Em.okB (en e) = true) : 1 ≤ e.slew ∧ e.slew ≤ 1048576 := by
  simp only [Em.okB, Em.nums, Em.within, Bool.and_eq_true, decide_eq_true_eq] at h3
  exact h3.1.2.1.1.1.1
theorem allow_bd {l : Lg} (h4 : Sd.okB (la l) = true) (n x : Int) : 0 ≤ Sd.allow (la l) n x ∧ Sd.allow (la l) n x ≤ 1048576 := by
  rw [Sd.allow, if_pos h4]; exact Sd.alw_bd (Sd.ok_of h4) n x
theorem tab_bd {xs ys : List Int} (h : Em.Ri xs ys) (x : Int) : 0 ≤ Tb.atv xs ys x ∧ Tb.atv xs ys x ≤ 1048576 := Sd.atv_bd h x
theorem at_v {t : Tv} {w : World} (hT : TabIn w t.A t.B t.xs t.ys) {x a : Int} (h : Tb.atv t.xs t.ys x = a) {W : World} (hW : Below w.heap.size w W) : Calls Try.prog 19 #[.agg #[.slice t.A t.xs.length t.ca, .slice t.B t.ys.length t.cb], .int .i64 x] W fun r w' => r = .returned (.int .i64 a) ∧ Below W.heap.size W w' := by
  have := atv_c t.A t.B t.ca t.cb t.xs t.ys x W (hT.below hW)
  rwa [h] at this
theorem allow_v {l : Lg} {w : World} (hL : LawIn w l) {n x a : Int} (h : Sd.allow (la l) n x = a) {W : World} (hW : Below w.heap.size w W) : Calls Try.prog 14 #[.agg (lc l), .int .i64 n, .int .i64 x] W fun r w' => r = .returned (.int .i64 a) ∧ Below W.heap.size W w' := by
  have := allow_c l n x W (hL.below hW)
  rwa [h] at this
theorem next_v {e : Eg} {l : Lg} {w : World} (hE : EngIn w e) (hL : LawIn w l) {n v x z : Int} (h : Sd.next (en e) (la l) n v x = z) {W : World} (hW : Below w.heap.size w W) : Calls Try.prog 16 #[.agg (ec e), .agg (lc l), .int .i64 n, .int .i64 v, .int .i64 x] W fun r w' => r = .returned (.int .i64 z) ∧ Below W.heap.size W w' := by
  have := next_c e l n v x W (hE.below hW) (hL.below hW)
  rwa [h] at this
theorem ask_v {e : Eg} {w : World} (hE : EngIn w e) {x a : Int} (h : Sd.ask (en e) x = a) {W : World} (hW : Below w.heap.size w W) : Calls Try.prog 12 #[.agg (ec e), .int .i64 x] W fun r w' => r = .returned (.int .i64 a) ∧ Below W.heap.size W w' := by
  have := ask_c e x W (hE.below hW)
  rwa [h] at this

set_option maxRecDepth 100000 in
set_option maxHeartbeats 4000000 in
theorem Slews_up1 (e : Eg) (l : Lg) (n v x a z p q : Int) (w : World) (hE : EngIn w e) (hL : LawIn w l) (h1 : fewL l = true) (h2 : fewE e = true) (h3 : Em.okB (en e) = true) (h4 : Sd.okB (la l) = true) (hv : 0 ≤ v) (hx : v ≤ 1048576) (ea : Sd.allow (la l) n x = a) (ez : Sd.next (en e) (la l) n v x = z) (ep : Tb.atv l.d.xs l.d.ys n = p) (eq : Tb.atv l.a.xs l.a.ys n = q) (hz0 : z = v + e.slew) (hz : e.slew < a - v) (hc : q < p) : Calls Try.prog 4 #[.agg (ec e), .agg (lc l), .int .i64 n, .int .i64 v, .int .i64 x] w fun r w' => r = .returned (.bool true) ∧ Below w.heap.size w w' := by
  have HV := Lib.hid (two_el w e l)
  have F1 := Lib.hid (fewl_v h1)
  have F2 := Lib.hid (Ew.few_v h2)
  have C1 := Lib.hid (fun W (hW : Below w.heap.size w W) => Ew.check_ok e W (hE.below hW) h3)
  have C2 := Lib.hid (fun W (hW : Below w.heap.size w W) => cl_ok l W (hL.below hW) h4)
  have C3 := Lib.hid (fun W (hW : Below w.heap.size w W) => allow_v hL ea hW)
  have C4 := Lib.hid (fun W (hW : Below w.heap.size w W) => next_v hE hL ez hW)
  have C5 := Lib.hid (fun W (hW : Below w.heap.size w W) => at_v hL.d ep hW)
  have C6 := Lib.hid (fun W (hW : Below w.heap.size w W) => at_v hL.a eq hW)
  have hs := slew_bd h3
  have ha := ea ▸ allow_bd h4 n x
  obtain ⟨s, es⟩ : ∃ s, e.slew = s := ⟨_, rfl⟩
  rw [es] at hs hz0 hz
  have v1 : decide (v < 0) = false := decide_eq_false (by omega)
  have v2 : decide (1048576 < v) = false := decide_eq_false (by omega)
  have z0 : 0 ≤ z := by omega
  have z1 : z ≤ 1048576 := by omega
  have c9 : decide (q < p) = true := by simp; omega
  have d0 : decide (z - v ≤ s) = true := by simp; omega
  have d1 : decide (v - z ≤ s) = true := by simp; omega
  have d2 : min v a = v := by omega
  have d3 : max v a = a := by omega
  have d4 : decide (v ≤ z) = true := by simp; omega
  have d5 : decide (z ≤ a) = true := by simp; omega
  have d6 : (z == a) = false := by simp; omega
  have d7 : decide (z = a) = false := by simp; omega
  have d8 : (z - v == s) = true := by simp; omega
  have d9 : decide (z - v = s) = true := by simp; omega
  have c0 := (lfld HV.out.head).1; have c1 := (lfld HV.out.head).2.1; have c2 := (lfld HV.out.head).2.2.1; have c3 := (lfld HV.out.head).2.2.2.1; have s7 := (efld HV.out.h2).2.2.2.2.2.2.2.2.2.2.2.1; rw [es] at s7
  clear hE hL h1 h2 h3 h4 ea ez ep eq hz hc hz0
  go_enter Try.func4, Try.ntmps4
  go_upto_region 1 with fail
  generalize hE : Value.agg (ec e) = E at *
  generalize hL : Value.agg (lc l) = L at *
  go_wp2_with (first | (refine ldE hE rfl _ rfl _ rfl HV.out.h2 ?_) | (refine ldL hL rfl _ rfl _ rfl HV.out.head ?_) | (go_at_call 7; (with_reducible refine (awake_c _).mono ?_); rintro r W ⟨rfl, hb⟩; replace HV := Lib.hid (HV.out.grow hb); clear hb c0 c1 c2 c3 s7; have c0 := (lfld HV.out.head).1; have c1 := (lfld HV.out.head).2.1; have c2 := (lfld HV.out.head).2.2.1; have c3 := (lfld HV.out.head).2.2.2.1; have s7 := (efld HV.out.h2).2.2.2.2.2.2.2.2.2.2.2.1; rw [es] at s7) | (go_at_call 8; (with_reducible refine (F1.out _).mono ?_); rintro r W ⟨rfl, hb⟩; replace HV := Lib.hid (HV.out.grow hb); clear hb c0 c1 c2 c3 s7; have c0 := (lfld HV.out.head).1; have c1 := (lfld HV.out.head).2.1; have c2 := (lfld HV.out.head).2.2.1; have c3 := (lfld HV.out.head).2.2.2.1; have s7 := (efld HV.out.h2).2.2.2.2.2.2.2.2.2.2.2.1; rw [es] at s7) | (go_at_call 9; (with_reducible refine (F2.out _).mono ?_); rintro r W ⟨rfl, hb⟩; replace HV := Lib.hid (HV.out.grow hb); clear hb c0 c1 c2 c3 s7; have c0 := (lfld HV.out.head).1; have c1 := (lfld HV.out.head).2.1; have c2 := (lfld HV.out.head).2.2.1; have c3 := (lfld HV.out.head).2.2.2.1; have s7 := (efld HV.out.h2).2.2.2.2.2.2.2.2.2.2.2.1; rw [es] at s7) | (go_at_call 18; (with_reducible refine (C1.out _ HV.out.old).mono ?_); rintro r W ⟨rfl, hb⟩; replace HV := Lib.hid (HV.out.grow hb); clear hb c0 c1 c2 c3 s7; have c0 := (lfld HV.out.head).1; have c1 := (lfld HV.out.head).2.1; have c2 := (lfld HV.out.head).2.2.1; have c3 := (lfld HV.out.head).2.2.2.1; have s7 := (efld HV.out.h2).2.2.2.2.2.2.2.2.2.2.2.1; rw [es] at s7) | (go_at_call 10; (with_reducible refine (C2.out _ HV.out.old).mono ?_); rintro r W ⟨rfl, hb⟩; replace HV := Lib.hid (HV.out.grow hb); clear hb c0 c1 c2 c3 s7; have c0 := (lfld HV.out.head).1; have c1 := (lfld HV.out.head).2.1; have c2 := (lfld HV.out.head).2.2.1; have c3 := (lfld HV.out.head).2.2.2.1; have s7 := (efld HV.out.h2).2.2.2.2.2.2.2.2.2.2.2.1; rw [es] at s7) | (go_at_call 14; (with_reducible refine (C3.out _ HV.out.old).mono ?_); rintro r W ⟨rfl, hb⟩; replace HV := Lib.hid (HV.out.grow hb); clear hb c0 c1 c2 c3 s7; have c0 := (lfld HV.out.head).1; have c1 := (lfld HV.out.head).2.1; have c2 := (lfld HV.out.head).2.2.1; have c3 := (lfld HV.out.head).2.2.2.1; have s7 := (efld HV.out.h2).2.2.2.2.2.2.2.2.2.2.2.1; rw [es] at s7) | (go_at_call 16; (with_reducible refine (C4.out _ HV.out.old).mono ?_); rintro r W ⟨rfl, hb⟩; replace HV := Lib.hid (HV.out.grow hb); clear hb c0 c1 c2 c3 s7; have c0 := (lfld HV.out.head).1; have c1 := (lfld HV.out.head).2.1; have c2 := (lfld HV.out.head).2.2.1; have c3 := (lfld HV.out.head).2.2.2.1; have s7 := (efld HV.out.h2).2.2.2.2.2.2.2.2.2.2.2.1; rw [es] at s7) | (go_at_call 19; (with_reducible refine (C5.out _ HV.out.old).mono ?_); rintro r W ⟨rfl, hb⟩; replace HV := Lib.hid (HV.out.grow hb); clear hb c0 c1 c2 c3 s7; have c0 := (lfld HV.out.head).1; have c1 := (lfld HV.out.head).2.1; have c2 := (lfld HV.out.head).2.2.1; have c3 := (lfld HV.out.head).2.2.2.1; have s7 := (efld HV.out.h2).2.2.2.2.2.2.2.2.2.2.2.1; rw [es] at s7) | (go_at_call 19; (with_reducible refine (C6.out _ HV.out.old).mono ?_); rintro r W ⟨rfl, hb⟩; replace HV := Lib.hid (HV.out.grow hb); clear hb c0 c1 c2 c3 s7; have c0 := (lfld HV.out.head).1; have c1 := (lfld HV.out.head).2.1; have c2 := (lfld HV.out.head).2.2.1; have c3 := (lfld HV.out.head).2.2.2.1; have s7 := (efld HV.out.h2).2.2.2.2.2.2.2.2.2.2.2.1; rw [es] at s7) | fail)
  go_ret
  exact ⟨rfl, HV.out.old⟩

set_option maxRecDepth 100000 in
set_option maxHeartbeats 4000000 in
theorem Slews_up0 (e : Eg) (l : Lg) (n v x a z p q : Int) (w : World) (hE : EngIn w e) (hL : LawIn w l) (h1 : fewL l = true) (h2 : fewE e = true) (h3 : Em.okB (en e) = true) (h4 : Sd.okB (la l) = true) (hv : 0 ≤ v) (hx : v ≤ 1048576) (ea : Sd.allow (la l) n x = a) (ez : Sd.next (en e) (la l) n v x = z) (ep : Tb.atv l.d.xs l.d.ys n = p) (eq : Tb.atv l.a.xs l.a.ys n = q) (hz0 : z = v + e.slew) (hz : e.slew < a - v) (hc : ¬ q < p) (hp : p ≤ a) (hq : a ≤ q) : Calls Try.prog 4 #[.agg (ec e), .agg (lc l), .int .i64 n, .int .i64 v, .int .i64 x] w fun r w' => r = .returned (.bool true) ∧ Below w.heap.size w w' := by
  have HV := Lib.hid (two_el w e l)
  have F1 := Lib.hid (fewl_v h1)
  have F2 := Lib.hid (Ew.few_v h2)
  have C1 := Lib.hid (fun W (hW : Below w.heap.size w W) => Ew.check_ok e W (hE.below hW) h3)
  have C2 := Lib.hid (fun W (hW : Below w.heap.size w W) => cl_ok l W (hL.below hW) h4)
  have C3 := Lib.hid (fun W (hW : Below w.heap.size w W) => allow_v hL ea hW)
  have C4 := Lib.hid (fun W (hW : Below w.heap.size w W) => next_v hE hL ez hW)
  have C5 := Lib.hid (fun W (hW : Below w.heap.size w W) => at_v hL.d ep hW)
  have C6 := Lib.hid (fun W (hW : Below w.heap.size w W) => at_v hL.a eq hW)
  have hs := slew_bd h3
  have ha := ea ▸ allow_bd h4 n x
  obtain ⟨s, es⟩ : ∃ s, e.slew = s := ⟨_, rfl⟩
  rw [es] at hs hz0 hz
  have v1 : decide (v < 0) = false := decide_eq_false (by omega)
  have v2 : decide (1048576 < v) = false := decide_eq_false (by omega)
  have z0 : 0 ≤ z := by omega
  have z1 : z ≤ 1048576 := by omega
  have c9 : decide (q < p) = false := by simp; omega
  have k1 : decide (p ≤ a) = true := decide_eq_true hp
  have k2 : decide (a ≤ q) = true := decide_eq_true hq
  have d0 : decide (z - v ≤ s) = true := by simp; omega
  have d1 : decide (v - z ≤ s) = true := by simp; omega
  have d2 : min v a = v := by omega
  have d3 : max v a = a := by omega
  have d4 : decide (v ≤ z) = true := by simp; omega
  have d5 : decide (z ≤ a) = true := by simp; omega
  have d6 : (z == a) = false := by simp; omega
  have d7 : decide (z = a) = false := by simp; omega
  have d8 : (z - v == s) = true := by simp; omega
  have d9 : decide (z - v = s) = true := by simp; omega
  have c0 := (lfld HV.out.head).1; have c1 := (lfld HV.out.head).2.1; have c2 := (lfld HV.out.head).2.2.1; have c3 := (lfld HV.out.head).2.2.2.1; have s7 := (efld HV.out.h2).2.2.2.2.2.2.2.2.2.2.2.1; rw [es] at s7
  clear hE hL h1 h2 h3 h4 ea ez ep eq hz hc hp hq hz0
  go_enter Try.func4, Try.ntmps4
  go_upto_region 1 with fail
  generalize hE : Value.agg (ec e) = E at *
  generalize hL : Value.agg (lc l) = L at *
  go_wp2_with (first | (refine ldE hE rfl _ rfl _ rfl HV.out.h2 ?_) | (refine ldL hL rfl _ rfl _ rfl HV.out.head ?_) | (go_at_call 7; (with_reducible refine (awake_c _).mono ?_); rintro r W ⟨rfl, hb⟩; replace HV := Lib.hid (HV.out.grow hb); clear hb c0 c1 c2 c3 s7; have c0 := (lfld HV.out.head).1; have c1 := (lfld HV.out.head).2.1; have c2 := (lfld HV.out.head).2.2.1; have c3 := (lfld HV.out.head).2.2.2.1; have s7 := (efld HV.out.h2).2.2.2.2.2.2.2.2.2.2.2.1; rw [es] at s7) | (go_at_call 8; (with_reducible refine (F1.out _).mono ?_); rintro r W ⟨rfl, hb⟩; replace HV := Lib.hid (HV.out.grow hb); clear hb c0 c1 c2 c3 s7; have c0 := (lfld HV.out.head).1; have c1 := (lfld HV.out.head).2.1; have c2 := (lfld HV.out.head).2.2.1; have c3 := (lfld HV.out.head).2.2.2.1; have s7 := (efld HV.out.h2).2.2.2.2.2.2.2.2.2.2.2.1; rw [es] at s7) | (go_at_call 9; (with_reducible refine (F2.out _).mono ?_); rintro r W ⟨rfl, hb⟩; replace HV := Lib.hid (HV.out.grow hb); clear hb c0 c1 c2 c3 s7; have c0 := (lfld HV.out.head).1; have c1 := (lfld HV.out.head).2.1; have c2 := (lfld HV.out.head).2.2.1; have c3 := (lfld HV.out.head).2.2.2.1; have s7 := (efld HV.out.h2).2.2.2.2.2.2.2.2.2.2.2.1; rw [es] at s7) | (go_at_call 18; (with_reducible refine (C1.out _ HV.out.old).mono ?_); rintro r W ⟨rfl, hb⟩; replace HV := Lib.hid (HV.out.grow hb); clear hb c0 c1 c2 c3 s7; have c0 := (lfld HV.out.head).1; have c1 := (lfld HV.out.head).2.1; have c2 := (lfld HV.out.head).2.2.1; have c3 := (lfld HV.out.head).2.2.2.1; have s7 := (efld HV.out.h2).2.2.2.2.2.2.2.2.2.2.2.1; rw [es] at s7) | (go_at_call 10; (with_reducible refine (C2.out _ HV.out.old).mono ?_); rintro r W ⟨rfl, hb⟩; replace HV := Lib.hid (HV.out.grow hb); clear hb c0 c1 c2 c3 s7; have c0 := (lfld HV.out.head).1; have c1 := (lfld HV.out.head).2.1; have c2 := (lfld HV.out.head).2.2.1; have c3 := (lfld HV.out.head).2.2.2.1; have s7 := (efld HV.out.h2).2.2.2.2.2.2.2.2.2.2.2.1; rw [es] at s7) | (go_at_call 14; (with_reducible refine (C3.out _ HV.out.old).mono ?_); rintro r W ⟨rfl, hb⟩; replace HV := Lib.hid (HV.out.grow hb); clear hb c0 c1 c2 c3 s7; have c0 := (lfld HV.out.head).1; have c1 := (lfld HV.out.head).2.1; have c2 := (lfld HV.out.head).2.2.1; have c3 := (lfld HV.out.head).2.2.2.1; have s7 := (efld HV.out.h2).2.2.2.2.2.2.2.2.2.2.2.1; rw [es] at s7) | (go_at_call 16; (with_reducible refine (C4.out _ HV.out.old).mono ?_); rintro r W ⟨rfl, hb⟩; replace HV := Lib.hid (HV.out.grow hb); clear hb c0 c1 c2 c3 s7; have c0 := (lfld HV.out.head).1; have c1 := (lfld HV.out.head).2.1; have c2 := (lfld HV.out.head).2.2.1; have c3 := (lfld HV.out.head).2.2.2.1; have s7 := (efld HV.out.h2).2.2.2.2.2.2.2.2.2.2.2.1; rw [es] at s7) | (go_at_call 19; (with_reducible refine (C5.out _ HV.out.old).mono ?_); rintro r W ⟨rfl, hb⟩; replace HV := Lib.hid (HV.out.grow hb); clear hb c0 c1 c2 c3 s7; have c0 := (lfld HV.out.head).1; have c1 := (lfld HV.out.head).2.1; have c2 := (lfld HV.out.head).2.2.1; have c3 := (lfld HV.out.head).2.2.2.1; have s7 := (efld HV.out.h2).2.2.2.2.2.2.2.2.2.2.2.1; rw [es] at s7) | (go_at_call 19; (with_reducible refine (C6.out _ HV.out.old).mono ?_); rintro r W ⟨rfl, hb⟩; replace HV := Lib.hid (HV.out.grow hb); clear hb c0 c1 c2 c3 s7; have c0 := (lfld HV.out.head).1; have c1 := (lfld HV.out.head).2.1; have c2 := (lfld HV.out.head).2.2.1; have c3 := (lfld HV.out.head).2.2.2.1; have s7 := (efld HV.out.h2).2.2.2.2.2.2.2.2.2.2.2.1; rw [es] at s7) | fail)
  go_ret
  exact ⟨rfl, HV.out.old⟩

set_option maxRecDepth 100000 in
set_option maxHeartbeats 4000000 in
theorem Slews_down1 (e : Eg) (l : Lg) (n v x a z p q : Int) (w : World) (hE : EngIn w e) (hL : LawIn w l) (h1 : fewL l = true) (h2 : fewE e = true) (h3 : Em.okB (en e) = true) (h4 : Sd.okB (la l) = true) (hv : 0 ≤ v) (hx : v ≤ 1048576) (ea : Sd.allow (la l) n x = a) (ez : Sd.next (en e) (la l) n v x = z) (ep : Tb.atv l.d.xs l.d.ys n = p) (eq : Tb.atv l.a.xs l.a.ys n = q) (hz0 : z = v - e.slew) (hz : e.slew < v - a) (hc : q < p) : Calls Try.prog 4 #[.agg (ec e), .agg (lc l), .int .i64 n, .int .i64 v, .int .i64 x] w fun r w' => r = .returned (.bool true) ∧ Below w.heap.size w w' := by
  have HV := Lib.hid (two_el w e l)
  have F1 := Lib.hid (fewl_v h1)
  have F2 := Lib.hid (Ew.few_v h2)
  have C1 := Lib.hid (fun W (hW : Below w.heap.size w W) => Ew.check_ok e W (hE.below hW) h3)
  have C2 := Lib.hid (fun W (hW : Below w.heap.size w W) => cl_ok l W (hL.below hW) h4)
  have C3 := Lib.hid (fun W (hW : Below w.heap.size w W) => allow_v hL ea hW)
  have C4 := Lib.hid (fun W (hW : Below w.heap.size w W) => next_v hE hL ez hW)
  have C5 := Lib.hid (fun W (hW : Below w.heap.size w W) => at_v hL.d ep hW)
  have C6 := Lib.hid (fun W (hW : Below w.heap.size w W) => at_v hL.a eq hW)
  have hs := slew_bd h3
  have ha := ea ▸ allow_bd h4 n x
  obtain ⟨s, es⟩ : ∃ s, e.slew = s := ⟨_, rfl⟩
  rw [es] at hs hz0 hz
  have v1 : decide (v < 0) = false := decide_eq_false (by omega)
  have v2 : decide (1048576 < v) = false := decide_eq_false (by omega)
  have z0 : 0 ≤ z := by omega
  have z1 : z ≤ 1048576 := by omega
  have c9 : decide (q < p) = true := by simp; omega
  have d0 : decide (z - v ≤ s) = true := by simp; omega
  have d1 : decide (v - z ≤ s) = true := by simp; omega
  have d2 : min v a = a := by omega
  have d3 : max v a = v := by omega
  have d4 : decide (a ≤ z) = true := by simp; omega
  have d5 : decide (z ≤ v) = true := by simp; omega
  have d6 : (z == a) = false := by simp; omega
  have d7 : decide (z = a) = false := by simp; omega
  have d8 : (z - v == s) = false := by simp; omega
  have d9 : decide (z - v = s) = false := by simp; omega
  have d10 : (v - z == s) = true := by simp; omega
  have d11 : decide (v - z = s) = true := by simp; omega
  have c0 := (lfld HV.out.head).1; have c1 := (lfld HV.out.head).2.1; have c2 := (lfld HV.out.head).2.2.1; have c3 := (lfld HV.out.head).2.2.2.1; have s7 := (efld HV.out.h2).2.2.2.2.2.2.2.2.2.2.2.1; rw [es] at s7
  clear hE hL h1 h2 h3 h4 ea ez ep eq hz hc hz0
  go_enter Try.func4, Try.ntmps4
  go_upto_region 1 with fail
  generalize hE : Value.agg (ec e) = E at *
  generalize hL : Value.agg (lc l) = L at *
  go_wp2_with (first | (refine ldE hE rfl _ rfl _ rfl HV.out.h2 ?_) | (refine ldL hL rfl _ rfl _ rfl HV.out.head ?_) | (go_at_call 7; (with_reducible refine (awake_c _).mono ?_); rintro r W ⟨rfl, hb⟩; replace HV := Lib.hid (HV.out.grow hb); clear hb c0 c1 c2 c3 s7; have c0 := (lfld HV.out.head).1; have c1 := (lfld HV.out.head).2.1; have c2 := (lfld HV.out.head).2.2.1; have c3 := (lfld HV.out.head).2.2.2.1; have s7 := (efld HV.out.h2).2.2.2.2.2.2.2.2.2.2.2.1; rw [es] at s7) | (go_at_call 8; (with_reducible refine (F1.out _).mono ?_); rintro r W ⟨rfl, hb⟩; replace HV := Lib.hid (HV.out.grow hb); clear hb c0 c1 c2 c3 s7; have c0 := (lfld HV.out.head).1; have c1 := (lfld HV.out.head).2.1; have c2 := (lfld HV.out.head).2.2.1; have c3 := (lfld HV.out.head).2.2.2.1; have s7 := (efld HV.out.h2).2.2.2.2.2.2.2.2.2.2.2.1; rw [es] at s7) | (go_at_call 9; (with_reducible refine (F2.out _).mono ?_); rintro r W ⟨rfl, hb⟩; replace HV := Lib.hid (HV.out.grow hb); clear hb c0 c1 c2 c3 s7; have c0 := (lfld HV.out.head).1; have c1 := (lfld HV.out.head).2.1; have c2 := (lfld HV.out.head).2.2.1; have c3 := (lfld HV.out.head).2.2.2.1; have s7 := (efld HV.out.h2).2.2.2.2.2.2.2.2.2.2.2.1; rw [es] at s7) | (go_at_call 18; (with_reducible refine (C1.out _ HV.out.old).mono ?_); rintro r W ⟨rfl, hb⟩; replace HV := Lib.hid (HV.out.grow hb); clear hb c0 c1 c2 c3 s7; have c0 := (lfld HV.out.head).1; have c1 := (lfld HV.out.head).2.1; have c2 := (lfld HV.out.head).2.2.1; have c3 := (lfld HV.out.head).2.2.2.1; have s7 := (efld HV.out.h2).2.2.2.2.2.2.2.2.2.2.2.1; rw [es] at s7) | (go_at_call 10; (with_reducible refine (C2.out _ HV.out.old).mono ?_); rintro r W ⟨rfl, hb⟩; replace HV := Lib.hid (HV.out.grow hb); clear hb c0 c1 c2 c3 s7; have c0 := (lfld HV.out.head).1; have c1 := (lfld HV.out.head).2.1; have c2 := (lfld HV.out.head).2.2.1; have c3 := (lfld HV.out.head).2.2.2.1; have s7 := (efld HV.out.h2).2.2.2.2.2.2.2.2.2.2.2.1; rw [es] at s7) | (go_at_call 14; (with_reducible refine (C3.out _ HV.out.old).mono ?_); rintro r W ⟨rfl, hb⟩; replace HV := Lib.hid (HV.out.grow hb); clear hb c0 c1 c2 c3 s7; have c0 := (lfld HV.out.head).1; have c1 := (lfld HV.out.head).2.1; have c2 := (lfld HV.out.head).2.2.1; have c3 := (lfld HV.out.head).2.2.2.1; have s7 := (efld HV.out.h2).2.2.2.2.2.2.2.2.2.2.2.1; rw [es] at s7) | (go_at_call 16; (with_reducible refine (C4.out _ HV.out.old).mono ?_); rintro r W ⟨rfl, hb⟩; replace HV := Lib.hid (HV.out.grow hb); clear hb c0 c1 c2 c3 s7; have c0 := (lfld HV.out.head).1; have c1 := (lfld HV.out.head).2.1; have c2 := (lfld HV.out.head).2.2.1; have c3 := (lfld HV.out.head).2.2.2.1; have s7 := (efld HV.out.h2).2.2.2.2.2.2.2.2.2.2.2.1; rw [es] at s7) | (go_at_call 19; (with_reducible refine (C5.out _ HV.out.old).mono ?_); rintro r W ⟨rfl, hb⟩; replace HV := Lib.hid (HV.out.grow hb); clear hb c0 c1 c2 c3 s7; have c0 := (lfld HV.out.head).1; have c1 := (lfld HV.out.head).2.1; have c2 := (lfld HV.out.head).2.2.1; have c3 := (lfld HV.out.head).2.2.2.1; have s7 := (efld HV.out.h2).2.2.2.2.2.2.2.2.2.2.2.1; rw [es] at s7) | (go_at_call 19; (with_reducible refine (C6.out _ HV.out.old).mono ?_); rintro r W ⟨rfl, hb⟩; replace HV := Lib.hid (HV.out.grow hb); clear hb c0 c1 c2 c3 s7; have c0 := (lfld HV.out.head).1; have c1 := (lfld HV.out.head).2.1; have c2 := (lfld HV.out.head).2.2.1; have c3 := (lfld HV.out.head).2.2.2.1; have s7 := (efld HV.out.h2).2.2.2.2.2.2.2.2.2.2.2.1; rw [es] at s7) | fail)
  go_ret
  exact ⟨rfl, HV.out.old⟩

set_option maxRecDepth 100000 in
set_option maxHeartbeats 4000000 in
theorem Slews_down0 (e : Eg) (l : Lg) (n v x a z p q : Int) (w : World) (hE : EngIn w e) (hL : LawIn w l) (h1 : fewL l = true) (h2 : fewE e = true) (h3 : Em.okB (en e) = true) (h4 : Sd.okB (la l) = true) (hv : 0 ≤ v) (hx : v ≤ 1048576) (ea : Sd.allow (la l) n x = a) (ez : Sd.next (en e) (la l) n v x = z) (ep : Tb.atv l.d.xs l.d.ys n = p) (eq : Tb.atv l.a.xs l.a.ys n = q) (hz0 : z = v - e.slew) (hz : e.slew < v - a) (hc : ¬ q < p) (hp : p ≤ a) (hq : a ≤ q) : Calls Try.prog 4 #[.agg (ec e), .agg (lc l), .int .i64 n, .int .i64 v, .int .i64 x] w fun r w' => r = .returned (.bool true) ∧ Below w.heap.size w w' := by
  have HV := Lib.hid (two_el w e l)
  have F1 := Lib.hid (fewl_v h1)
  have F2 := Lib.hid (Ew.few_v h2)
  have C1 := Lib.hid (fun W (hW : Below w.heap.size w W) => Ew.check_ok e W (hE.below hW) h3)
  have C2 := Lib.hid (fun W (hW : Below w.heap.size w W) => cl_ok l W (hL.below hW) h4)
  have C3 := Lib.hid (fun W (hW : Below w.heap.size w W) => allow_v hL ea hW)
  have C4 := Lib.hid (fun W (hW : Below w.heap.size w W) => next_v hE hL ez hW)
  have C5 := Lib.hid (fun W (hW : Below w.heap.size w W) => at_v hL.d ep hW)
  have C6 := Lib.hid (fun W (hW : Below w.heap.size w W) => at_v hL.a eq hW)
  have hs := slew_bd h3
  have ha := ea ▸ allow_bd h4 n x
  obtain ⟨s, es⟩ : ∃ s, e.slew = s := ⟨_, rfl⟩
  rw [es] at hs hz0 hz
  have v1 : decide (v < 0) = false := decide_eq_false (by omega)
  have v2 : decide (1048576 < v) = false := decide_eq_false (by omega)
  have z0 : 0 ≤ z := by omega
  have z1 : z ≤ 1048576 := by omega
  have c9 : decide (q < p) = false := by simp; omega
  have k1 : decide (p ≤ a) = true := decide_eq_true hp
  have k2 : decide (a ≤ q) = true := decide_eq_true hq
  have d0 : decide (z - v ≤ s) = true := by simp; omega
  have d1 : decide (v - z ≤ s) = true := by simp; omega
  have d2 : min v a = a := by omega
  have d3 : max v a = v := by omega
  have d4 : decide (a ≤ z) = true := by simp; omega
  have d5 : decide (z ≤ v) = true := by simp; omega
  have d6 : (z == a) = false := by simp; omega
  have d7 : decide (z = a) = false := by simp; omega
  have d8 : (z - v == s) = false := by simp; omega
  have d9 : decide (z - v = s) = false := by simp; omega
  have d10 : (v - z == s) = true := by simp; omega
  have d11 : decide (v - z = s) = true := by simp; omega
  have c0 := (lfld HV.out.head).1; have c1 := (lfld HV.out.head).2.1; have c2 := (lfld HV.out.head).2.2.1; have c3 := (lfld HV.out.head).2.2.2.1; have s7 := (efld HV.out.h2).2.2.2.2.2.2.2.2.2.2.2.1; rw [es] at s7
  clear hE hL h1 h2 h3 h4 ea ez ep eq hz hc hp hq hz0
  go_enter Try.func4, Try.ntmps4
  go_upto_region 1 with fail
  generalize hE : Value.agg (ec e) = E at *
  generalize hL : Value.agg (lc l) = L at *
  go_wp2_with (first | (refine ldE hE rfl _ rfl _ rfl HV.out.h2 ?_) | (refine ldL hL rfl _ rfl _ rfl HV.out.head ?_) | (go_at_call 7; (with_reducible refine (awake_c _).mono ?_); rintro r W ⟨rfl, hb⟩; replace HV := Lib.hid (HV.out.grow hb); clear hb c0 c1 c2 c3 s7; have c0 := (lfld HV.out.head).1; have c1 := (lfld HV.out.head).2.1; have c2 := (lfld HV.out.head).2.2.1; have c3 := (lfld HV.out.head).2.2.2.1; have s7 := (efld HV.out.h2).2.2.2.2.2.2.2.2.2.2.2.1; rw [es] at s7) | (go_at_call 8; (with_reducible refine (F1.out _).mono ?_); rintro r W ⟨rfl, hb⟩; replace HV := Lib.hid (HV.out.grow hb); clear hb c0 c1 c2 c3 s7; have c0 := (lfld HV.out.head).1; have c1 := (lfld HV.out.head).2.1; have c2 := (lfld HV.out.head).2.2.1; have c3 := (lfld HV.out.head).2.2.2.1; have s7 := (efld HV.out.h2).2.2.2.2.2.2.2.2.2.2.2.1; rw [es] at s7) | (go_at_call 9; (with_reducible refine (F2.out _).mono ?_); rintro r W ⟨rfl, hb⟩; replace HV := Lib.hid (HV.out.grow hb); clear hb c0 c1 c2 c3 s7; have c0 := (lfld HV.out.head).1; have c1 := (lfld HV.out.head).2.1; have c2 := (lfld HV.out.head).2.2.1; have c3 := (lfld HV.out.head).2.2.2.1; have s7 := (efld HV.out.h2).2.2.2.2.2.2.2.2.2.2.2.1; rw [es] at s7) | (go_at_call 18; (with_reducible refine (C1.out _ HV.out.old).mono ?_); rintro r W ⟨rfl, hb⟩; replace HV := Lib.hid (HV.out.grow hb); clear hb c0 c1 c2 c3 s7; have c0 := (lfld HV.out.head).1; have c1 := (lfld HV.out.head).2.1; have c2 := (lfld HV.out.head).2.2.1; have c3 := (lfld HV.out.head).2.2.2.1; have s7 := (efld HV.out.h2).2.2.2.2.2.2.2.2.2.2.2.1; rw [es] at s7) | (go_at_call 10; (with_reducible refine (C2.out _ HV.out.old).mono ?_); rintro r W ⟨rfl, hb⟩; replace HV := Lib.hid (HV.out.grow hb); clear hb c0 c1 c2 c3 s7; have c0 := (lfld HV.out.head).1; have c1 := (lfld HV.out.head).2.1; have c2 := (lfld HV.out.head).2.2.1; have c3 := (lfld HV.out.head).2.2.2.1; have s7 := (efld HV.out.h2).2.2.2.2.2.2.2.2.2.2.2.1; rw [es] at s7) | (go_at_call 14; (with_reducible refine (C3.out _ HV.out.old).mono ?_); rintro r W ⟨rfl, hb⟩; replace HV := Lib.hid (HV.out.grow hb); clear hb c0 c1 c2 c3 s7; have c0 := (lfld HV.out.head).1; have c1 := (lfld HV.out.head).2.1; have c2 := (lfld HV.out.head).2.2.1; have c3 := (lfld HV.out.head).2.2.2.1; have s7 := (efld HV.out.h2).2.2.2.2.2.2.2.2.2.2.2.1; rw [es] at s7) | (go_at_call 16; (with_reducible refine (C4.out _ HV.out.old).mono ?_); rintro r W ⟨rfl, hb⟩; replace HV := Lib.hid (HV.out.grow hb); clear hb c0 c1 c2 c3 s7; have c0 := (lfld HV.out.head).1; have c1 := (lfld HV.out.head).2.1; have c2 := (lfld HV.out.head).2.2.1; have c3 := (lfld HV.out.head).2.2.2.1; have s7 := (efld HV.out.h2).2.2.2.2.2.2.2.2.2.2.2.1; rw [es] at s7) | (go_at_call 19; (with_reducible refine (C5.out _ HV.out.old).mono ?_); rintro r W ⟨rfl, hb⟩; replace HV := Lib.hid (HV.out.grow hb); clear hb c0 c1 c2 c3 s7; have c0 := (lfld HV.out.head).1; have c1 := (lfld HV.out.head).2.1; have c2 := (lfld HV.out.head).2.2.1; have c3 := (lfld HV.out.head).2.2.2.1; have s7 := (efld HV.out.h2).2.2.2.2.2.2.2.2.2.2.2.1; rw [es] at s7) | (go_at_call 19; (with_reducible refine (C6.out _ HV.out.old).mono ?_); rintro r W ⟨rfl, hb⟩; replace HV := Lib.hid (HV.out.grow hb); clear hb c0 c1 c2 c3 s7; have c0 := (lfld HV.out.head).1; have c1 := (lfld HV.out.head).2.1; have c2 := (lfld HV.out.head).2.2.1; have c3 := (lfld HV.out.head).2.2.2.1; have s7 := (efld HV.out.h2).2.2.2.2.2.2.2.2.2.2.2.1; rw [es] at s7) | fail)
  go_ret
  exact ⟨rfl, HV.out.old⟩

set_option maxRecDepth 100000 in
set_option maxHeartbeats 4000000 in
theorem Slews_there1 (e : Eg) (l : Lg) (n v x a z p q : Int) (w : World) (hE : EngIn w e) (hL : LawIn w l) (h1 : fewL l = true) (h2 : fewE e = true) (h3 : Em.okB (en e) = true) (h4 : Sd.okB (la l) = true) (hv : 0 ≤ v) (hx : v ≤ 1048576) (ea : Sd.allow (la l) n x = a) (ez : Sd.next (en e) (la l) n v x = z) (ep : Tb.atv l.d.xs l.d.ys n = p) (eq : Tb.atv l.a.xs l.a.ys n = q) (hz0 : z = a) (hz : a - v ≤ e.slew) (hy : v - a ≤ e.slew) (ho : v ≤ a) (hc : q < p) : Calls Try.prog 4 #[.agg (ec e), .agg (lc l), .int .i64 n, .int .i64 v, .int .i64 x] w fun r w' => r = .returned (.bool true) ∧ Below w.heap.size w w' := by
  have HV := Lib.hid (two_el w e l)
  have F1 := Lib.hid (fewl_v h1)
  have F2 := Lib.hid (Ew.few_v h2)
  have C1 := Lib.hid (fun W (hW : Below w.heap.size w W) => Ew.check_ok e W (hE.below hW) h3)
  have C2 := Lib.hid (fun W (hW : Below w.heap.size w W) => cl_ok l W (hL.below hW) h4)
  have C3 := Lib.hid (fun W (hW : Below w.heap.size w W) => allow_v hL ea hW)
  have C4 := Lib.hid (fun W (hW : Below w.heap.size w W) => next_v hE hL ez hW)
  have C5 := Lib.hid (fun W (hW : Below w.heap.size w W) => at_v hL.d ep hW)
  have C6 := Lib.hid (fun W (hW : Below w.heap.size w W) => at_v hL.a eq hW)
  have hs := slew_bd h3
  have ha := ea ▸ allow_bd h4 n x
  obtain ⟨s, es⟩ : ∃ s, e.slew = s := ⟨_, rfl⟩
  rw [es] at hs hz hy
  have v1 : decide (v < 0) = false := decide_eq_false (by omega)
  have v2 : decide (1048576 < v) = false := decide_eq_false (by omega)
  have z0 : 0 ≤ z := by omega
  have z1 : z ≤ 1048576 := by omega
  have c9 : decide (q < p) = true := by simp; omega
  have d0 : decide (z - v ≤ s) = true := by simp; omega
  have d1 : decide (v - z ≤ s) = true := by simp; omega
  have d2 : min v a = v := by omega
  have d3 : max v a = a := by omega
  have d4 : decide (v ≤ z) = true := by simp; omega
  have d5 : decide (z ≤ a) = true := by simp; omega
  have d6 : (z == a) = true := by simp; omega
  have d7 : decide (z = a) = true := by simp; omega
  have c0 := (lfld HV.out.head).1; have c1 := (lfld HV.out.head).2.1; have c2 := (lfld HV.out.head).2.2.1; have c3 := (lfld HV.out.head).2.2.2.1; have s7 := (efld HV.out.h2).2.2.2.2.2.2.2.2.2.2.2.1; rw [es] at s7
  clear hE hL h1 h2 h3 h4 ea ez ep eq hz hc hy ho hz0
  go_enter Try.func4, Try.ntmps4
  go_upto_region 1 with fail
  generalize hE : Value.agg (ec e) = E at *
  generalize hL : Value.agg (lc l) = L at *
  go_wp2_with (first | (refine ldE hE rfl _ rfl _ rfl HV.out.h2 ?_) | (refine ldL hL rfl _ rfl _ rfl HV.out.head ?_) | (go_at_call 7; (with_reducible refine (awake_c _).mono ?_); rintro r W ⟨rfl, hb⟩; replace HV := Lib.hid (HV.out.grow hb); clear hb c0 c1 c2 c3 s7; have c0 := (lfld HV.out.head).1; have c1 := (lfld HV.out.head).2.1; have c2 := (lfld HV.out.head).2.2.1; have c3 := (lfld HV.out.head).2.2.2.1; have s7 := (efld HV.out.h2).2.2.2.2.2.2.2.2.2.2.2.1; rw [es] at s7) | (go_at_call 8; (with_reducible refine (F1.out _).mono ?_); rintro r W ⟨rfl, hb⟩; replace HV := Lib.hid (HV.out.grow hb); clear hb c0 c1 c2 c3 s7; have c0 := (lfld HV.out.head).1; have c1 := (lfld HV.out.head).2.1; have c2 := (lfld HV.out.head).2.2.1; have c3 := (lfld HV.out.head).2.2.2.1; have s7 := (efld HV.out.h2).2.2.2.2.2.2.2.2.2.2.2.1; rw [es] at s7) | (go_at_call 9; (with_reducible refine (F2.out _).mono ?_); rintro r W ⟨rfl, hb⟩; replace HV := Lib.hid (HV.out.grow hb); clear hb c0 c1 c2 c3 s7; have c0 := (lfld HV.out.head).1; have c1 := (lfld HV.out.head).2.1; have c2 := (lfld HV.out.head).2.2.1; have c3 := (lfld HV.out.head).2.2.2.1; have s7 := (efld HV.out.h2).2.2.2.2.2.2.2.2.2.2.2.1; rw [es] at s7) | (go_at_call 18; (with_reducible refine (C1.out _ HV.out.old).mono ?_); rintro r W ⟨rfl, hb⟩; replace HV := Lib.hid (HV.out.grow hb); clear hb c0 c1 c2 c3 s7; have c0 := (lfld HV.out.head).1; have c1 := (lfld HV.out.head).2.1; have c2 := (lfld HV.out.head).2.2.1; have c3 := (lfld HV.out.head).2.2.2.1; have s7 := (efld HV.out.h2).2.2.2.2.2.2.2.2.2.2.2.1; rw [es] at s7) | (go_at_call 10; (with_reducible refine (C2.out _ HV.out.old).mono ?_); rintro r W ⟨rfl, hb⟩; replace HV := Lib.hid (HV.out.grow hb); clear hb c0 c1 c2 c3 s7; have c0 := (lfld HV.out.head).1; have c1 := (lfld HV.out.head).2.1; have c2 := (lfld HV.out.head).2.2.1; have c3 := (lfld HV.out.head).2.2.2.1; have s7 := (efld HV.out.h2).2.2.2.2.2.2.2.2.2.2.2.1; rw [es] at s7) | (go_at_call 14; (with_reducible refine (C3.out _ HV.out.old).mono ?_); rintro r W ⟨rfl, hb⟩; replace HV := Lib.hid (HV.out.grow hb); clear hb c0 c1 c2 c3 s7; have c0 := (lfld HV.out.head).1; have c1 := (lfld HV.out.head).2.1; have c2 := (lfld HV.out.head).2.2.1; have c3 := (lfld HV.out.head).2.2.2.1; have s7 := (efld HV.out.h2).2.2.2.2.2.2.2.2.2.2.2.1; rw [es] at s7) | (go_at_call 16; (with_reducible refine (C4.out _ HV.out.old).mono ?_); rintro r W ⟨rfl, hb⟩; replace HV := Lib.hid (HV.out.grow hb); clear hb c0 c1 c2 c3 s7; have c0 := (lfld HV.out.head).1; have c1 := (lfld HV.out.head).2.1; have c2 := (lfld HV.out.head).2.2.1; have c3 := (lfld HV.out.head).2.2.2.1; have s7 := (efld HV.out.h2).2.2.2.2.2.2.2.2.2.2.2.1; rw [es] at s7) | (go_at_call 19; (with_reducible refine (C5.out _ HV.out.old).mono ?_); rintro r W ⟨rfl, hb⟩; replace HV := Lib.hid (HV.out.grow hb); clear hb c0 c1 c2 c3 s7; have c0 := (lfld HV.out.head).1; have c1 := (lfld HV.out.head).2.1; have c2 := (lfld HV.out.head).2.2.1; have c3 := (lfld HV.out.head).2.2.2.1; have s7 := (efld HV.out.h2).2.2.2.2.2.2.2.2.2.2.2.1; rw [es] at s7) | (go_at_call 19; (with_reducible refine (C6.out _ HV.out.old).mono ?_); rintro r W ⟨rfl, hb⟩; replace HV := Lib.hid (HV.out.grow hb); clear hb c0 c1 c2 c3 s7; have c0 := (lfld HV.out.head).1; have c1 := (lfld HV.out.head).2.1; have c2 := (lfld HV.out.head).2.2.1; have c3 := (lfld HV.out.head).2.2.2.1; have s7 := (efld HV.out.h2).2.2.2.2.2.2.2.2.2.2.2.1; rw [es] at s7) | fail)
  go_ret
  exact ⟨rfl, HV.out.old⟩

set_option maxRecDepth 100000 in
set_option maxHeartbeats 4000000 in
theorem Slews_there0 (e : Eg) (l : Lg) (n v x a z p q : Int) (w : World) (hE : EngIn w e) (hL : LawIn w l) (h1 : fewL l = true) (h2 : fewE e = true) (h3 : Em.okB (en e) = true) (h4 : Sd.okB (la l) = true) (hv : 0 ≤ v) (hx : v ≤ 1048576) (ea : Sd.allow (la l) n x = a) (ez : Sd.next (en e) (la l) n v x = z) (ep : Tb.atv l.d.xs l.d.ys n = p) (eq : Tb.atv l.a.xs l.a.ys n = q) (hz0 : z = a) (hz : a - v ≤ e.slew) (hy : v - a ≤ e.slew) (ho : v ≤ a) (hc : ¬ q < p) (hp : p ≤ a) (hq : a ≤ q) : Calls Try.prog 4 #[.agg (ec e), .agg (lc l), .int .i64 n, .int .i64 v, .int .i64 x] w fun r w' => r = .returned (.bool true) ∧ Below w.heap.size w w' := by
  have HV := Lib.hid (two_el w e l)
  have F1 := Lib.hid (fewl_v h1)
  have F2 := Lib.hid (Ew.few_v h2)
  have C1 := Lib.hid (fun W (hW : Below w.heap.size w W) => Ew.check_ok e W (hE.below hW) h3)
  have C2 := Lib.hid (fun W (hW : Below w.heap.size w W) => cl_ok l W (hL.below hW) h4)
  have C3 := Lib.hid (fun W (hW : Below w.heap.size w W) => allow_v hL ea hW)
  have C4 := Lib.hid (fun W (hW : Below w.heap.size w W) => next_v hE hL ez hW)
  have C5 := Lib.hid (fun W (hW : Below w.heap.size w W) => at_v hL.d ep hW)
  have C6 := Lib.hid (fun W (hW : Below w.heap.size w W) => at_v hL.a eq hW)
  have hs := slew_bd h3
  have ha := ea ▸ allow_bd h4 n x
  obtain ⟨s, es⟩ : ∃ s, e.slew = s := ⟨_, rfl⟩
  rw [es] at hs hz hy
  have v1 : decide (v < 0) = false := decide_eq_false (by omega)
  have v2 : decide (1048576 < v) = false := decide_eq_false (by omega)
  have z0 : 0 ≤ z := by omega
  have z1 : z ≤ 1048576 := by omega
  have c9 : decide (q < p) = false := by simp; omega
  have k1 : decide (p ≤ a) = true := decide_eq_true hp
  have k2 : decide (a ≤ q) = true := decide_eq_true hq
  have d0 : decide (z - v ≤ s) = true := by simp; omega
  have d1 : decide (v - z ≤ s) = true := by simp; omega
  have d2 : min v a = v := by omega
  have d3 : max v a = a := by omega
  have d4 : decide (v ≤ z) = true := by simp; omega
  have d5 : decide (z ≤ a) = true := by simp; omega
  have d6 : (z == a) = true := by simp; omega
  have d7 : decide (z = a) = true := by simp; omega
  have c0 := (lfld HV.out.head).1; have c1 := (lfld HV.out.head).2.1; have c2 := (lfld HV.out.head).2.2.1; have c3 := (lfld HV.out.head).2.2.2.1; have s7 := (efld HV.out.h2).2.2.2.2.2.2.2.2.2.2.2.1; rw [es] at s7
  clear hE hL h1 h2 h3 h4 ea ez ep eq hz hc hy ho hp hq hz0
  go_enter Try.func4, Try.ntmps4
  go_upto_region 1 with fail
  generalize hE : Value.agg (ec e) = E at *
  generalize hL : Value.agg (lc l) = L at *
  go_wp2_with (first | (refine ldE hE rfl _ rfl _ rfl HV.out.h2 ?_) | (refine ldL hL rfl _ rfl _ rfl HV.out.head ?_) | (go_at_call 7; (with_reducible refine (awake_c _).mono ?_); rintro r W ⟨rfl, hb⟩; replace HV := Lib.hid (HV.out.grow hb); clear hb c0 c1 c2 c3 s7; have c0 := (lfld HV.out.head).1; have c1 := (lfld HV.out.head).2.1; have c2 := (lfld HV.out.head).2.2.1; have c3 := (lfld HV.out.head).2.2.2.1; have s7 := (efld HV.out.h2).2.2.2.2.2.2.2.2.2.2.2.1; rw [es] at s7) | (go_at_call 8; (with_reducible refine (F1.out _).mono ?_); rintro r W ⟨rfl, hb⟩; replace HV := Lib.hid (HV.out.grow hb); clear hb c0 c1 c2 c3 s7; have c0 := (lfld HV.out.head).1; have c1 := (lfld HV.out.head).2.1; have c2 := (lfld HV.out.head).2.2.1; have c3 := (lfld HV.out.head).2.2.2.1; have s7 := (efld HV.out.h2).2.2.2.2.2.2.2.2.2.2.2.1; rw [es] at s7) | (go_at_call 9; (with_reducible refine (F2.out _).mono ?_); rintro r W ⟨rfl, hb⟩; replace HV := Lib.hid (HV.out.grow hb); clear hb c0 c1 c2 c3 s7; have c0 := (lfld HV.out.head).1; have c1 := (lfld HV.out.head).2.1; have c2 := (lfld HV.out.head).2.2.1; have c3 := (lfld HV.out.head).2.2.2.1; have s7 := (efld HV.out.h2).2.2.2.2.2.2.2.2.2.2.2.1; rw [es] at s7) | (go_at_call 18; (with_reducible refine (C1.out _ HV.out.old).mono ?_); rintro r W ⟨rfl, hb⟩; replace HV := Lib.hid (HV.out.grow hb); clear hb c0 c1 c2 c3 s7; have c0 := (lfld HV.out.head).1; have c1 := (lfld HV.out.head).2.1; have c2 := (lfld HV.out.head).2.2.1; have c3 := (lfld HV.out.head).2.2.2.1; have s7 := (efld HV.out.h2).2.2.2.2.2.2.2.2.2.2.2.1; rw [es] at s7) | (go_at_call 10; (with_reducible refine (C2.out _ HV.out.old).mono ?_); rintro r W ⟨rfl, hb⟩; replace HV := Lib.hid (HV.out.grow hb); clear hb c0 c1 c2 c3 s7; have c0 := (lfld HV.out.head).1; have c1 := (lfld HV.out.head).2.1; have c2 := (lfld HV.out.head).2.2.1; have c3 := (lfld HV.out.head).2.2.2.1; have s7 := (efld HV.out.h2).2.2.2.2.2.2.2.2.2.2.2.1; rw [es] at s7) | (go_at_call 14; (with_reducible refine (C3.out _ HV.out.old).mono ?_); rintro r W ⟨rfl, hb⟩; replace HV := Lib.hid (HV.out.grow hb); clear hb c0 c1 c2 c3 s7; have c0 := (lfld HV.out.head).1; have c1 := (lfld HV.out.head).2.1; have c2 := (lfld HV.out.head).2.2.1; have c3 := (lfld HV.out.head).2.2.2.1; have s7 := (efld HV.out.h2).2.2.2.2.2.2.2.2.2.2.2.1; rw [es] at s7) | (go_at_call 16; (with_reducible refine (C4.out _ HV.out.old).mono ?_); rintro r W ⟨rfl, hb⟩; replace HV := Lib.hid (HV.out.grow hb); clear hb c0 c1 c2 c3 s7; have c0 := (lfld HV.out.head).1; have c1 := (lfld HV.out.head).2.1; have c2 := (lfld HV.out.head).2.2.1; have c3 := (lfld HV.out.head).2.2.2.1; have s7 := (efld HV.out.h2).2.2.2.2.2.2.2.2.2.2.2.1; rw [es] at s7) | (go_at_call 19; (with_reducible refine (C5.out _ HV.out.old).mono ?_); rintro r W ⟨rfl, hb⟩; replace HV := Lib.hid (HV.out.grow hb); clear hb c0 c1 c2 c3 s7; have c0 := (lfld HV.out.head).1; have c1 := (lfld HV.out.head).2.1; have c2 := (lfld HV.out.head).2.2.1; have c3 := (lfld HV.out.head).2.2.2.1; have s7 := (efld HV.out.h2).2.2.2.2.2.2.2.2.2.2.2.1; rw [es] at s7) | (go_at_call 19; (with_reducible refine (C6.out _ HV.out.old).mono ?_); rintro r W ⟨rfl, hb⟩; replace HV := Lib.hid (HV.out.grow hb); clear hb c0 c1 c2 c3 s7; have c0 := (lfld HV.out.head).1; have c1 := (lfld HV.out.head).2.1; have c2 := (lfld HV.out.head).2.2.1; have c3 := (lfld HV.out.head).2.2.2.1; have s7 := (efld HV.out.h2).2.2.2.2.2.2.2.2.2.2.2.1; rw [es] at s7) | fail)
  go_ret
  exact ⟨rfl, HV.out.old⟩

set_option maxRecDepth 100000 in
set_option maxHeartbeats 4000000 in
theorem Slews_here1 (e : Eg) (l : Lg) (n v x a z p q : Int) (w : World) (hE : EngIn w e) (hL : LawIn w l) (h1 : fewL l = true) (h2 : fewE e = true) (h3 : Em.okB (en e) = true) (h4 : Sd.okB (la l) = true) (hv : 0 ≤ v) (hx : v ≤ 1048576) (ea : Sd.allow (la l) n x = a) (ez : Sd.next (en e) (la l) n v x = z) (ep : Tb.atv l.d.xs l.d.ys n = p) (eq : Tb.atv l.a.xs l.a.ys n = q) (hz0 : z = a) (hz : a - v ≤ e.slew) (hy : v - a ≤ e.slew) (ho : ¬ v ≤ a) (hc : q < p) : Calls Try.prog 4 #[.agg (ec e), .agg (lc l), .int .i64 n, .int .i64 v, .int .i64 x] w fun r w' => r = .returned (.bool true) ∧ Below w.heap.size w w' := by
  have HV := Lib.hid (two_el w e l)
  have F1 := Lib.hid (fewl_v h1)
  have F2 := Lib.hid (Ew.few_v h2)
  have C1 := Lib.hid (fun W (hW : Below w.heap.size w W) => Ew.check_ok e W (hE.below hW) h3)
  have C2 := Lib.hid (fun W (hW : Below w.heap.size w W) => cl_ok l W (hL.below hW) h4)
  have C3 := Lib.hid (fun W (hW : Below w.heap.size w W) => allow_v hL ea hW)
  have C4 := Lib.hid (fun W (hW : Below w.heap.size w W) => next_v hE hL ez hW)
  have C5 := Lib.hid (fun W (hW : Below w.heap.size w W) => at_v hL.d ep hW)
  have C6 := Lib.hid (fun W (hW : Below w.heap.size w W) => at_v hL.a eq hW)
  have hs := slew_bd h3
  have ha := ea ▸ allow_bd h4 n x
  obtain ⟨s, es⟩ : ∃ s, e.slew = s := ⟨_, rfl⟩
  rw [es] at hs hz hy
  have v1 : decide (v < 0) = false := decide_eq_false (by omega)
  have v2 : decide (1048576 < v) = false := decide_eq_false (by omega)
  have z0 : 0 ≤ z := by omega
  have z1 : z ≤ 1048576 := by omega
  have c9 : decide (q < p) = true := by simp; omega
  have d0 : decide (z - v ≤ s) = true := by simp; omega
  have d1 : decide (v - z ≤ s) = true := by simp; omega
  have d2 : min v a = a := by omega
  have d3 : max v a = v := by omega
  have d4 : decide (a ≤ z) = true := by simp; omega
  have d5 : decide (z ≤ v) = true := by simp; omega
  have d6 : (z == a) = true := by simp; omega
  have d7 : decide (z = a) = true := by simp; omega
  have c0 := (lfld HV.out.head).1; have c1 := (lfld HV.out.head).2.1; have c2 := (lfld HV.out.head).2.2.1; have c3 := (lfld HV.out.head).2.2.2.1; have s7 := (efld HV.out.h2).2.2.2.2.2.2.2.2.2.2.2.1; rw [es] at s7
  clear hE hL h1 h2 h3 h4 ea ez ep eq hz hc hy ho hz0
  go_enter Try.func4, Try.ntmps4
  go_upto_region 1 with fail
  generalize hE : Value.agg (ec e) = E at *
  generalize hL : Value.agg (lc l) = L at *
  go_wp2_with (first | (refine ldE hE rfl _ rfl _ rfl HV.out.h2 ?_) | (refine ldL hL rfl _ rfl _ rfl HV.out.head ?_) | (go_at_call 7; (with_reducible refine (awake_c _).mono ?_); rintro r W ⟨rfl, hb⟩; replace HV := Lib.hid (HV.out.grow hb); clear hb c0 c1 c2 c3 s7; have c0 := (lfld HV.out.head).1; have c1 := (lfld HV.out.head).2.1; have c2 := (lfld HV.out.head).2.2.1; have c3 := (lfld HV.out.head).2.2.2.1; have s7 := (efld HV.out.h2).2.2.2.2.2.2.2.2.2.2.2.1; rw [es] at s7) | (go_at_call 8; (with_reducible refine (F1.out _).mono ?_); rintro r W ⟨rfl, hb⟩; replace HV := Lib.hid (HV.out.grow hb); clear hb c0 c1 c2 c3 s7; have c0 := (lfld HV.out.head).1; have c1 := (lfld HV.out.head).2.1; have c2 := (lfld HV.out.head).2.2.1; have c3 := (lfld HV.out.head).2.2.2.1; have s7 := (efld HV.out.h2).2.2.2.2.2.2.2.2.2.2.2.1; rw [es] at s7) | (go_at_call 9; (with_reducible refine (F2.out _).mono ?_); rintro r W ⟨rfl, hb⟩; replace HV := Lib.hid (HV.out.grow hb); clear hb c0 c1 c2 c3 s7; have c0 := (lfld HV.out.head).1; have c1 := (lfld HV.out.head).2.1; have c2 := (lfld HV.out.head).2.2.1; have c3 := (lfld HV.out.head).2.2.2.1; have s7 := (efld HV.out.h2).2.2.2.2.2.2.2.2.2.2.2.1; rw [es] at s7) | (go_at_call 18; (with_reducible refine (C1.out _ HV.out.old).mono ?_); rintro r W ⟨rfl, hb⟩; replace HV := Lib.hid (HV.out.grow hb); clear hb c0 c1 c2 c3 s7; have c0 := (lfld HV.out.head).1; have c1 := (lfld HV.out.head).2.1; have c2 := (lfld HV.out.head).2.2.1; have c3 := (lfld HV.out.head).2.2.2.1; have s7 := (efld HV.out.h2).2.2.2.2.2.2.2.2.2.2.2.1; rw [es] at s7) | (go_at_call 10; (with_reducible refine (C2.out _ HV.out.old).mono ?_); rintro r W ⟨rfl, hb⟩; replace HV := Lib.hid (HV.out.grow hb); clear hb c0 c1 c2 c3 s7; have c0 := (lfld HV.out.head).1; have c1 := (lfld HV.out.head).2.1; have c2 := (lfld HV.out.head).2.2.1; have c3 := (lfld HV.out.head).2.2.2.1; have s7 := (efld HV.out.h2).2.2.2.2.2.2.2.2.2.2.2.1; rw [es] at s7) | (go_at_call 14; (with_reducible refine (C3.out _ HV.out.old).mono ?_); rintro r W ⟨rfl, hb⟩; replace HV := Lib.hid (HV.out.grow hb); clear hb c0 c1 c2 c3 s7; have c0 := (lfld HV.out.head).1; have c1 := (lfld HV.out.head).2.1; have c2 := (lfld HV.out.head).2.2.1; have c3 := (lfld HV.out.head).2.2.2.1; have s7 := (efld HV.out.h2).2.2.2.2.2.2.2.2.2.2.2.1; rw [es] at s7) | (go_at_call 16; (with_reducible refine (C4.out _ HV.out.old).mono ?_); rintro r W ⟨rfl, hb⟩; replace HV := Lib.hid (HV.out.grow hb); clear hb c0 c1 c2 c3 s7; have c0 := (lfld HV.out.head).1; have c1 := (lfld HV.out.head).2.1; have c2 := (lfld HV.out.head).2.2.1; have c3 := (lfld HV.out.head).2.2.2.1; have s7 := (efld HV.out.h2).2.2.2.2.2.2.2.2.2.2.2.1; rw [es] at s7) | (go_at_call 19; (with_reducible refine (C5.out _ HV.out.old).mono ?_); rintro r W ⟨rfl, hb⟩; replace HV := Lib.hid (HV.out.grow hb); clear hb c0 c1 c2 c3 s7; have c0 := (lfld HV.out.head).1; have c1 := (lfld HV.out.head).2.1; have c2 := (lfld HV.out.head).2.2.1; have c3 := (lfld HV.out.head).2.2.2.1; have s7 := (efld HV.out.h2).2.2.2.2.2.2.2.2.2.2.2.1; rw [es] at s7) | (go_at_call 19; (with_reducible refine (C6.out _ HV.out.old).mono ?_); rintro r W ⟨rfl, hb⟩; replace HV := Lib.hid (HV.out.grow hb); clear hb c0 c1 c2 c3 s7; have c0 := (lfld HV.out.head).1; have c1 := (lfld HV.out.head).2.1; have c2 := (lfld HV.out.head).2.2.1; have c3 := (lfld HV.out.head).2.2.2.1; have s7 := (efld HV.out.h2).2.2.2.2.2.2.2.2.2.2.2.1; rw [es] at s7) | fail)
  go_ret
  exact ⟨rfl, HV.out.old⟩

set_option maxRecDepth 100000 in
set_option maxHeartbeats 4000000 in
theorem Slews_here0 (e : Eg) (l : Lg) (n v x a z p q : Int) (w : World) (hE : EngIn w e) (hL : LawIn w l) (h1 : fewL l = true) (h2 : fewE e = true) (h3 : Em.okB (en e) = true) (h4 : Sd.okB (la l) = true) (hv : 0 ≤ v) (hx : v ≤ 1048576) (ea : Sd.allow (la l) n x = a) (ez : Sd.next (en e) (la l) n v x = z) (ep : Tb.atv l.d.xs l.d.ys n = p) (eq : Tb.atv l.a.xs l.a.ys n = q) (hz0 : z = a) (hz : a - v ≤ e.slew) (hy : v - a ≤ e.slew) (ho : ¬ v ≤ a) (hc : ¬ q < p) (hp : p ≤ a) (hq : a ≤ q) : Calls Try.prog 4 #[.agg (ec e), .agg (lc l), .int .i64 n, .int .i64 v, .int .i64 x] w fun r w' => r = .returned (.bool true) ∧ Below w.heap.size w w' := by
  have HV := Lib.hid (two_el w e l)
  have F1 := Lib.hid (fewl_v h1)
  have F2 := Lib.hid (Ew.few_v h2)
  have C1 := Lib.hid (fun W (hW : Below w.heap.size w W) => Ew.check_ok e W (hE.below hW) h3)
  have C2 := Lib.hid (fun W (hW : Below w.heap.size w W) => cl_ok l W (hL.below hW) h4)
  have C3 := Lib.hid (fun W (hW : Below w.heap.size w W) => allow_v hL ea hW)
  have C4 := Lib.hid (fun W (hW : Below w.heap.size w W) => next_v hE hL ez hW)
  have C5 := Lib.hid (fun W (hW : Below w.heap.size w W) => at_v hL.d ep hW)
  have C6 := Lib.hid (fun W (hW : Below w.heap.size w W) => at_v hL.a eq hW)
  have hs := slew_bd h3
  have ha := ea ▸ allow_bd h4 n x
  obtain ⟨s, es⟩ : ∃ s, e.slew = s := ⟨_, rfl⟩
  rw [es] at hs hz hy
  have v1 : decide (v < 0) = false := decide_eq_false (by omega)
  have v2 : decide (1048576 < v) = false := decide_eq_false (by omega)
  have z0 : 0 ≤ z := by omega
  have z1 : z ≤ 1048576 := by omega
  have c9 : decide (q < p) = false := by simp; omega
  have k1 : decide (p ≤ a) = true := decide_eq_true hp
  have k2 : decide (a ≤ q) = true := decide_eq_true hq
  have d0 : decide (z - v ≤ s) = true := by simp; omega
  have d1 : decide (v - z ≤ s) = true := by simp; omega
  have d2 : min v a = a := by omega
  have d3 : max v a = v := by omega
  have d4 : decide (a ≤ z) = true := by simp; omega
  have d5 : decide (z ≤ v) = true := by simp; omega
  have d6 : (z == a) = true := by simp; omega
  have d7 : decide (z = a) = true := by simp; omega
  have c0 := (lfld HV.out.head).1; have c1 := (lfld HV.out.head).2.1; have c2 := (lfld HV.out.head).2.2.1; have c3 := (lfld HV.out.head).2.2.2.1; have s7 := (efld HV.out.h2).2.2.2.2.2.2.2.2.2.2.2.1; rw [es] at s7
  clear hE hL h1 h2 h3 h4 ea ez ep eq hz hc hy ho hp hq hz0
  go_enter Try.func4, Try.ntmps4
  go_upto_region 1 with fail
  generalize hE : Value.agg (ec e) = E at *
  generalize hL : Value.agg (lc l) = L at *
  go_wp2_with (first | (refine ldE hE rfl _ rfl _ rfl HV.out.h2 ?_) | (refine ldL hL rfl _ rfl _ rfl HV.out.head ?_) | (go_at_call 7; (with_reducible refine (awake_c _).mono ?_); rintro r W ⟨rfl, hb⟩; replace HV := Lib.hid (HV.out.grow hb); clear hb c0 c1 c2 c3 s7; have c0 := (lfld HV.out.head).1; have c1 := (lfld HV.out.head).2.1; have c2 := (lfld HV.out.head).2.2.1; have c3 := (lfld HV.out.head).2.2.2.1; have s7 := (efld HV.out.h2).2.2.2.2.2.2.2.2.2.2.2.1; rw [es] at s7) | (go_at_call 8; (with_reducible refine (F1.out _).mono ?_); rintro r W ⟨rfl, hb⟩; replace HV := Lib.hid (HV.out.grow hb); clear hb c0 c1 c2 c3 s7; have c0 := (lfld HV.out.head).1; have c1 := (lfld HV.out.head).2.1; have c2 := (lfld HV.out.head).2.2.1; have c3 := (lfld HV.out.head).2.2.2.1; have s7 := (efld HV.out.h2).2.2.2.2.2.2.2.2.2.2.2.1; rw [es] at s7) | (go_at_call 9; (with_reducible refine (F2.out _).mono ?_); rintro r W ⟨rfl, hb⟩; replace HV := Lib.hid (HV.out.grow hb); clear hb c0 c1 c2 c3 s7; have c0 := (lfld HV.out.head).1; have c1 := (lfld HV.out.head).2.1; have c2 := (lfld HV.out.head).2.2.1; have c3 := (lfld HV.out.head).2.2.2.1; have s7 := (efld HV.out.h2).2.2.2.2.2.2.2.2.2.2.2.1; rw [es] at s7) | (go_at_call 18; (with_reducible refine (C1.out _ HV.out.old).mono ?_); rintro r W ⟨rfl, hb⟩; replace HV := Lib.hid (HV.out.grow hb); clear hb c0 c1 c2 c3 s7; have c0 := (lfld HV.out.head).1; have c1 := (lfld HV.out.head).2.1; have c2 := (lfld HV.out.head).2.2.1; have c3 := (lfld HV.out.head).2.2.2.1; have s7 := (efld HV.out.h2).2.2.2.2.2.2.2.2.2.2.2.1; rw [es] at s7) | (go_at_call 10; (with_reducible refine (C2.out _ HV.out.old).mono ?_); rintro r W ⟨rfl, hb⟩; replace HV := Lib.hid (HV.out.grow hb); clear hb c0 c1 c2 c3 s7; have c0 := (lfld HV.out.head).1; have c1 := (lfld HV.out.head).2.1; have c2 := (lfld HV.out.head).2.2.1; have c3 := (lfld HV.out.head).2.2.2.1; have s7 := (efld HV.out.h2).2.2.2.2.2.2.2.2.2.2.2.1; rw [es] at s7) | (go_at_call 14; (with_reducible refine (C3.out _ HV.out.old).mono ?_); rintro r W ⟨rfl, hb⟩; replace HV := Lib.hid (HV.out.grow hb); clear hb c0 c1 c2 c3 s7; have c0 := (lfld HV.out.head).1; have c1 := (lfld HV.out.head).2.1; have c2 := (lfld HV.out.head).2.2.1; have c3 := (lfld HV.out.head).2.2.2.1; have s7 := (efld HV.out.h2).2.2.2.2.2.2.2.2.2.2.2.1; rw [es] at s7) | (go_at_call 16; (with_reducible refine (C4.out _ HV.out.old).mono ?_); rintro r W ⟨rfl, hb⟩; replace HV := Lib.hid (HV.out.grow hb); clear hb c0 c1 c2 c3 s7; have c0 := (lfld HV.out.head).1; have c1 := (lfld HV.out.head).2.1; have c2 := (lfld HV.out.head).2.2.1; have c3 := (lfld HV.out.head).2.2.2.1; have s7 := (efld HV.out.h2).2.2.2.2.2.2.2.2.2.2.2.1; rw [es] at s7) | (go_at_call 19; (with_reducible refine (C5.out _ HV.out.old).mono ?_); rintro r W ⟨rfl, hb⟩; replace HV := Lib.hid (HV.out.grow hb); clear hb c0 c1 c2 c3 s7; have c0 := (lfld HV.out.head).1; have c1 := (lfld HV.out.head).2.1; have c2 := (lfld HV.out.head).2.2.1; have c3 := (lfld HV.out.head).2.2.2.1; have s7 := (efld HV.out.h2).2.2.2.2.2.2.2.2.2.2.2.1; rw [es] at s7) | (go_at_call 19; (with_reducible refine (C6.out _ HV.out.old).mono ?_); rintro r W ⟨rfl, hb⟩; replace HV := Lib.hid (HV.out.grow hb); clear hb c0 c1 c2 c3 s7; have c0 := (lfld HV.out.head).1; have c1 := (lfld HV.out.head).2.1; have c2 := (lfld HV.out.head).2.2.1; have c3 := (lfld HV.out.head).2.2.2.1; have s7 := (efld HV.out.h2).2.2.2.2.2.2.2.2.2.2.2.1; rw [es] at s7) | fail)
  go_ret
  exact ⟨rfl, HV.out.old⟩

theorem ScheduleSlews_walk (e : Eg) (l : Lg) (n v x : Int) (w : World) (hE : EngIn w e) (hL : LawIn w l) : Calls Try.prog 4 #[.agg (ec e), .agg (lc l), .int .i64 n, .int .i64 v, .int .i64 x] w fun r w' => r = .returned (.bool true) ∧ Below w.heap.size w w' := by
  cases h1 : fewL l with
  | false => exact ScheduleSlews_few1 e l n v x w h1
  | true =>
    cases h2 : fewE e with
    | false => exact ScheduleSlews_few2 e l n v x w h1 h2
    | true =>
      cases h3 : Em.okB (en e) with
      | false => exact Slews_no1 e l n v x w hE h1 h2 h3
      | true =>
        cases h4 : Sd.okB (la l) with
        | false => exact Slews_no2 e l n v x w hE hL h1 h2 h3 h4
        | true =>
          by_cases hv : v < 0
          · exact Slews_low e l n v x w hE hL h1 h2 h3 h4 hv
          by_cases hx : 1048576 < v
          · exact Slews_high e l n v x w hE hL h1 h2 h3 h4 hv hx
          obtain ⟨a, ea⟩ : ∃ a, Sd.allow (la l) n x = a := ⟨_, rfl⟩
          obtain ⟨z, ez⟩ : ∃ a, Sd.next (en e) (la l) n v x = a := ⟨_, rfl⟩
          obtain ⟨p, ep⟩ : ∃ a, Tb.atv l.d.xs l.d.ys n = a := ⟨_, rfl⟩
          obtain ⟨q, eq⟩ : ∃ a, Tb.atv l.a.xs l.a.ys n = a := ⟨_, rfl⟩
          have K := Sd.ok_of h4
          have hz := next_is (e := e) h3 h4 ea (v := v) (by omega)
          rw [ez] at hz
          have hin : ¬ q < p → p ≤ a ∧ a ≤ q := by
            intro hc
            have := Sd.alw_in K n x (by show ¬ Tb.atv l.a.xs l.a.ys n < Tb.atv l.d.xs l.d.ys n; rw [ep, eq]; exact hc)
            rw [show Sd.alw (la l) n x = a from by rw [← ea, Sd.allow, if_pos h4]] at this
            rw [← ep, ← eq]; exact this
          by_cases g1 : e.slew < a - v
          · rw [if_pos g1] at hz
            by_cases hc : q < p
            · exact Slews_up1 e l n v x a z p q w hE hL h1 h2 h3 h4 (by omega) (by omega) ea ez ep eq hz g1 hc
            · exact Slews_up0 e l n v x a z p q w hE hL h1 h2 h3 h4 (by omega) (by omega) ea ez ep eq hz g1 hc (hin hc).1 (hin hc).2
          · rw [if_neg g1] at hz
            by_cases g2 : e.slew < v - a
            · rw [if_pos g2] at hz
              by_cases hc : q < p
              · exact Slews_down1 e l n v x a z p q w hE hL h1 h2 h3 h4 (by omega) (by omega) ea ez ep eq hz g2 hc
              · exact Slews_down0 e l n v x a z p q w hE hL h1 h2 h3 h4 (by omega) (by omega) ea ez ep eq hz g2 hc (hin hc).1 (hin hc).2
            · rw [if_neg g2] at hz
              by_cases ho : v ≤ a
              · by_cases hc : q < p
                · exact Slews_there1 e l n v x a z p q w hE hL h1 h2 h3 h4 (by omega) (by omega) ea ez ep eq hz (by omega) (by omega) ho hc
                · exact Slews_there0 e l n v x a z p q w hE hL h1 h2 h3 h4 (by omega) (by omega) ea ez ep eq hz (by omega) (by omega) ho hc (hin hc).1 (hin hc).2
              · by_cases hc : q < p
                · exact Slews_here1 e l n v x a z p q w hE hL h1 h2 h3 h4 (by omega) (by omega) ea ez ep eq hz (by omega) (by omega) ho hc
                · exact Slews_here0 e l n v x a z p q w hE hL h1 h2 h3 h4 (by omega) (by omega) ea ez ep eq hz (by omega) (by omega) ho hc (hin hc).1 (hin hc).2

end Hw
end Go.Proofs.Ythjnodchmedlfaa
