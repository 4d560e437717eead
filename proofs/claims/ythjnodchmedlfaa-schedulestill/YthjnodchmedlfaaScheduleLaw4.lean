/- The walk of ScheduleStill. Printed by gen_law4.py. -/
import Derived.Test.YthjnodchmedlfaaScheduleLaw2
namespace Go.Proofs.Ythjnodchmedlfaa
namespace Hw
open Go.RowKit TabC Lk Ew

/-- Where a valve is that went p of its way. -/
def Pos (r a p v : Int) : Prop := if r ≤ a then v = min (r + p) a else v = max (r - p) a
theorem Pos.start (r a : Int) : Pos r a 0 r := by unfold Pos; split <;> omega
theorem Pos.bd {r a p v : Int} (h : Pos r a p v) (hp : 0 ≤ p) (hr : 0 ≤ r ∧ r ≤ 1048576) (ha : 0 ≤ a ∧ a ≤ 1048576) : 0 ≤ v ∧ v ≤ 1048576 := by unfold Pos at h; split at h <;> omega
theorem Pos.there {r a p v d : Int} (h : Pos r a p v) (hd : max a r - min a r = d) (hp : d ≤ p) : v = a := by unfold Pos at h; split at h <;> omega
theorem Pos.on {r a p v d : Int} (h : Pos r a p v) (hd : max a r - min a r = d) (hp : p < d) : v ≠ a := by unfold Pos at h; split at h <;> omega
theorem Pos.step {r a p v s z : Int} (h : Pos r a p v) (hs : 1 ≤ s) (hz : z = if s < a - v then v + s else if s < v - a then v - s else a) : Pos r a (p + s) z := by
  by_cases hra : r ≤ a
  · simp only [Pos, if_pos hra] at h ⊢
    (repeat' split at hz) <;> omega
  · simp only [Pos, if_neg hra] at h ⊢
    (repeat' split at hz) <;> omega

set_option maxRecDepth 100000 in
set_option maxHeartbeats 4000000 in
theorem ScheduleStill_few1 (e : Eg) (l : Lg) (n V x : Int) (w : World) (h1 : fewL l = false) : Calls Try.prog 6 #[.agg (ec e), .agg (lc l), .int .i64 n, .int .u16 V, .int .i64 x] w fun r w' => r = .returned (.bool true) ∧ Below w.heap.size w w' := by
  have HV := Lib.hid (two_el w e l)
  have F1 := Lib.hid (fewl_v h1)
  clear h1
  go_enter Try.func6, Try.ntmps6
  go_upto_region 1 with fail
  generalize hE : Value.agg (ec e) = E at *
  generalize hL : Value.agg (lc l) = L at *
  go_wp2_with (first | (refine ldE hE rfl _ rfl _ rfl HV.out.h2 ?_) | (refine ldL hL rfl _ rfl _ rfl HV.out.head ?_) | (go_at_call 7; (with_reducible refine (awake_c _).mono ?_); rintro r W ⟨rfl, hb⟩; replace HV := Lib.hid (HV.out.grow hb); clear hb) | (go_at_call 8; (with_reducible refine (F1.out _).mono ?_); rintro r W ⟨rfl, hb⟩; replace HV := Lib.hid (HV.out.grow hb); clear hb) | fail)
  go_ret
  exact ⟨rfl, HV.out.old⟩

set_option maxRecDepth 100000 in
set_option maxHeartbeats 4000000 in
theorem ScheduleStill_few2 (e : Eg) (l : Lg) (n V x : Int) (w : World) (h1 : fewL l = true) (h2 : fewE e = false) : Calls Try.prog 6 #[.agg (ec e), .agg (lc l), .int .i64 n, .int .u16 V, .int .i64 x] w fun r w' => r = .returned (.bool true) ∧ Below w.heap.size w w' := by
  have HV := Lib.hid (two_el w e l)
  have F1 := Lib.hid (fewl_v h1)
  have F2 := Lib.hid (Ew.few_v h2)
  clear h1 h2
  go_enter Try.func6, Try.ntmps6
  go_upto_region 1 with fail
  generalize hE : Value.agg (ec e) = E at *
  generalize hL : Value.agg (lc l) = L at *
  go_wp2_with (first | (refine ldE hE rfl _ rfl _ rfl HV.out.h2 ?_) | (refine ldL hL rfl _ rfl _ rfl HV.out.head ?_) | (go_at_call 7; (with_reducible refine (awake_c _).mono ?_); rintro r W ⟨rfl, hb⟩; replace HV := Lib.hid (HV.out.grow hb); clear hb) | (go_at_call 8; (with_reducible refine (F1.out _).mono ?_); rintro r W ⟨rfl, hb⟩; replace HV := Lib.hid (HV.out.grow hb); clear hb) | (go_at_call 9; (with_reducible refine (F2.out _).mono ?_); rintro r W ⟨rfl, hb⟩; replace HV := Lib.hid (HV.out.grow hb); clear hb) | fail)
  go_ret
  exact ⟨rfl, HV.out.old⟩

set_option maxRecDepth 100000 in
set_option maxHeartbeats 4000000 in
theorem Still_no1 (e : Eg) (l : Lg) (n V x : Int) (w : World) (hE : EngIn w e) (h1 : fewL l = true) (h2 : fewE e = true) (h3 : Em.okB (en e) = false) : Calls Try.prog 6 #[.agg (ec e), .agg (lc l), .int .i64 n, .int .u16 V, .int .i64 x] w fun r w' => r = .returned (.bool true) ∧ Below w.heap.size w w' := by
  have HV := Lib.hid (two_el w e l)
  have F1 := Lib.hid (fewl_v h1)
  have F2 := Lib.hid (Ew.few_v h2)
  have C1 := Lib.hid (fun W (hW : Below w.heap.size w W) => Ew.check_no e W (hE.below hW) h3)
  clear hE h1 h2 h3
  go_enter Try.func6, Try.ntmps6
  go_upto_region 1 with fail
  generalize hE : Value.agg (ec e) = E at *
  generalize hL : Value.agg (lc l) = L at *
  go_wp2_with (first | (refine ldE hE rfl _ rfl _ rfl HV.out.h2 ?_) | (refine ldL hL rfl _ rfl _ rfl HV.out.head ?_) | (go_at_call 7; (with_reducible refine (awake_c _).mono ?_); rintro r W ⟨rfl, hb⟩; replace HV := Lib.hid (HV.out.grow hb); clear hb) | (go_at_call 8; (with_reducible refine (F1.out _).mono ?_); rintro r W ⟨rfl, hb⟩; replace HV := Lib.hid (HV.out.grow hb); clear hb) | (go_at_call 9; (with_reducible refine (F2.out _).mono ?_); rintro r W ⟨rfl, hb⟩; replace HV := Lib.hid (HV.out.grow hb); clear hb) | (go_at_call 18; (with_reducible refine (C1.out _ HV.out.old).mono ?_); rintro r W ⟨rfl, hb⟩; replace HV := Lib.hid (HV.out.grow hb); clear hb) | fail)
  go_ret
  exact ⟨rfl, HV.out.old⟩

set_option maxRecDepth 100000 in
set_option maxHeartbeats 4000000 in
theorem Still_no2 (e : Eg) (l : Lg) (n V x : Int) (w : World) (hE : EngIn w e) (hL : LawIn w l) (h1 : fewL l = true) (h2 : fewE e = true) (h3 : Em.okB (en e) = true) (h4 : Sd.okB (la l) = false) : Calls Try.prog 6 #[.agg (ec e), .agg (lc l), .int .i64 n, .int .u16 V, .int .i64 x] w fun r w' => r = .returned (.bool true) ∧ Below w.heap.size w w' := by
  have HV := Lib.hid (two_el w e l)
  have F1 := Lib.hid (fewl_v h1)
  have F2 := Lib.hid (Ew.few_v h2)
  have C1 := Lib.hid (fun W (hW : Below w.heap.size w W) => Ew.check_ok e W (hE.below hW) h3)
  have C2 := Lib.hid (fun W (hW : Below w.heap.size w W) => cl_no l W (hL.below hW) h4)
  clear hE hL h1 h2 h3 h4
  go_enter Try.func6, Try.ntmps6
  go_upto_region 1 with fail
  generalize hE : Value.agg (ec e) = E at *
  generalize hL : Value.agg (lc l) = L at *
  go_wp2_with (first | (refine ldE hE rfl _ rfl _ rfl HV.out.h2 ?_) | (refine ldL hL rfl _ rfl _ rfl HV.out.head ?_) | (go_at_call 7; (with_reducible refine (awake_c _).mono ?_); rintro r W ⟨rfl, hb⟩; replace HV := Lib.hid (HV.out.grow hb); clear hb) | (go_at_call 8; (with_reducible refine (F1.out _).mono ?_); rintro r W ⟨rfl, hb⟩; replace HV := Lib.hid (HV.out.grow hb); clear hb) | (go_at_call 9; (with_reducible refine (F2.out _).mono ?_); rintro r W ⟨rfl, hb⟩; replace HV := Lib.hid (HV.out.grow hb); clear hb) | (go_at_call 18; (with_reducible refine (C1.out _ HV.out.old).mono ?_); rintro r W ⟨rfl, hb⟩; replace HV := Lib.hid (HV.out.grow hb); clear hb) | (go_at_call 10; (with_reducible refine (C2.out _ HV.out.old).mono ?_); rintro r W ⟨rfl, hb⟩; replace HV := Lib.hid (HV.out.grow hb); clear hb) | fail)
  go_ret
  exact ⟨rfl, HV.out.old⟩

set_option maxRecDepth 100000 in
set_option maxHeartbeats 4000000 in
theorem Still_far (e : Eg) (l : Lg) (n V x a r d : Int) (w : World) (hE : EngIn w e) (hL : LawIn w l) (h1 : fewL l = true) (h2 : fewE e = true) (h3 : Em.okB (en e) = true) (h4 : Sd.okB (la l) = true) (hV : 0 ≤ V ∧ V ≤ 65535) (er : V % 2000 = r) (ea : Sd.allow (la l) n x = a) (ed : max a r - min a r = d) (hd : 200 * e.slew < d) : Calls Try.prog 6 #[.agg (ec e), .agg (lc l), .int .i64 n, .int .u16 V, .int .i64 x] w fun r w' => r = .returned (.bool true) ∧ Below w.heap.size w w' := by
  have HV := Lib.hid (two_el w e l)
  have F1 := Lib.hid (fewl_v h1)
  have F2 := Lib.hid (Ew.few_v h2)
  have C1 := Lib.hid (fun W (hW : Below w.heap.size w W) => Ew.check_ok e W (hE.below hW) h3)
  have C2 := Lib.hid (fun W (hW : Below w.heap.size w W) => cl_ok l W (hL.below hW) h4)
  have C3 := Lib.hid (fun W (hW : Below w.heap.size w W) => allow_v hL ea hW)
  have hs := slew_bd h3
  have ha := ea ▸ allow_bd h4 n x
  have et := next_is (e := e) h3 h4 ea ha
  rw [if_neg (by omega), if_neg (by omega)] at et
  have C4 := Lib.hid (fun W (hW : Below w.heap.size w W) => next_v hE hL et hW)
  have HX := Lib.hid (fun v (hv : 0 ≤ v ∧ v ≤ 1048576) => next_is (e := e) h3 h4 ea hv)
  have HY := Lib.hid (fun v z (ez : Sd.next (en e) (la l) n v x = z) W (hW : Below w.heap.size w W) => next_v hE hL ez hW)
  obtain ⟨s, es⟩ : ∃ s, e.slew = s := ⟨_, rfl⟩
  rw [es] at hs hd HX
  have er2 : V.tmod 2000 = r := by rw [Int.tmod_eq_emod_of_nonneg hV.1]; exact er
  have hr : 0 ≤ r ∧ r ≤ 1999 := by omega
  obtain ⟨M, eM⟩ : ∃ M, max a r = M := ⟨_, rfl⟩
  obtain ⟨N, eN⟩ : ∃ N, min a r = N := ⟨_, rfl⟩
  have HD := Lib.hid ed
  rw [eM, eN] at ed
  have M0 : 0 ≤ M := by omega
  have M1 : M ≤ 1048576 := by omega
  have N0 : 0 ≤ N := by omega
  have N1 : N ≤ 1048576 := by omega
  have d0 : 0 ≤ d := by omega
  have d9 : d ≤ 1048576 := by omega
  have g1 : decide (200 * s < d) = true := decide_eq_true hd
  have s7 := (efld HV.out.h2).2.2.2.2.2.2.2.2.2.2.2.1; rw [es] at s7
  clear hE hL h1 h2 h3 h4 ea et hd HX HY HD
  go_enter Try.func6, Try.ntmps6
  go_upto_region 1 with fail
  generalize hE : Value.agg (ec e) = E at *
  generalize hL : Value.agg (lc l) = L at *
  go_wp2_with (first | (refine ldE hE rfl _ rfl _ rfl HV.out.h2 ?_) | (refine ldL hL rfl _ rfl _ rfl HV.out.head ?_) | (go_at_call 7; (with_reducible refine (awake_c _).mono ?_); rintro r W ⟨rfl, hb⟩; replace HV := Lib.hid (HV.out.grow hb); clear hb s7; have s7 := (efld HV.out.h2).2.2.2.2.2.2.2.2.2.2.2.1; rw [es] at s7) | (go_at_call 8; (with_reducible refine (F1.out _).mono ?_); rintro r W ⟨rfl, hb⟩; replace HV := Lib.hid (HV.out.grow hb); clear hb s7; have s7 := (efld HV.out.h2).2.2.2.2.2.2.2.2.2.2.2.1; rw [es] at s7) | (go_at_call 9; (with_reducible refine (F2.out _).mono ?_); rintro r W ⟨rfl, hb⟩; replace HV := Lib.hid (HV.out.grow hb); clear hb s7; have s7 := (efld HV.out.h2).2.2.2.2.2.2.2.2.2.2.2.1; rw [es] at s7) | (go_at_call 18; (with_reducible refine (C1.out _ HV.out.old).mono ?_); rintro r W ⟨rfl, hb⟩; replace HV := Lib.hid (HV.out.grow hb); clear hb s7; have s7 := (efld HV.out.h2).2.2.2.2.2.2.2.2.2.2.2.1; rw [es] at s7) | (go_at_call 10; (with_reducible refine (C2.out _ HV.out.old).mono ?_); rintro r W ⟨rfl, hb⟩; replace HV := Lib.hid (HV.out.grow hb); clear hb s7; have s7 := (efld HV.out.h2).2.2.2.2.2.2.2.2.2.2.2.1; rw [es] at s7) | (go_at_call 14; (with_reducible refine (C3.out _ HV.out.old).mono ?_); rintro r W ⟨rfl, hb⟩; replace HV := Lib.hid (HV.out.grow hb); clear hb s7; have s7 := (efld HV.out.h2).2.2.2.2.2.2.2.2.2.2.2.1; rw [es] at s7) | (go_at_call 16; (with_reducible refine (C4.out _ HV.out.old).mono ?_); rintro r W ⟨rfl, hb⟩; replace HV := Lib.hid (HV.out.grow hb); clear hb s7; have s7 := (efld HV.out.h2).2.2.2.2.2.2.2.2.2.2.2.1; rw [es] at s7) | fail)
  go_ret
  exact ⟨rfl, HV.out.old⟩

set_option maxRecDepth 100000 in
set_option maxHeartbeats 4000000 in
theorem Still_go (e : Eg) (l : Lg) (n V x a r d : Int) (w : World) (hE : EngIn w e) (hL : LawIn w l) (h1 : fewL l = true) (h2 : fewE e = true) (h3 : Em.okB (en e) = true) (h4 : Sd.okB (la l) = true) (hV : 0 ≤ V ∧ V ≤ 65535) (er : V % 2000 = r) (ea : Sd.allow (la l) n x = a) (ed : max a r - min a r = d) (hd : ¬ 200 * e.slew < d) : Calls Try.prog 6 #[.agg (ec e), .agg (lc l), .int .i64 n, .int .u16 V, .int .i64 x] w fun r w' => r = .returned (.bool true) ∧ Below w.heap.size w w' := by
  have HV := Lib.hid (two_el w e l)
  have F1 := Lib.hid (fewl_v h1)
  have F2 := Lib.hid (Ew.few_v h2)
  have C1 := Lib.hid (fun W (hW : Below w.heap.size w W) => Ew.check_ok e W (hE.below hW) h3)
  have C2 := Lib.hid (fun W (hW : Below w.heap.size w W) => cl_ok l W (hL.below hW) h4)
  have C3 := Lib.hid (fun W (hW : Below w.heap.size w W) => allow_v hL ea hW)
  have hs := slew_bd h3
  have ha := ea ▸ allow_bd h4 n x
  have et := next_is (e := e) h3 h4 ea ha
  rw [if_neg (by omega), if_neg (by omega)] at et
  have C4 := Lib.hid (fun W (hW : Below w.heap.size w W) => next_v hE hL et hW)
  have HX := Lib.hid (fun v (hv : 0 ≤ v ∧ v ≤ 1048576) => next_is (e := e) h3 h4 ea hv)
  have HY := Lib.hid (fun v z (ez : Sd.next (en e) (la l) n v x = z) W (hW : Below w.heap.size w W) => next_v hE hL ez hW)
  obtain ⟨s, es⟩ : ∃ s, e.slew = s := ⟨_, rfl⟩
  rw [es] at hs hd HX
  have er2 : V.tmod 2000 = r := by rw [Int.tmod_eq_emod_of_nonneg hV.1]; exact er
  have hr : 0 ≤ r ∧ r ≤ 1999 := by omega
  obtain ⟨M, eM⟩ : ∃ M, max a r = M := ⟨_, rfl⟩
  obtain ⟨N, eN⟩ : ∃ N, min a r = N := ⟨_, rfl⟩
  have HD := Lib.hid ed
  rw [eM, eN] at ed
  have M0 : 0 ≤ M := by omega
  have M1 : M ≤ 1048576 := by omega
  have N0 : 0 ≤ N := by omega
  have N1 : N ≤ 1048576 := by omega
  have d0 : 0 ≤ d := by omega
  have d9 : d ≤ 1048576 := by omega
  have g1 : decide (200 * s < d) = false := decide_eq_false hd
  have s7 := (efld HV.out.h2).2.2.2.2.2.2.2.2.2.2.2.1; rw [es] at s7
  clear hE hL h1 h2 h3 h4 ea et hd
  go_enter Try.func6, Try.ntmps6
  go_upto_region 1 with fail
  generalize hE : Value.agg (ec e) = E at *
  generalize hL : Value.agg (lc l) = L at *
  go_wp2_with (first | (refine ldE hE rfl _ rfl _ rfl HV.out.h2 ?_) | (refine ldL hL rfl _ rfl _ rfl HV.out.head ?_) | (go_at_call 7; (with_reducible refine (awake_c _).mono ?_); rintro r W ⟨rfl, hb⟩; replace HV := Lib.hid (HV.out.grow hb); clear hb s7; have s7 := (efld HV.out.h2).2.2.2.2.2.2.2.2.2.2.2.1; rw [es] at s7) | (go_at_call 8; (with_reducible refine (F1.out _).mono ?_); rintro r W ⟨rfl, hb⟩; replace HV := Lib.hid (HV.out.grow hb); clear hb s7; have s7 := (efld HV.out.h2).2.2.2.2.2.2.2.2.2.2.2.1; rw [es] at s7) | (go_at_call 9; (with_reducible refine (F2.out _).mono ?_); rintro r W ⟨rfl, hb⟩; replace HV := Lib.hid (HV.out.grow hb); clear hb s7; have s7 := (efld HV.out.h2).2.2.2.2.2.2.2.2.2.2.2.1; rw [es] at s7) | (go_at_call 18; (with_reducible refine (C1.out _ HV.out.old).mono ?_); rintro r W ⟨rfl, hb⟩; replace HV := Lib.hid (HV.out.grow hb); clear hb s7; have s7 := (efld HV.out.h2).2.2.2.2.2.2.2.2.2.2.2.1; rw [es] at s7) | (go_at_call 10; (with_reducible refine (C2.out _ HV.out.old).mono ?_); rintro r W ⟨rfl, hb⟩; replace HV := Lib.hid (HV.out.grow hb); clear hb s7; have s7 := (efld HV.out.h2).2.2.2.2.2.2.2.2.2.2.2.1; rw [es] at s7) | (go_at_call 14; (with_reducible refine (C3.out _ HV.out.old).mono ?_); rintro r W ⟨rfl, hb⟩; replace HV := Lib.hid (HV.out.grow hb); clear hb s7; have s7 := (efld HV.out.h2).2.2.2.2.2.2.2.2.2.2.2.1; rw [es] at s7) | (go_at_call 16; (with_reducible refine (C4.out _ HV.out.old).mono ?_); rintro r W ⟨rfl, hb⟩; replace HV := Lib.hid (HV.out.grow hb); clear hb s7; have s7 := (efld HV.out.h2).2.2.2.2.2.2.2.2.2.2.2.1; rw [es] at s7) | fail)
  go_loopw [13, 15] (fun v i wr => ∃ K p vv : Int, v = .int .i64 vv ∧ i = .int .i64 K ∧ K * s = p ∧ 0 ≤ K ∧ K ≤ p ∧ p < d + s ∧ Pos r a p vv ∧ Hv w wr [(w.heap.size + 1, lo l), (w.heap.size, eo e)]) (fun _ i _ => (d - intOf i * s).toNat)
  case atStart => exact ⟨0, 0, r, rfl, rfl, by simp, by omega, by omega, by omega, Pos.start r a, HV.out⟩
  case round =>
    clear HV s7
    obtain ⟨K, p, vv, rfl, rfl, hp, hK, hKp, hpd, hpos, hv⟩ := hrel
    have HV := Lib.hid hv
    have HP := Lib.hid hpos
    have hvv := hpos.bd (by omega) (by omega) ha
    clear hv hpos
    have s7 := (efld HV.out.h2).2.2.2.2.2.2.2.2.2.2.2.1; rw [es] at s7
    by_cases hlt : p < d
    · have g2 : decide (p < d) = true := decide_eq_true hlt
      have hne := HP.out.on HD.out hlt
      have g3 : decide (vv = a) = false := decide_eq_false hne
      have g4 : (vv == a) = false := by simp [hne]
      obtain ⟨z, ez⟩ : ∃ z, Sd.next (en e) (la l) n vv x = z := ⟨_, rfl⟩
      have C5 := Lib.hid (HY.out vv z ez)
      have HZ := Lib.hid (HP.out.step hs.1 (ez ▸ HX.out vv hvv))
      clear ez hne HX HY C4
      go_wp2_with (first | (refine ldE hE rfl _ rfl _ rfl HV.out.h2 ?_) | (refine ldL hL rfl _ rfl _ rfl HV.out.head ?_) | (go_at_call 16; (with_reducible refine (C5.out _ HV.out.old).mono ?_); rintro r W ⟨rfl, hb⟩; replace HV := Lib.hid (HV.out.grow hb); clear hb s7; have s7 := (efld HV.out.h2).2.2.2.2.2.2.2.2.2.2.2.1; rw [es] at s7) | fail)
      go_roundw
      case rel => exact ⟨K + 1, p + s, z, rfl, by go_num, by rw [Int.add_mul, hp]; omega, by omega, by omega, by omega, HZ.out, HV.out⟩
      case measure => simp [intOf, Int.add_mul, hp]; omega
    · have g2 : decide (p < d) = false := decide_eq_false hlt
      have hva := HP.out.there HD.out (by omega)
      have g3 : decide (vv = a) = true := decide_eq_true hva
      have g4 : (vv == a) = true := by simp [hva]
      clear hva
      go_wp2_with (first | (refine ldE hE rfl _ rfl _ rfl HV.out.h2 ?_) | (refine ldL hL rfl _ rfl _ rfl HV.out.head ?_) | (go_at_call 16; (with_reducible refine (C4.out _ HV.out.old).mono ?_); rintro r W ⟨rfl, hb⟩; replace HV := Lib.hid (HV.out.grow hb); clear hb s7; have s7 := (efld HV.out.h2).2.2.2.2.2.2.2.2.2.2.2.1; rw [es] at s7) | fail)
      go_ret
      exact ⟨rfl, HV.out.old⟩

theorem ScheduleStill_walk (e : Eg) (l : Lg) (n V : Int) (hV : 0 ≤ V ∧ V ≤ 65535) (x : Int) (w : World) (hE : EngIn w e) (hL : LawIn w l) : Calls Try.prog 6 #[.agg (ec e), .agg (lc l), .int .i64 n, .int .u16 V, .int .i64 x] w fun r w' => r = .returned (.bool true) ∧ Below w.heap.size w w' := by
  cases h1 : fewL l with
  | false => exact ScheduleStill_few1 e l n V x w h1
  | true =>
    cases h2 : fewE e with
    | false => exact ScheduleStill_few2 e l n V x w h1 h2
    | true =>
      cases h3 : Em.okB (en e) with
      | false => exact Still_no1 e l n V x w hE h1 h2 h3
      | true =>
        cases h4 : Sd.okB (la l) with
        | false => exact Still_no2 e l n V x w hE hL h1 h2 h3 h4
        | true =>
          by_cases hd : 200 * e.slew < max (Sd.allow (la l) n x) (V % 2000) - min (Sd.allow (la l) n x) (V % 2000)
          · exact Still_far e l n V x _ _ _ w hE hL h1 h2 h3 h4 hV rfl rfl rfl hd
          · exact Still_go e l n V x _ _ _ w hE hL h1 h2 h3 h4 hV rfl rfl rfl hd

end Hw
end Go.Proofs.Ythjnodchmedlfaa
