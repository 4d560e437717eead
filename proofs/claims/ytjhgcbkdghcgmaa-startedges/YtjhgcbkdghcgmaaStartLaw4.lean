/- The walk of StartEdges. Printed by gen_laws.py. -/
import Derived.Test.YtjhgcbkdghcgmaaStartLaw1
import Derived.Test.YtjhgcbkdghcgmaaLimKit
namespace Go.Proofs.Ytjhgcbkdghcgmaa
namespace Bw
open Go.RowKit TabC Lk Ew Hw

set_option maxRecDepth 100000 in
set_option maxHeartbeats 4000000 in
theorem StartEdges_few1 (e : Eg) (l : Lg)  (w : World) (h1 : fewL l = false) : Calls Try.prog 6 #[.agg (ec e), .agg (lc l)] w fun r w' => r = .returned (.bool true) ∧ Below w.heap.size w w' := by
  have HV := Lib.hid (two_el w e l)
  have F1 := Lib.hid (fewl_v h1)
  clear h1
  go_enter Try.func6, Try.ntmps6
  go_upto_region 1 with fail
  generalize hE : Value.agg (ec e) = E at *
  generalize hL : Value.agg (lc l) = L at *
  go_wp2_with (first | (refine ldE hE rfl _ rfl _ rfl HV.out.h2 ?_) | (refine ldL hL rfl _ rfl _ rfl HV.out.head ?_) | (go_at_call 7; (with_reducible refine (awake_c _).mono ?_); rintro r W ⟨rfl, hb⟩; replace HV := Lib.hid (HV.out.grow hb); clear hb) | (go_at_call 8; (with_reducible refine (F1.out _).mono ?_); rintro r W ⟨rfl, hb⟩; replace HV := Lib.hid (HV.out.grow hb); clear hb) | fail)
  go_ret
  exact ⟨rfl, HV.out.old⟩

set_option maxRecDepth 100000 in
set_option maxHeartbeats 4000000 in
theorem StartEdges_few2 (e : Eg) (l : Lg)  (w : World) (h1 : fewL l = true) (h2 : fewE e = false) : Calls Try.prog 6 #[.agg (ec e), .agg (lc l)] w fun r w' => r = .returned (.bool true) ∧ Below w.heap.size w w' := by
  have HV := Lib.hid (two_el w e l)
  have F1 := Lib.hid (fewl_v h1)
  have F2 := Lib.hid (Ew.few_v h2)
  clear h1 h2
  go_enter Try.func6, Try.ntmps6
  go_upto_region 1 with fail
  generalize hE : Value.agg (ec e) = E at *
  generalize hL : Value.agg (lc l) = L at *
  go_wp2_with (first | (refine ldE hE rfl _ rfl _ rfl HV.out.h2 ?_) | (refine ldL hL rfl _ rfl _ rfl HV.out.head ?_) | (go_at_call 7; (with_reducible refine (awake_c _).mono ?_); rintro r W ⟨rfl, hb⟩; replace HV := Lib.hid (HV.out.grow hb); clear hb) | (go_at_call 8; (with_reducible refine (F1.out _).mono ?_); rintro r W ⟨rfl, hb⟩; replace HV := Lib.hid (HV.out.grow hb); clear hb) | (go_at_call 9; (with_reducible refine (F2.out _).mono ?_); rintro r W ⟨rfl, hb⟩; replace HV := Lib.hid (HV.out.grow hb); clear hb) | fail)
  go_ret
  exact ⟨rfl, HV.out.old⟩

set_option maxRecDepth 100000 in
set_option maxHeartbeats 4000000 in
theorem Edges_no1 (e : Eg) (l : Lg)  (w : World) (hE : EngIn w e) (h1 : fewL l = true) (h2 : fewE e = true) (h3 : Em.okB (en e) = false) : Calls Try.prog 6 #[.agg (ec e), .agg (lc l)] w fun r w' => r = .returned (.bool true) ∧ Below w.heap.size w w' := by
  have HV := Lib.hid (two_el w e l)
  have F1 := Lib.hid (fewl_v h1)
  have F2 := Lib.hid (Ew.few_v h2)
  have C1 := Lib.hid (fun W (hW : Below w.heap.size w W) => Ew.check_no e W (hE.below hW) h3)
  clear hE h1 h2 h3
  go_enter Try.func6, Try.ntmps6
  go_upto_region 1 with fail
  generalize hE : Value.agg (ec e) = E at *
  generalize hL : Value.agg (lc l) = L at *
  go_wp2_with (first | (refine ldE hE rfl _ rfl _ rfl HV.out.h2 ?_) | (refine ldL hL rfl _ rfl _ rfl HV.out.head ?_) | (go_at_call 7; (with_reducible refine (awake_c _).mono ?_); rintro r W ⟨rfl, hb⟩; replace HV := Lib.hid (HV.out.grow hb); clear hb) | (go_at_call 8; (with_reducible refine (F1.out _).mono ?_); rintro r W ⟨rfl, hb⟩; replace HV := Lib.hid (HV.out.grow hb); clear hb) | (go_at_call 9; (with_reducible refine (F2.out _).mono ?_); rintro r W ⟨rfl, hb⟩; replace HV := Lib.hid (HV.out.grow hb); clear hb) | (go_at_call 20; (with_reducible refine (C1.out _ HV.out.old).mono ?_); rintro r W ⟨rfl, hb⟩; replace HV := Lib.hid (HV.out.grow hb); clear hb) | fail)
  go_ret
  exact ⟨rfl, HV.out.old⟩

set_option maxRecDepth 100000 in
set_option maxHeartbeats 4000000 in
theorem Edges_no2 (e : Eg) (l : Lg)  (w : World) (hE : EngIn w e) (hL : LawIn w l) (h1 : fewL l = true) (h2 : fewE e = true) (h3 : Em.okB (en e) = true) (h4 : Sd.okB (la l) = false) : Calls Try.prog 6 #[.agg (ec e), .agg (lc l)] w fun r w' => r = .returned (.bool true) ∧ Below w.heap.size w w' := by
  have HV := Lib.hid (two_el w e l)
  have F1 := Lib.hid (fewl_v h1)
  have F2 := Lib.hid (Ew.few_v h2)
  have C1 := Lib.hid (fun W (hW : Below w.heap.size w W) => Ew.check_ok e W (hE.below hW) h3)
  have C2 := Lib.hid (fun W (hW : Below w.heap.size w W) => cl_no l W (hL.below hW) h4)
  clear hE hL h1 h2 h3 h4
  go_enter Try.func6, Try.ntmps6
  go_upto_region 1 with fail
  generalize hE : Value.agg (ec e) = E at *
  generalize hL : Value.agg (lc l) = L at *
  go_wp2_with (first | (refine ldE hE rfl _ rfl _ rfl HV.out.h2 ?_) | (refine ldL hL rfl _ rfl _ rfl HV.out.head ?_) | (go_at_call 7; (with_reducible refine (awake_c _).mono ?_); rintro r W ⟨rfl, hb⟩; replace HV := Lib.hid (HV.out.grow hb); clear hb) | (go_at_call 8; (with_reducible refine (F1.out _).mono ?_); rintro r W ⟨rfl, hb⟩; replace HV := Lib.hid (HV.out.grow hb); clear hb) | (go_at_call 9; (with_reducible refine (F2.out _).mono ?_); rintro r W ⟨rfl, hb⟩; replace HV := Lib.hid (HV.out.grow hb); clear hb) | (go_at_call 20; (with_reducible refine (C1.out _ HV.out.old).mono ?_); rintro r W ⟨rfl, hb⟩; replace HV := Lib.hid (HV.out.grow hb); clear hb) | (go_at_call 21; (with_reducible refine (C2.out _ HV.out.old).mono ?_); rintro r W ⟨rfl, hb⟩; replace HV := Lib.hid (HV.out.grow hb); clear hb) | fail)
  go_ret
  exact ⟨rfl, HV.out.old⟩

set_option maxRecDepth 100000 in
set_option maxHeartbeats 4000000 in
theorem Edges_go (e : Eg) (l : Lg)  (w : World) (hE : EngIn w e) (hL : LawIn w l) (h1 : fewL l = true) (h2 : fewE e = true) (h3 : Em.okB (en e) = true) (h4 : Sd.okB (la l) = true) (b1 : 0 ≤ e.light ∧ e.light ≤ 1048576) : Calls Try.prog 6 #[.agg (ec e), .agg (lc l)] w fun r w' => r = .returned (.bool true) ∧ Below w.heap.size w w' := by
  have HV := Lib.hid (two_el w e l)
  have F1 := Lib.hid (fewl_v h1)
  have F2 := Lib.hid (Ew.few_v h2)
  have C1 := Lib.hid (fun W (hW : Below w.heap.size w W) => Ew.check_ok e W (hE.below hW) h3)
  have C2 := Lib.hid (fun W (hW : Below w.heap.size w W) => cl_ok l W (hL.below hW) h4)
  have R1 := Lib.hid (fun W (hW : Below w.heap.size w W) => ready_v hE (n := e.light) (b := true) (by unfold Sb.ready; rw [h3]; show ((true && decide (e.light ≤ e.light))) = true; simp) hW)
  have R2 := Lib.hid (fun W (hW : Below w.heap.size w W) => ready_v hE (n := e.light - 1) (b := false) (by unfold Sb.ready; rw [h3]; exact (show ((true && decide (e.light ≤ e.light - 1))) = false from by rw [decide_eq_false (by omega)]; rfl)) hW)
  have A1 := Lib.hid (fun W (hW : Below w.heap.size w W) => away_v hL (n := l.idle) (lit := true) (b := true) (by unfold Sb.away; rw [h4]; show (true && (true && decide (l.idle ≤ l.idle))) = true; simp) hW)
  have A2 := Lib.hid (fun W (hW : Below w.heap.size w W) => away_v hL (n := l.idle - 1) (lit := true) (b := false) (by unfold Sb.away; rw [h4]; exact (show (true && (true && decide (l.idle ≤ l.idle - 1))) = false from by rw [decide_eq_false (by omega)]; rfl)) hW)
  have H1 := Lib.hid (fun W (hW : Below w.heap.size w W) => hot_v hL (n := l.redE) (b := true) (by unfold Sb.hot; rw [h4]; show ((true && decide (l.redE ≤ l.redE))) = true; simp) hW)
  have H2 := Lib.hid (fun W (hW : Below w.heap.size w W) => hot_v hL (n := l.redE - 1) (b := false) (by unfold Sb.hot; rw [h4]; exact (show ((true && decide (l.redE ≤ l.redE - 1))) = false from by rw [decide_eq_false (by omega)]; rfl)) hW)
  have U1 := Lib.hid (fun W (hW : Below w.heap.size w W) => hung_v hL (n := l.patience) (b := true) (by unfold Sb.hung; rw [h4]; show ((true && decide (l.patience ≤ l.patience))) = true; simp) hW)
  have U2 := Lib.hid (fun W (hW : Below w.heap.size w W) => hung_v hL (n := l.patience - 1) (b := false) (by unfold Sb.hung; rw [h4]; exact (show ((true && decide (l.patience ≤ l.patience - 1))) = false from by rw [decide_eq_false (by omega)]; rfl)) hW)
  have KL := Sd.ok_of h4
  have g1 : 1 ≤ l.idle ∧ l.idle ≤ 1048576 := KL.idle
  have g2 : 1 ≤ l.margin := KL.margin.1
  have g3 : l.margin ≤ l.redE ∧ l.redE ≤ 1048576 := KL.redE
  have g4 : 1 ≤ l.patience ∧ l.patience ≤ 10000 := KL.patience
  have m1 : IntKind.i64.wrap (e.light - 1) = e.light - 1 := IntWalk.i64_in _ (by omega)
  have m2 : IntKind.i64.wrap (l.idle - 1) = l.idle - 1 := IntWalk.i64_in _ (by omega)
  have m3 : IntKind.i64.wrap (l.redE - 1) = l.redE - 1 := IntWalk.i64_in _ (by omega)
  have m4 : IntKind.i64.wrap (l.patience - 1) = l.patience - 1 := IntWalk.i64_in _ (by omega)
  clear hE hL h1 h2 h3 h4 KL g1 g2 g3 g4 b1
  go_enter Try.func6, Try.ntmps6
  go_upto_region 1 with fail
  generalize hE : Value.agg (ec e) = E at *
  generalize hL : Value.agg (lc l) = L at *
  go_wp2_with (first | (refine ldE hE rfl _ rfl _ rfl HV.out.h2 ?_) | (refine ldL hL rfl _ rfl _ rfl HV.out.head ?_) | (go_at_call 7; (with_reducible refine (awake_c _).mono ?_); rintro r W ⟨rfl, hb⟩; replace HV := Lib.hid (HV.out.grow hb); clear hb) | (go_at_call 8; (with_reducible refine (F1.out _).mono ?_); rintro r W ⟨rfl, hb⟩; replace HV := Lib.hid (HV.out.grow hb); clear hb) | (go_at_call 9; (with_reducible refine (F2.out _).mono ?_); rintro r W ⟨rfl, hb⟩; replace HV := Lib.hid (HV.out.grow hb); clear hb) | (go_at_call 12; (first | (with_reducible refine (R1.out _ HV.out.old).mono ?_) | (with_reducible refine (R2.out _ HV.out.old).mono ?_)); rintro r W ⟨rfl, hb⟩; replace HV := Lib.hid (HV.out.grow hb); clear hb; (try clear c0 c1 c2 c3); have c0 := Joins.cell_of_block HV.out.h2 13; have c1 := Joins.cell_of_block HV.out.head 10; have c2 := Joins.cell_of_block HV.out.head 8; have c3 := Joins.cell_of_block HV.out.head 11; simp only [List.getElem?_toArray, List.getElem?_cons_zero, List.getElem?_cons_succ] at c0 c1 c2 c3) | (go_at_call 14; (first | (with_reducible refine (A1.out _ HV.out.old).mono ?_) | (with_reducible refine (A2.out _ HV.out.old).mono ?_)); rintro r W ⟨rfl, hb⟩; replace HV := Lib.hid (HV.out.grow hb); clear hb; (try clear c0 c1 c2 c3); have c0 := Joins.cell_of_block HV.out.h2 13; have c1 := Joins.cell_of_block HV.out.head 10; have c2 := Joins.cell_of_block HV.out.head 8; have c3 := Joins.cell_of_block HV.out.head 11; simp only [List.getElem?_toArray, List.getElem?_cons_zero, List.getElem?_cons_succ] at c0 c1 c2 c3) | (go_at_call 16; (first | (with_reducible refine (H1.out _ HV.out.old).mono ?_) | (with_reducible refine (H2.out _ HV.out.old).mono ?_)); rintro r W ⟨rfl, hb⟩; replace HV := Lib.hid (HV.out.grow hb); clear hb; (try clear c0 c1 c2 c3); have c0 := Joins.cell_of_block HV.out.h2 13; have c1 := Joins.cell_of_block HV.out.head 10; have c2 := Joins.cell_of_block HV.out.head 8; have c3 := Joins.cell_of_block HV.out.head 11; simp only [List.getElem?_toArray, List.getElem?_cons_zero, List.getElem?_cons_succ] at c0 c1 c2 c3) | (go_at_call 18; (first | (with_reducible refine (U1.out _ HV.out.old).mono ?_) | (with_reducible refine (U2.out _ HV.out.old).mono ?_)); rintro r W ⟨rfl, hb⟩; replace HV := Lib.hid (HV.out.grow hb); clear hb; (try clear c0 c1 c2 c3); have c0 := Joins.cell_of_block HV.out.h2 13; have c1 := Joins.cell_of_block HV.out.head 10; have c2 := Joins.cell_of_block HV.out.head 8; have c3 := Joins.cell_of_block HV.out.head 11; simp only [List.getElem?_toArray, List.getElem?_cons_zero, List.getElem?_cons_succ] at c0 c1 c2 c3) | (go_at_call 20; (with_reducible refine (C1.out _ HV.out.old).mono ?_); rintro r W ⟨rfl, hb⟩; replace HV := Lib.hid (HV.out.grow hb); clear hb) | (go_at_call 21; (with_reducible refine (C2.out _ HV.out.old).mono ?_); rintro r W ⟨rfl, hb⟩; replace HV := Lib.hid (HV.out.grow hb); clear hb; (try clear c0 c1 c2 c3); have c0 := Joins.cell_of_block HV.out.h2 13; have c1 := Joins.cell_of_block HV.out.head 10; have c2 := Joins.cell_of_block HV.out.head 8; have c3 := Joins.cell_of_block HV.out.head 11; simp only [List.getElem?_toArray, List.getElem?_cons_zero, List.getElem?_cons_succ] at c0 c1 c2 c3) | fail)
  go_ret
  exact ⟨rfl, HV.out.old⟩

theorem light_in {e : Eg} (h3 : Em.okB (en e) = true) : 0 ≤ e.light ∧ e.light ≤ 1048576 := by
  simp only [Em.okB, Em.nums, Em.within, Bool.and_eq_true, decide_eq_true_eq] at h3
  exact h3.1.2.1.1.2

theorem StartEdges_walk (e : Eg) (l : Lg)  (w : World) (hE : EngIn w e) (hL : LawIn w l) : Calls Try.prog 6 #[.agg (ec e), .agg (lc l)] w fun r w' => r = .returned (.bool true) ∧ Below w.heap.size w w' := by
  cases h1 : fewL l with
  | false => exact StartEdges_few1 e l w h1
  | true =>
    cases h2 : fewE e with
    | false => exact StartEdges_few2 e l w h1 h2
    | true =>
      cases h3 : Em.okB (en e) with
      | false => exact Edges_no1 e l w hE h1 h2 h3
      | true =>
        cases h4 : Sd.okB (la l) with
        | false => exact Edges_no2 e l w hE hL h1 h2 h3 h4
        | true => exact Edges_go e l w hE hL h1 h2 h3 h4 (light_in h3)

end Bw
end Go.Proofs.Ytjhgcbkdghcgmaa
