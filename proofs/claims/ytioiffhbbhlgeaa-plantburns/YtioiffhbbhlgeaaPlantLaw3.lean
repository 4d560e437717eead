/- PlantBurns. Printed by gen_law3.py. -/
import Derived.Test.YtioiffhbbhlgeaaPlantAwake
import Derived.Test.YtioiffhbbhlgeaaPlantRef2
import Derived.Test.YtioiffhbbhlgeaaSynthLaw1
import Derived.Test.YtioiffhbbhlgeaaMinKit
namespace Go.Proofs.Ytioiffhbbhlgeaa
namespace Plw
open Go.RowKit TabC Lk Ew

theorem info_3 : (Try.prog.info? 29).map (·.size) = some 3 := by kernel_rfl
section
variable {ops : Array Oper} {rest : List Oper} {op : Oper} {a : Act} {w : World} {Q : Exit → Act → World → Prop}
/-- A drive's gusts, its starter, stored. -/
theorem st3 (hgd : op.guard = none) (x y : Operand) (ho : op.op = .store 29 x y) (hd : op.dst = none) (g : Nat) (d : Pl.Dr) (hx : a.eval x = .pointer (some ⟨g, 4, none⟩)) (hy : a.eval y = .agg #[.int .i64 0, .int .i64 0, .int .i64 0]) (hP : w.heap[g]? = some (dro d))
    (c : ∀ w', w'.heap[g]? = some (dro { d with g0 := 0, g1 := 0, g2 := 0 }) → Off g w w' → wpList Try.prog ops Q rest a w') : wpList Try.prog ops Q (op :: rest) a w := by
  have B : (w.setCells g 4 [.int .i64 0, .int .i64 0, .int .i64 0]).heap[g]? = some (dro { d with g0 := 0, g1 := 0, g2 := 0 }) :=
    Joins.block_setCell (Joins.block_setCell (Joins.block_setCell hP (i := 4) (.int .i64 0)) (i := 5) (.int .i64 0)) (i := 6) (.int .i64 0)
  have T : w.there g 4 3 := fun j hj => ⟨by rw [Joins.cell_of_block hP]; obtain rfl | rfl | rfl : j = 0 ∨ j = 1 ∨ j = 2 := by omega
                                            all_goals rfl, Joins.unfrozen_of_block hP _⟩
  refine wpList_plain hgd fun _ hK => wp_store_mid 29 x y ho g 4 #[.int .i64 0, .int .i64 0, .int .i64 0] hx hy T info_3 (by simp [Value.oneCell']) ?_
  rw [hd]
  exact hK _ _ (c _ B ((((Off.refl g w).set 4 _).set 5 _).set 6 _))
theorem stbd (hgd : op.guard = none) (x y : Operand) (ho : op.op = .store 4 x y) (hd : op.dst = none) (g : Nat) (d : Pl.Dr) (n : Bool) (hx : a.eval x = .pointer (some ⟨g, 3, none⟩)) (hy : a.eval y = .bool n) (hP : w.heap[g]? = some (dro d))
    (c : ∀ w', w'.heap[g]? = some (dro { d with start := n }) → Off g w w' → wpList Try.prog ops Q rest a w') : wpList Try.prog ops Q (op :: rest) a w := by
  have cc : w.cell? ⟨g, 3, none⟩ = some (.bool d.start) := Joins.cell_of_block hP 3
  have f := Joins.unfrozen_of_block hP 3
  refine wpList_plain hgd fun _ hK => ?_
  have H := hK _ _ (c _ (Joins.block_setCell hP (i := 3) (.bool n)) ((Off.refl g w).set 3 (.bool n)))
  unfold Oper.wp execOp
  simp only [ho, hx, hy, Instr.storeAt, Instr.sureAddr, Sem.run_bind, Sem.run_pure, Result.andThen_ok]
  simp [go_sem, cc, f, hd]
  exact H
end

set_option maxRecDepth 100000 in
set_option maxHeartbeats 8000000 in
theorem burns_few (e : Eg) (p : Pl.Pt) (d : Pl.Dr) (w : World) (h1 : fewE e = false) : Calls Try.prog 5 #[.agg (ec e), .agg (pc p), .agg (dc d)] w fun r w' => r = .returned (.bool true) ∧ Below w.heap.size w w' := by
  have HV := Lib.hid (three_b w e p d)
  have F1 := Lib.hid (Ew.few_v h1)
  clear h1
  go_enter Try.func5, Try.ntmps5
  go_wp2_with (first | go_big_skip | (refine lde rfl _ rfl _ _ rfl HV.out.h3 ?_) | (go_at_call 9; (with_reducible refine (awake_c _).mono ?_); rintro r W ⟨rfl, hb⟩; replace HV := Lib.hid (HV.out.grow hb); clear hb) | (go_at_call 10; (with_reducible refine (F1.out _).mono ?_); rintro r W ⟨rfl, hb⟩; replace HV := Lib.hid (HV.out.grow hb); clear hb) | (refine ldi rfl _ rfl (w.heap.size + 1) 0 p.n1 rfl (Joins.cell_of_block HV.out.h2 0) ?_) | (refine ldi rfl _ rfl (w.heap.size + 1) 1 p.n2 rfl (Joins.cell_of_block HV.out.h2 1) ?_) | (refine ldi rfl _ rfl (w.heap.size + 1) 2 p.heat rfl (Joins.cell_of_block HV.out.h2 2) ?_) | (refine ldi rfl _ rfl (w.heap.size + 1) 3 p.valve rfl (Joins.cell_of_block HV.out.h2 3) ?_) | fail)
  go_ret
  exact ⟨rfl, HV.out.old⟩
set_option maxRecDepth 100000 in
set_option maxHeartbeats 8000000 in
theorem burns_no (e : Eg) (p : Pl.Pt) (d : Pl.Dr) (w : World) (hE : EngIn w e) (h1 : fewE e = true) (h2 : Em.okB (en e) = false) : Calls Try.prog 5 #[.agg (ec e), .agg (pc p), .agg (dc d)] w fun r w' => r = .returned (.bool true) ∧ Below w.heap.size w w' := by
  have HV := Lib.hid (three_b w e p d)
  have F1 := Lib.hid (Ew.few_v h1)
  have F2 := Lib.hid (fun W (hW : Below w.heap.size w W) => check_no e W (hE.below hW) h2)
  clear hE h1 h2
  go_enter Try.func5, Try.ntmps5
  go_wp2_with (first | go_big_skip | (refine lde rfl _ rfl _ _ rfl HV.out.h3 ?_) | (go_at_call 9; (with_reducible refine (awake_c _).mono ?_); rintro r W ⟨rfl, hb⟩; replace HV := Lib.hid (HV.out.grow hb); clear hb) | (go_at_call 10; (with_reducible refine (F1.out _).mono ?_); rintro r W ⟨rfl, hb⟩; replace HV := Lib.hid (HV.out.grow hb); clear hb) | (go_at_call 17; (with_reducible refine (F2.out _ HV.out.old).mono ?_); rintro r W ⟨rfl, hb⟩; replace HV := Lib.hid (HV.out.grow hb); clear hb) | (refine ldi rfl _ rfl (w.heap.size + 1) 0 p.n1 rfl (Joins.cell_of_block HV.out.h2 0) ?_) | (refine ldi rfl _ rfl (w.heap.size + 1) 1 p.n2 rfl (Joins.cell_of_block HV.out.h2 1) ?_) | (refine ldi rfl _ rfl (w.heap.size + 1) 2 p.heat rfl (Joins.cell_of_block HV.out.h2 2) ?_) | (refine ldi rfl _ rfl (w.heap.size + 1) 3 p.valve rfl (Joins.cell_of_block HV.out.h2 3) ?_) | fail)
  go_ret
  exact ⟨rfl, HV.out.old⟩
set_option maxRecDepth 100000 in
set_option maxHeartbeats 8000000 in
theorem burns_min (e : Eg) (p : Pl.Pt) (d : Pl.Dr) (w : World) (hE : EngIn w e) (h1 : fewE e = true) (h2 : Em.okB (en e) = true) (k1 : decide (min p.n1 (min p.n2 (min p.heat p.valve)) < 0) = true) : Calls Try.prog 5 #[.agg (ec e), .agg (pc p), .agg (dc d)] w fun r w' => r = .returned (.bool true) ∧ Below w.heap.size w w' := by
  have HV := Lib.hid (three_b w e p d)
  have F1 := Lib.hid (Ew.few_v h1)
  have F2 := Lib.hid (fun W (hW : Below w.heap.size w W) => check_ok e W (hE.below hW) h2)
  clear hE h1 h2
  go_enter Try.func5, Try.ntmps5
  go_wp2_with (first | go_big_skip | (refine lde rfl _ rfl _ _ rfl HV.out.h3 ?_) | (go_at_call 9; (with_reducible refine (awake_c _).mono ?_); rintro r W ⟨rfl, hb⟩; replace HV := Lib.hid (HV.out.grow hb); clear hb) | (go_at_call 10; (with_reducible refine (F1.out _).mono ?_); rintro r W ⟨rfl, hb⟩; replace HV := Lib.hid (HV.out.grow hb); clear hb) | (go_at_call 17; (with_reducible refine (F2.out _ HV.out.old).mono ?_); rintro r W ⟨rfl, hb⟩; replace HV := Lib.hid (HV.out.grow hb); clear hb) | (refine ldi rfl _ rfl (w.heap.size + 1) 0 p.n1 rfl (Joins.cell_of_block HV.out.h2 0) ?_) | (refine ldi rfl _ rfl (w.heap.size + 1) 1 p.n2 rfl (Joins.cell_of_block HV.out.h2 1) ?_) | (refine ldi rfl _ rfl (w.heap.size + 1) 2 p.heat rfl (Joins.cell_of_block HV.out.h2 2) ?_) | (refine ldi rfl _ rfl (w.heap.size + 1) 3 p.valve rfl (Joins.cell_of_block HV.out.h2 3) ?_) | fail)
  go_ret
  exact ⟨rfl, HV.out.old⟩
set_option maxRecDepth 100000 in
set_option maxHeartbeats 8000000 in
theorem burns_max (e : Eg) (p : Pl.Pt) (d : Pl.Dr) (w : World) (hE : EngIn w e) (h1 : fewE e = true) (h2 : Em.okB (en e) = true) (k1 : decide (min p.n1 (min p.n2 (min p.heat p.valve)) < 0) = false) (k2 : decide (1048576 < max p.n1 (max p.n2 (max p.heat p.valve))) = true) : Calls Try.prog 5 #[.agg (ec e), .agg (pc p), .agg (dc d)] w fun r w' => r = .returned (.bool true) ∧ Below w.heap.size w w' := by
  have HV := Lib.hid (three_b w e p d)
  have F1 := Lib.hid (Ew.few_v h1)
  have F2 := Lib.hid (fun W (hW : Below w.heap.size w W) => check_ok e W (hE.below hW) h2)
  clear hE h1 h2
  go_enter Try.func5, Try.ntmps5
  go_wp2_with (first | go_big_skip | (refine lde rfl _ rfl _ _ rfl HV.out.h3 ?_) | (go_at_call 9; (with_reducible refine (awake_c _).mono ?_); rintro r W ⟨rfl, hb⟩; replace HV := Lib.hid (HV.out.grow hb); clear hb) | (go_at_call 10; (with_reducible refine (F1.out _).mono ?_); rintro r W ⟨rfl, hb⟩; replace HV := Lib.hid (HV.out.grow hb); clear hb) | (go_at_call 17; (with_reducible refine (F2.out _ HV.out.old).mono ?_); rintro r W ⟨rfl, hb⟩; replace HV := Lib.hid (HV.out.grow hb); clear hb) | (refine ldi rfl _ rfl (w.heap.size + 1) 0 p.n1 rfl (Joins.cell_of_block HV.out.h2 0) ?_) | (refine ldi rfl _ rfl (w.heap.size + 1) 1 p.n2 rfl (Joins.cell_of_block HV.out.h2 1) ?_) | (refine ldi rfl _ rfl (w.heap.size + 1) 2 p.heat rfl (Joins.cell_of_block HV.out.h2 2) ?_) | (refine ldi rfl _ rfl (w.heap.size + 1) 3 p.valve rfl (Joins.cell_of_block HV.out.h2 3) ?_) | fail)
  go_ret
  exact ⟨rfl, HV.out.old⟩
set_option maxRecDepth 100000 in
set_option maxHeartbeats 8000000 in
theorem burns_go (e : Eg) (p : Pl.Pt) (d : Pl.Dr) (w : World) (hE : EngIn w e) (h1 : fewE e = true) (h2 : Em.okB (en e) = true) (k1 : decide (min p.n1 (min p.n2 (min p.heat p.valve)) < 0) = false) (k2 : decide (1048576 < max p.n1 (max p.n2 (max p.heat p.valve))) = false) : Calls Try.prog 5 #[.agg (ec e), .agg (pc p), .agg (dc d)] w fun r w' => r = .returned (.bool true) ∧ Below w.heap.size w w' := by
  have HV := Lib.hid (three_b w e p d)
  have F1 := Lib.hid (Ew.few_v h1)
  have F2 := Lib.hid (fun W (hW : Below w.heap.size w W) => check_ok e W (hE.below hW) h2)
  have g1 : ¬ min p.n1 (min p.n2 (min p.heat p.valve)) < 0 := of_decide_eq_false k1
  have g2 : ¬ 1048576 < max p.n1 (max p.n2 (max p.heat p.valve)) := of_decide_eq_false k2
  have F := Pl.fit h2
  obtain ⟨M1, e1⟩ : ∃ x, Pl.m1 (en e) p d = x := ⟨_, rfl⟩
  obtain ⟨M2, e2⟩ : ∃ x, Pl.m2 (en e) p d = x := ⟨_, rfl⟩
  obtain ⟨MH, e3⟩ : ∃ x, Pl.mh (en e) p d = x := ⟨_, rfl⟩
  obtain ⟨V, e4⟩ : ∃ x, Pl.vl (en e) p d = x := ⟨_, rfl⟩
  obtain ⟨l, e5⟩ : ∃ x, Pl.lt (en e) p d = x := ⟨_, rfl⟩
  obtain ⟨N1, e6⟩ : ∃ x, Pl.m1 (en e) p (Pl.calm d) = x := ⟨_, rfl⟩
  obtain ⟨N2, e7⟩ : ∃ x, Pl.m2 (en e) p (Pl.calm d) = x := ⟨_, rfl⟩
  obtain ⟨NH, e8⟩ : ∃ x, Pl.mh (en e) p (Pl.calm d) = x := ⟨_, rfl⟩
  have q1 : Pl.step (en e) p d = ⟨M1, M2, MH, V, l⟩ := by rw [Pl.step, if_pos h2, Pl.go, e1, e2, e3, e4, e5]
  have q2 : Pl.step (en e) p (Pl.calm d) = ⟨N1, N2, NH, V, l⟩ := by rw [Pl.step, if_pos h2, Pl.go, e6, e7, e8, Pl.vl_calm, Pl.lt_calm, e4, e5]
  have C1 := Lib.hid (fun W (hW : Below w.heap.size w W) => q1 ▸ step_c e p d W (hE.below hW))
  have C2 := Lib.hid (fun W (hW : Below w.heap.size w W) => q2 ▸ step_c e p (Pl.calm d) W (hE.below hW))
  have HN : Hid (l = true → d.opn = true ∧ d.blow = false ∧ e.lean ≤ V ∧ (p.lit = true ∨ (d.ign = true ∧ e.light ≤ p.n2))) := Lib.hid (fun hl => by
    have z := Pl.lt_needs (e := en e) (p := p) (d := d) (by rw [e5]; exact hl)
    rw [e4] at z
    exact z.resolve_right (fun z => z F.le.1))
  have HC : Hid (l = false → N2 ≤ p.n2 ∧ NH ≤ p.heat) := Lib.hid (fun hl => by
    have z := Pl.calm_falls (p := p) (d := d) F (by rw [e5]; exact hl) (by omega) (by omega) (by omega) (by omega)
    rw [e7, e8] at z
    exact z)
  have hn := Lib.hid (Nat.le_refl w.heap.size)
  clear e1 e2 e3 e4 e5 e6 e7 e8 q1 q2 h1 h2 hE F g1 g2
  go_enter Try.func5, Try.ntmps5
  go_upto_region 5 with (first | go_big_skip | (refine lde rfl _ rfl _ _ rfl HV.out.h3 ?_) | (go_at_call 9; (with_reducible refine (awake_c _).mono ?_); rintro r W ⟨rfl, hb⟩; replace HV := Lib.hid (HV.out.grow hb); clear hb) | (go_at_call 10; (with_reducible refine (F1.out _).mono ?_); rintro r W ⟨rfl, hb⟩; replace HV := Lib.hid (HV.out.grow hb); clear hb) | (go_at_call 17; (with_reducible refine (F2.out _ HV.out.old).mono ?_); rintro r W ⟨rfl, hb⟩; replace HV := Lib.hid (HV.out.grow hb); clear hb) | (refine ldi rfl _ rfl (w.heap.size + 1) 0 p.n1 rfl (Joins.cell_of_block HV.out.h2 0) ?_) | (refine ldi rfl _ rfl (w.heap.size + 1) 1 p.n2 rfl (Joins.cell_of_block HV.out.h2 1) ?_) | (refine ldi rfl _ rfl (w.heap.size + 1) 2 p.heat rfl (Joins.cell_of_block HV.out.h2 2) ?_) | (refine ldi rfl _ rfl (w.heap.size + 1) 3 p.valve rfl (Joins.cell_of_block HV.out.h2 3) ?_) | (refine ldp rfl _ rfl _ p rfl HV.out.h2 ?_) | (refine ldd rfl _ rfl _ _ rfl HV.out.head ?_) | (go_at_call 13; (with_reducible refine (C1.out _ HV.out.old).mono ?_); rintro r W ⟨rfl, hb⟩; replace HV := Lib.hid (HV.out.grow hb); clear hb; have hl := Lib.hid (show w.heap.size + 1 + 1 < W.heap.size from HV.out.lt List.mem_cons_self); replace HV := Lib.hid (hv_swap (HV.out.made (po ⟨M1, M2, MH, V, l⟩)))) | fail)
  generalize W.heap.size = b at *
  clear C1 F1 F2 k1 k2
  go_cut [82] (fun t wx => t = .bool false ∧ Hv w wx [(w.heap.size + 1 + 1, dro d), (b, po ⟨M1, M2, MH, V, l⟩), (w.heap.size + 1, po p), (w.heap.size, eo e)])
  case first =>
    cases l
    · go_wp2_with (first | go_big_skip | (refine ldb rfl _ rfl (b) 4 false rfl (Joins.cell_of_block HV.out.h2 4) ?_) | fail)
      go_meet
      case rel => exact ⟨rfl, HV.out⟩
    · obtain ⟨n1, n2, n3, n4⟩ := HN.out rfl
      have k3 : decide (V < e.lean) = false := decide_eq_false (by omega)
      have n3' := Lib.hid n3
      clear n3
      cases hp : p.lit
      · have n5 : d.ign = true ∧ e.light ≤ p.n2 := n4.resolve_left (by rw [hp]; decide)
        obtain ⟨n6, n7⟩ := n5
        have k4 : decide (p.n2 < e.light) = false := decide_eq_false (by omega)
        clear n4 n7
        go_wp2_with (first | go_big_skip | (refine ldb rfl _ rfl (b) 4 true rfl (Joins.cell_of_block HV.out.h2 4) ?_) | (refine ldb rfl _ rfl (w.heap.size + 1 + 1) 1 true rfl (by have z := Joins.cell_of_block HV.out.head 1; simp only [List.getElem?_toArray, List.getElem?_cons_zero, List.getElem?_cons_succ, n1] at z; exact z) ?_) | (refine ldb rfl _ rfl (w.heap.size + 1 + 1) 7 false rfl (by have z := Joins.cell_of_block HV.out.head 7; simp only [List.getElem?_toArray, List.getElem?_cons_zero, List.getElem?_cons_succ, n2] at z; exact z) ?_) | (refine ldi rfl _ rfl (b) 3 V rfl (Joins.cell_of_block HV.out.h2 3) ?_) | (refine ldi rfl _ rfl (w.heap.size) 14 e.lean rfl (Joins.cell_of_block HV.out.h4 14) ?_) | (refine ldb rfl _ rfl (w.heap.size + 1) 4 false rfl (by have z := Joins.cell_of_block HV.out.h3 4; simp only [List.getElem?_toArray, List.getElem?_cons_zero, List.getElem?_cons_succ, hp] at z; exact z) ?_) | (refine ldb rfl _ rfl (w.heap.size + 1 + 1) 2 true rfl (by have z := Joins.cell_of_block HV.out.head 2; simp only [List.getElem?_toArray, List.getElem?_cons_zero, List.getElem?_cons_succ, n6] at z; exact z) ?_) | (refine ldi rfl _ rfl (w.heap.size + 1) 1 p.n2 rfl (Joins.cell_of_block HV.out.h3 1) ?_) | (refine ldi rfl _ rfl (w.heap.size) 13 e.light rfl (Joins.cell_of_block HV.out.h4 13) ?_) | fail)
        go_meet
        case rel => exact ⟨rfl, HV.out⟩
      · clear n4
        go_wp2_with (first | go_big_skip | (refine ldb rfl _ rfl (b) 4 true rfl (Joins.cell_of_block HV.out.h2 4) ?_) | (refine ldb rfl _ rfl (w.heap.size + 1 + 1) 1 true rfl (by have z := Joins.cell_of_block HV.out.head 1; simp only [List.getElem?_toArray, List.getElem?_cons_zero, List.getElem?_cons_succ, n1] at z; exact z) ?_) | (refine ldb rfl _ rfl (w.heap.size + 1 + 1) 7 false rfl (by have z := Joins.cell_of_block HV.out.head 7; simp only [List.getElem?_toArray, List.getElem?_cons_zero, List.getElem?_cons_succ, n2] at z; exact z) ?_) | (refine ldi rfl _ rfl (b) 3 V rfl (Joins.cell_of_block HV.out.h2 3) ?_) | (refine ldi rfl _ rfl (w.heap.size) 14 e.lean rfl (Joins.cell_of_block HV.out.h4 14) ?_) | (refine ldb rfl _ rfl (w.heap.size + 1) 4 true rfl (by have z := Joins.cell_of_block HV.out.h3 4; simp only [List.getElem?_toArray, List.getElem?_cons_zero, List.getElem?_cons_succ, hp] at z; exact z) ?_) | fail)
        go_meet
        case rel => exact ⟨rfl, HV.out⟩
  obtain ⟨rfl, hv⟩ := hcut
  replace HV := Lib.hid hv
  clear hv HN
  go_upto_region 10 with (first | (refine st3 rfl _ _ rfl rfl _ d rfl rfl HV.out.head ?_; intro w' hP hO; replace HV := Lib.hid (HV.out.change hO hP (by have h1 := hl.out; intro x hx; simp only [List.mem_cons, List.not_mem_nil, or_false] at hx; rcases hx with rfl | rfl | rfl <;> (dsimp only; omega)) (by omega)); clear hP hO) | (refine stbd rfl _ _ rfl rfl _ _ false rfl rfl HV.out.head ?_; intro w' hP hO; replace HV := Lib.hid (HV.out.change hO hP (by have h1 := hl.out; intro x hx; simp only [List.mem_cons, List.not_mem_nil, or_false] at hx; rcases hx with rfl | rfl | rfl <;> (dsimp only; omega)) (by omega)); clear hP hO) | (refine lde rfl _ rfl _ _ rfl HV.out.h4 ?_) | (refine ldp rfl _ rfl _ p rfl HV.out.h3 ?_) | (refine ldd rfl _ rfl _ (Pl.calm d) rfl HV.out.head ?_) | (go_at_call 13; (with_reducible refine (C2.out _ HV.out.old).mono ?_); rintro r W ⟨rfl, hb⟩; replace HV := Lib.hid ((HV.out.grow hb).made (po ⟨N1, N2, NH, V, l⟩)); clear hb) | fail)
  generalize W.heap.size = b9 at *
  clear C2
  have HH : Hid (Hv w _ [(b9, po ⟨N1, N2, NH, V, l⟩), (w.heap.size + 1 + 1, dro (Pl.calm d)), (b, po ⟨M1, M2, MH, V, l⟩), (w.heap.size + 1, po p), (w.heap.size, eo e)]) := HV
  replace HV := HH
  clear HH
  cases l
  · obtain ⟨c1, c2⟩ := HC.out rfl
    have k5 : decide (N2 ≤ p.n2) = true := decide_eq_true c1
    have k6 : decide (NH ≤ p.heat) = true := decide_eq_true c2
    clear c1 c2 HC
    go_wp2_with (first | go_big_skip | (refine ldb rfl _ rfl (b9) 4 false rfl (Joins.cell_of_block HV.out.head 4) ?_) | (refine ldb rfl _ rfl (b) 4 false rfl (Joins.cell_of_block HV.out.h3 4) ?_) | (refine ldi rfl _ rfl (b9) 3 V rfl (Joins.cell_of_block HV.out.head 3) ?_) | (refine ldi rfl _ rfl (b) 3 V rfl (Joins.cell_of_block HV.out.h3 3) ?_) | (refine ldi rfl _ rfl (b9) 1 N2 rfl (Joins.cell_of_block HV.out.head 1) ?_) | (refine ldi rfl _ rfl (w.heap.size + 1) 1 p.n2 rfl (Joins.cell_of_block HV.out.h4 1) ?_) | (refine ldi rfl _ rfl (b9) 2 NH rfl (Joins.cell_of_block HV.out.head 2) ?_) | (refine ldi rfl _ rfl (w.heap.size + 1) 2 p.heat rfl (Joins.cell_of_block HV.out.h4 2) ?_) | fail)
    go_ret
    exact ⟨rfl, HV.out.old⟩
  · clear HC
    go_wp2_with (first | go_big_skip | (refine ldb rfl _ rfl (b9) 4 true rfl (Joins.cell_of_block HV.out.head 4) ?_) | (refine ldb rfl _ rfl (b) 4 true rfl (Joins.cell_of_block HV.out.h3 4) ?_) | (refine ldi rfl _ rfl (b9) 3 V rfl (Joins.cell_of_block HV.out.head 3) ?_) | (refine ldi rfl _ rfl (b) 3 V rfl (Joins.cell_of_block HV.out.h3 3) ?_) | fail)
    go_ret
    exact ⟨rfl, HV.out.old⟩
theorem PlantBurns_walk (e : Eg) (p : Pl.Pt) (d : Pl.Dr) (w : World) (hE : EngIn w e) : Calls Try.prog 5 #[.agg (ec e), .agg (pc p), .agg (dc d)] w fun r w' => r = .returned (.bool true) ∧ Below w.heap.size w w' := by
  cases h1 : fewE e with
  | false => exact burns_few e p d w h1
  | true =>
    cases h2 : Em.okB (en e) with
    | false => exact burns_no e p d w hE h1 h2
    | true =>
      cases k1 : decide (min p.n1 (min p.n2 (min p.heat p.valve)) < 0) with
      | true => exact burns_min e p d w hE h1 h2 k1
      | false =>
        cases k2 : decide (1048576 < max p.n1 (max p.n2 (max p.heat p.valve))) with
        | true => exact burns_max e p d w hE h1 h2 k1 k2
        | false => exact burns_go e p d w hE h1 h2 k1 k2

end Plw
end Go.Proofs.Ytioiffhbbhlgeaa
