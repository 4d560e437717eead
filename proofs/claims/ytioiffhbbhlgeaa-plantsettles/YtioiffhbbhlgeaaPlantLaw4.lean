/- PlantSettles. Printed by gen_law4.py. -/
import Derived.Test.YtioiffhbbhlgeaaPlantLawKit
namespace Go.Proofs.Ytioiffhbbhlgeaa
namespace Plw
open Go.RowKit TabC Lk Ew

theorem ord_settles : Lk.orderedB (Lk.opsOf Try.f6 7) [(0, false), (1, false), (2, false), (3, false), (4, false), (5, false), (6, false), (7, false), (8, false), (9, false), (10, false), (11, false), (12, false), (13, false), (14, false), (15, false), (17, false), (18, false), (16, true), (19, false), (20, false), (21, false), (22, false), (23, false), (24, false), (26, false), (27, false), (25, true), (28, false), (29, false), (30, false), (31, false), (32, false), (33, false), (35, false), (36, false), (34, true), (37, false), (38, false), (39, false)] = true := by kernel_rfl
set_option maxRecDepth 100000 in
set_option maxHeartbeats 16000000 in
theorem PlantSettles_walk (e : Eg) (p : Pl.Pt) (f : Int) (hf : 0 ≤ f ∧ f ≤ 65535) (w : World) (hE : EngIn w e) : Calls Try.prog 6 #[.agg (ec e), .agg (pc p), .int .u16 f] w fun r w' => r = .returned (.bool true) ∧ Below w.heap.size w w' := by
  have HV := Lib.hid (two_b w e p)
  have HE := Lib.hid (fun W (hW : Below w.heap.size w W) => hE.below hW)
  clear hE
  have m0 : IntKind.i64.wrap f = f := IntWalk.i64_in _ (by omega)
  replace hf := Lib.hid hf
  go_enter Try.func6, Try.ntmps6
  go_upto_region 2 with (first | (go_at_call 9; (with_reducible refine (awake_c _).mono ?_); rintro r W ⟨rfl, hb⟩; replace HV := Lib.hid (HV.out.grow hb); clear hb) | fail)
  dsimp only [List.append]
  go_cut [82] (fun t wx => ∃ bad, t = .bool bad ∧ (bad = false → Em.okB (en e) = true ∧ max e.lag2 (max e.lag1 e.lagE) ≤ 16 ∧ 0 ≤ min p.n1 (min p.n2 (min p.heat p.valve)) ∧ max p.n1 (max p.n2 p.heat) ≤ 1048576 ∧ e.lean ≤ f ∧ e.lean ≤ p.valve ∧ p.valve ≤ 2000 ∧ p.lit = true ∧ f ≤ 2000) ∧ Hv w wx [(w.heap.size + 1, po p), (w.heap.size, eo e)])
  case first =>
    cases h1 : fewE e
    · have F1 := Lib.hid (Ew.few_v h1); clear h1; go_wp2_with (first | go_big_skip | (refine lde rfl _ rfl _ _ rfl HV.out.h2 ?_) | (go_at_call 10; (with_reducible refine (F1.out _).mono ?_); rintro r W ⟨rfl, hb⟩; replace HV := Lib.hid (HV.out.grow hb); clear hb) | fail); go_meet; case rel => exact ⟨true, rfl, (fun h => by cases h), HV.out⟩
    · have F1 := Lib.hid (Ew.few_v h1)
      clear h1
      cases h2 : Em.okB (en e)
      · have F2 := Lib.hid (fun W (hW : Below w.heap.size w W) => check_no e W (HE.out W hW) h2); clear h2; go_wp2_with (first | go_big_skip | (refine lde rfl _ rfl _ _ rfl HV.out.h2 ?_) | (go_at_call 10; (with_reducible refine (F1.out _).mono ?_); rintro r W ⟨rfl, hb⟩; replace HV := Lib.hid (HV.out.grow hb); clear hb) | (go_at_call 17; (with_reducible refine (F2.out _ HV.out.old).mono ?_); rintro r W ⟨rfl, hb⟩; replace HV := Lib.hid (HV.out.grow hb); clear hb) | fail); go_meet; case rel => exact ⟨true, rfl, (fun h => by cases h), HV.out⟩
      · have F2 := Lib.hid (fun W (hW : Below w.heap.size w W) => check_ok e W (HE.out W hW) h2)
        replace h2 := Lib.hid h2
        cases k0 : decide (16 < max e.lag2 (max e.lag1 e.lagE))
        rotate_left
        · go_wp2_with (first | go_big_skip | (refine lde rfl _ rfl _ _ rfl HV.out.h2 ?_) | (go_at_call 10; (with_reducible refine (F1.out _).mono ?_); rintro r W ⟨rfl, hb⟩; replace HV := Lib.hid (HV.out.grow hb); clear hb) | (go_at_call 17; (with_reducible refine (F2.out _ HV.out.old).mono ?_); rintro r W ⟨rfl, hb⟩; replace HV := Lib.hid (HV.out.grow hb); clear hb) | (refine ldi rfl _ rfl (w.heap.size) 8 e.lag2 rfl (Joins.cell_of_block HV.out.h2 8) ?_) | (refine ldi rfl _ rfl (w.heap.size) 9 e.lag1 rfl (Joins.cell_of_block HV.out.h2 9) ?_) | (refine ldi rfl _ rfl (w.heap.size) 10 e.lagE rfl (Joins.cell_of_block HV.out.h2 10) ?_) | (refine ldi rfl _ rfl (w.heap.size) 14 e.lean rfl (Joins.cell_of_block HV.out.h2 14) ?_) | (refine ldi rfl _ rfl (w.heap.size + 1) 0 p.n1 rfl (Joins.cell_of_block HV.out.head 0) ?_) | (refine ldi rfl _ rfl (w.heap.size + 1) 1 p.n2 rfl (Joins.cell_of_block HV.out.head 1) ?_) | (refine ldi rfl _ rfl (w.heap.size + 1) 2 p.heat rfl (Joins.cell_of_block HV.out.head 2) ?_) | (refine ldi rfl _ rfl (w.heap.size + 1) 3 p.valve rfl (Joins.cell_of_block HV.out.head 3) ?_) | fail); go_meet; case rel => exact ⟨true, rfl, (fun h => by cases h), HV.out⟩
        cases k1 : decide (min p.n1 (min p.n2 (min p.heat p.valve)) < 0)
        rotate_left
        · go_wp2_with (first | go_big_skip | (refine lde rfl _ rfl _ _ rfl HV.out.h2 ?_) | (go_at_call 10; (with_reducible refine (F1.out _).mono ?_); rintro r W ⟨rfl, hb⟩; replace HV := Lib.hid (HV.out.grow hb); clear hb) | (go_at_call 17; (with_reducible refine (F2.out _ HV.out.old).mono ?_); rintro r W ⟨rfl, hb⟩; replace HV := Lib.hid (HV.out.grow hb); clear hb) | (refine ldi rfl _ rfl (w.heap.size) 8 e.lag2 rfl (Joins.cell_of_block HV.out.h2 8) ?_) | (refine ldi rfl _ rfl (w.heap.size) 9 e.lag1 rfl (Joins.cell_of_block HV.out.h2 9) ?_) | (refine ldi rfl _ rfl (w.heap.size) 10 e.lagE rfl (Joins.cell_of_block HV.out.h2 10) ?_) | (refine ldi rfl _ rfl (w.heap.size) 14 e.lean rfl (Joins.cell_of_block HV.out.h2 14) ?_) | (refine ldi rfl _ rfl (w.heap.size + 1) 0 p.n1 rfl (Joins.cell_of_block HV.out.head 0) ?_) | (refine ldi rfl _ rfl (w.heap.size + 1) 1 p.n2 rfl (Joins.cell_of_block HV.out.head 1) ?_) | (refine ldi rfl _ rfl (w.heap.size + 1) 2 p.heat rfl (Joins.cell_of_block HV.out.head 2) ?_) | (refine ldi rfl _ rfl (w.heap.size + 1) 3 p.valve rfl (Joins.cell_of_block HV.out.head 3) ?_) | fail); go_meet; case rel => exact ⟨true, rfl, (fun h => by cases h), HV.out⟩
        cases k2 : decide (1048576 < max p.n1 (max p.n2 p.heat))
        rotate_left
        · go_wp2_with (first | go_big_skip | (refine lde rfl _ rfl _ _ rfl HV.out.h2 ?_) | (go_at_call 10; (with_reducible refine (F1.out _).mono ?_); rintro r W ⟨rfl, hb⟩; replace HV := Lib.hid (HV.out.grow hb); clear hb) | (go_at_call 17; (with_reducible refine (F2.out _ HV.out.old).mono ?_); rintro r W ⟨rfl, hb⟩; replace HV := Lib.hid (HV.out.grow hb); clear hb) | (refine ldi rfl _ rfl (w.heap.size) 8 e.lag2 rfl (Joins.cell_of_block HV.out.h2 8) ?_) | (refine ldi rfl _ rfl (w.heap.size) 9 e.lag1 rfl (Joins.cell_of_block HV.out.h2 9) ?_) | (refine ldi rfl _ rfl (w.heap.size) 10 e.lagE rfl (Joins.cell_of_block HV.out.h2 10) ?_) | (refine ldi rfl _ rfl (w.heap.size) 14 e.lean rfl (Joins.cell_of_block HV.out.h2 14) ?_) | (refine ldi rfl _ rfl (w.heap.size + 1) 0 p.n1 rfl (Joins.cell_of_block HV.out.head 0) ?_) | (refine ldi rfl _ rfl (w.heap.size + 1) 1 p.n2 rfl (Joins.cell_of_block HV.out.head 1) ?_) | (refine ldi rfl _ rfl (w.heap.size + 1) 2 p.heat rfl (Joins.cell_of_block HV.out.head 2) ?_) | (refine ldi rfl _ rfl (w.heap.size + 1) 3 p.valve rfl (Joins.cell_of_block HV.out.head 3) ?_) | fail); go_meet; case rel => exact ⟨true, rfl, (fun h => by cases h), HV.out⟩
        cases k3 : decide (f < e.lean)
        rotate_left
        · go_wp2_with (first | go_big_skip | (refine lde rfl _ rfl _ _ rfl HV.out.h2 ?_) | (go_at_call 10; (with_reducible refine (F1.out _).mono ?_); rintro r W ⟨rfl, hb⟩; replace HV := Lib.hid (HV.out.grow hb); clear hb) | (go_at_call 17; (with_reducible refine (F2.out _ HV.out.old).mono ?_); rintro r W ⟨rfl, hb⟩; replace HV := Lib.hid (HV.out.grow hb); clear hb) | (refine ldi rfl _ rfl (w.heap.size) 8 e.lag2 rfl (Joins.cell_of_block HV.out.h2 8) ?_) | (refine ldi rfl _ rfl (w.heap.size) 9 e.lag1 rfl (Joins.cell_of_block HV.out.h2 9) ?_) | (refine ldi rfl _ rfl (w.heap.size) 10 e.lagE rfl (Joins.cell_of_block HV.out.h2 10) ?_) | (refine ldi rfl _ rfl (w.heap.size) 14 e.lean rfl (Joins.cell_of_block HV.out.h2 14) ?_) | (refine ldi rfl _ rfl (w.heap.size + 1) 0 p.n1 rfl (Joins.cell_of_block HV.out.head 0) ?_) | (refine ldi rfl _ rfl (w.heap.size + 1) 1 p.n2 rfl (Joins.cell_of_block HV.out.head 1) ?_) | (refine ldi rfl _ rfl (w.heap.size + 1) 2 p.heat rfl (Joins.cell_of_block HV.out.head 2) ?_) | (refine ldi rfl _ rfl (w.heap.size + 1) 3 p.valve rfl (Joins.cell_of_block HV.out.head 3) ?_) | fail); go_meet; case rel => exact ⟨true, rfl, (fun h => by cases h), HV.out⟩
        cases k4 : decide (p.valve < e.lean)
        rotate_left
        · go_wp2_with (first | go_big_skip | (refine lde rfl _ rfl _ _ rfl HV.out.h2 ?_) | (go_at_call 10; (with_reducible refine (F1.out _).mono ?_); rintro r W ⟨rfl, hb⟩; replace HV := Lib.hid (HV.out.grow hb); clear hb) | (go_at_call 17; (with_reducible refine (F2.out _ HV.out.old).mono ?_); rintro r W ⟨rfl, hb⟩; replace HV := Lib.hid (HV.out.grow hb); clear hb) | (refine ldi rfl _ rfl (w.heap.size) 8 e.lag2 rfl (Joins.cell_of_block HV.out.h2 8) ?_) | (refine ldi rfl _ rfl (w.heap.size) 9 e.lag1 rfl (Joins.cell_of_block HV.out.h2 9) ?_) | (refine ldi rfl _ rfl (w.heap.size) 10 e.lagE rfl (Joins.cell_of_block HV.out.h2 10) ?_) | (refine ldi rfl _ rfl (w.heap.size) 14 e.lean rfl (Joins.cell_of_block HV.out.h2 14) ?_) | (refine ldi rfl _ rfl (w.heap.size + 1) 0 p.n1 rfl (Joins.cell_of_block HV.out.head 0) ?_) | (refine ldi rfl _ rfl (w.heap.size + 1) 1 p.n2 rfl (Joins.cell_of_block HV.out.head 1) ?_) | (refine ldi rfl _ rfl (w.heap.size + 1) 2 p.heat rfl (Joins.cell_of_block HV.out.head 2) ?_) | (refine ldi rfl _ rfl (w.heap.size + 1) 3 p.valve rfl (Joins.cell_of_block HV.out.head 3) ?_) | fail); go_meet; case rel => exact ⟨true, rfl, (fun h => by cases h), HV.out⟩
        cases k5 : decide (2000 < p.valve)
        rotate_left
        · go_wp2_with (first | go_big_skip | (refine lde rfl _ rfl _ _ rfl HV.out.h2 ?_) | (go_at_call 10; (with_reducible refine (F1.out _).mono ?_); rintro r W ⟨rfl, hb⟩; replace HV := Lib.hid (HV.out.grow hb); clear hb) | (go_at_call 17; (with_reducible refine (F2.out _ HV.out.old).mono ?_); rintro r W ⟨rfl, hb⟩; replace HV := Lib.hid (HV.out.grow hb); clear hb) | (refine ldi rfl _ rfl (w.heap.size) 8 e.lag2 rfl (Joins.cell_of_block HV.out.h2 8) ?_) | (refine ldi rfl _ rfl (w.heap.size) 9 e.lag1 rfl (Joins.cell_of_block HV.out.h2 9) ?_) | (refine ldi rfl _ rfl (w.heap.size) 10 e.lagE rfl (Joins.cell_of_block HV.out.h2 10) ?_) | (refine ldi rfl _ rfl (w.heap.size) 14 e.lean rfl (Joins.cell_of_block HV.out.h2 14) ?_) | (refine ldi rfl _ rfl (w.heap.size + 1) 0 p.n1 rfl (Joins.cell_of_block HV.out.head 0) ?_) | (refine ldi rfl _ rfl (w.heap.size + 1) 1 p.n2 rfl (Joins.cell_of_block HV.out.head 1) ?_) | (refine ldi rfl _ rfl (w.heap.size + 1) 2 p.heat rfl (Joins.cell_of_block HV.out.head 2) ?_) | (refine ldi rfl _ rfl (w.heap.size + 1) 3 p.valve rfl (Joins.cell_of_block HV.out.head 3) ?_) | fail); go_meet; case rel => exact ⟨true, rfl, (fun h => by cases h), HV.out⟩
        cases k6 : p.lit
        · go_wp2_with (first | go_big_skip | (refine lde rfl _ rfl _ _ rfl HV.out.h2 ?_) | (go_at_call 10; (with_reducible refine (F1.out _).mono ?_); rintro r W ⟨rfl, hb⟩; replace HV := Lib.hid (HV.out.grow hb); clear hb) | (go_at_call 17; (with_reducible refine (F2.out _ HV.out.old).mono ?_); rintro r W ⟨rfl, hb⟩; replace HV := Lib.hid (HV.out.grow hb); clear hb) | (refine ldi rfl _ rfl (w.heap.size) 8 e.lag2 rfl (Joins.cell_of_block HV.out.h2 8) ?_) | (refine ldi rfl _ rfl (w.heap.size) 9 e.lag1 rfl (Joins.cell_of_block HV.out.h2 9) ?_) | (refine ldi rfl _ rfl (w.heap.size) 10 e.lagE rfl (Joins.cell_of_block HV.out.h2 10) ?_) | (refine ldi rfl _ rfl (w.heap.size) 14 e.lean rfl (Joins.cell_of_block HV.out.h2 14) ?_) | (refine ldi rfl _ rfl (w.heap.size + 1) 0 p.n1 rfl (Joins.cell_of_block HV.out.head 0) ?_) | (refine ldi rfl _ rfl (w.heap.size + 1) 1 p.n2 rfl (Joins.cell_of_block HV.out.head 1) ?_) | (refine ldi rfl _ rfl (w.heap.size + 1) 2 p.heat rfl (Joins.cell_of_block HV.out.head 2) ?_) | (refine ldi rfl _ rfl (w.heap.size + 1) 3 p.valve rfl (Joins.cell_of_block HV.out.head 3) ?_) | (refine ldb rfl _ rfl (w.heap.size + 1) 4 false rfl (by have z := Joins.cell_of_block HV.out.head 4; simp only [List.getElem?_toArray, List.getElem?_cons_zero, List.getElem?_cons_succ, k6] at z; exact z) ?_) | fail); go_meet; case rel => exact ⟨true, rfl, (fun h => by cases h), HV.out⟩
        · skip
          cases k7 : decide (2000 < f)
          rotate_left
          · go_wp2_with (first | go_big_skip | (refine lde rfl _ rfl _ _ rfl HV.out.h2 ?_) | (go_at_call 10; (with_reducible refine (F1.out _).mono ?_); rintro r W ⟨rfl, hb⟩; replace HV := Lib.hid (HV.out.grow hb); clear hb) | (go_at_call 17; (with_reducible refine (F2.out _ HV.out.old).mono ?_); rintro r W ⟨rfl, hb⟩; replace HV := Lib.hid (HV.out.grow hb); clear hb) | (refine ldi rfl _ rfl (w.heap.size) 8 e.lag2 rfl (Joins.cell_of_block HV.out.h2 8) ?_) | (refine ldi rfl _ rfl (w.heap.size) 9 e.lag1 rfl (Joins.cell_of_block HV.out.h2 9) ?_) | (refine ldi rfl _ rfl (w.heap.size) 10 e.lagE rfl (Joins.cell_of_block HV.out.h2 10) ?_) | (refine ldi rfl _ rfl (w.heap.size) 14 e.lean rfl (Joins.cell_of_block HV.out.h2 14) ?_) | (refine ldi rfl _ rfl (w.heap.size + 1) 0 p.n1 rfl (Joins.cell_of_block HV.out.head 0) ?_) | (refine ldi rfl _ rfl (w.heap.size + 1) 1 p.n2 rfl (Joins.cell_of_block HV.out.head 1) ?_) | (refine ldi rfl _ rfl (w.heap.size + 1) 2 p.heat rfl (Joins.cell_of_block HV.out.head 2) ?_) | (refine ldi rfl _ rfl (w.heap.size + 1) 3 p.valve rfl (Joins.cell_of_block HV.out.head 3) ?_) | (refine ldb rfl _ rfl (w.heap.size + 1) 4 true rfl (by have z := Joins.cell_of_block HV.out.head 4; simp only [List.getElem?_toArray, List.getElem?_cons_zero, List.getElem?_cons_succ, k6] at z; exact z) ?_) | fail); go_meet; case rel => exact ⟨true, rfl, (fun h => by cases h), HV.out⟩
          go_wp2_with (first | go_big_skip | (refine lde rfl _ rfl _ _ rfl HV.out.h2 ?_) | (go_at_call 10; (with_reducible refine (F1.out _).mono ?_); rintro r W ⟨rfl, hb⟩; replace HV := Lib.hid (HV.out.grow hb); clear hb) | (go_at_call 17; (with_reducible refine (F2.out _ HV.out.old).mono ?_); rintro r W ⟨rfl, hb⟩; replace HV := Lib.hid (HV.out.grow hb); clear hb) | (refine ldi rfl _ rfl (w.heap.size) 8 e.lag2 rfl (Joins.cell_of_block HV.out.h2 8) ?_) | (refine ldi rfl _ rfl (w.heap.size) 9 e.lag1 rfl (Joins.cell_of_block HV.out.h2 9) ?_) | (refine ldi rfl _ rfl (w.heap.size) 10 e.lagE rfl (Joins.cell_of_block HV.out.h2 10) ?_) | (refine ldi rfl _ rfl (w.heap.size) 14 e.lean rfl (Joins.cell_of_block HV.out.h2 14) ?_) | (refine ldi rfl _ rfl (w.heap.size + 1) 0 p.n1 rfl (Joins.cell_of_block HV.out.head 0) ?_) | (refine ldi rfl _ rfl (w.heap.size + 1) 1 p.n2 rfl (Joins.cell_of_block HV.out.head 1) ?_) | (refine ldi rfl _ rfl (w.heap.size + 1) 2 p.heat rfl (Joins.cell_of_block HV.out.head 2) ?_) | (refine ldi rfl _ rfl (w.heap.size + 1) 3 p.valve rfl (Joins.cell_of_block HV.out.head 3) ?_) | (refine ldb rfl _ rfl (w.heap.size + 1) 4 true rfl (by have z := Joins.cell_of_block HV.out.head 4; simp only [List.getElem?_toArray, List.getElem?_cons_zero, List.getElem?_cons_succ, k6] at z; exact z) ?_) | fail)
          go_meet
          case rel => exact ⟨false, rfl, (fun _ => ⟨h2.out, Int.not_lt.1 (of_decide_eq_false k0), Int.not_lt.1 (of_decide_eq_false k1), Int.not_lt.1 (of_decide_eq_false k2), Int.not_lt.1 (of_decide_eq_false k3), Int.not_lt.1 (of_decide_eq_false k4), Int.not_lt.1 (of_decide_eq_false k5), k6, Int.not_lt.1 (of_decide_eq_false k7)⟩), HV.out⟩
  obtain ⟨bad, rfl, hgood, hv⟩ := hcut
  replace HV := Lib.hid hv
  clear hv
  cases bad
  rotate_left
  · clear hgood
    go_wp2_with fail
    go_ret
    exact ⟨rfl, HV.out.old⟩
  obtain ⟨h2, g0, g1, g2, g3, g4, g5, g6, g7⟩ := hgood rfl
  clear hgood
  have K := Pl.fit h2
  have W0 : Pl.Wi p := ⟨by omega, by omega, by omega⟩
  have x2 : e.lag2 ≤ 16 := by omega
  have x1 : e.lag1 ≤ 16 := by omega
  have xE : e.lagE ≤ 16 := by omega
  have fb := hf.out
  obtain ⟨q, hq⟩ : ∃ q, Pl.runs (en e) p (Pl.burn f) 3000 = q := ⟨_, rfl⟩
  have S := Pl.burns_settle (e := en e) h2 x2 x1 xE W0 (show e.lean ≤ f by omega) (by omega) (show e.lean ≤ p.valve by omega) (by omega) g6 hq
  have WI := Pl.runs_wi (d := Pl.burn f) h2 W0 3000
  rw [hq] at WI
  have C1 : Hid (∀ W, Below w.heap.size w W → Calls Try.prog 18 #[.agg (ec e), .agg (pc p), .agg #[.int .i64 f, .bool true, .bool false, .bool false, .int .i64 0, .int .i64 0, .int .i64 0, .bool false], .int .i64 3000] W fun r w' => r = .returned (.agg (pc q)) ∧ Below W.heap.size W w') := Lib.hid (fun W hW => by
    have := run_c e p (Pl.burn f) 3000 W (HE.out W hW)
    rw [if_neg (by decide), show (3000 : Int).toNat = 3000 from rfl, hq] at this
    exact this)
  have C2 := Lib.hid (fun W (hW : Below w.heap.size w W) => rest_ok e f W (HE.out W hW) h2)
  have B2 : 0 ≤ Em.n2 (en e) f ∧ Em.n2 (en e) f ≤ 1048576 := Em.n2_bd K.ok f
  have BH : 0 ≤ Em.ht (en e) f ∧ Em.ht (en e) f ≤ 1048576 := Em.ht_bd K.ok f
  obtain ⟨Q1, Q2, QH, QV, ql⟩ := q
  obtain ⟨s1, s2, s3, s4, s5⟩ := S
  simp only at s1 s2 s3 s4 s5 WI
  have w1 : 0 ≤ Q1 ∧ Q1 ≤ 1048576 := WI.a
  have w2 : 0 ≤ Q2 ∧ Q2 ≤ 1048576 := WI.b
  have w3 : 0 ≤ QH ∧ QH ≤ 1048576 := WI.c
  subst s1
  replace s2 := s2.symm
  subst s2
  have BQ : 0 ≤ Tb.atO e.q.xs e.q.ys Q2 ∧ Tb.atO e.q.xs e.q.ys Q2 ≤ 1048576 := Tb.at_bd K.ok.q.ok Q2
  have C3 := Lib.hid (fun W (hW : Below w.heap.size w W) => (show Tb.atv e.q.xs e.q.ys Q2 = Tb.atO e.q.xs e.q.ys Q2 from atv_of K.ok.q.ok Q2) ▸ atv_c e.q.A e.q.B e.q.ca e.q.cb e.q.xs e.q.ys Q2 W (HE.out W hW).q)
  have D1 := Lib.hid (fun W => apart_c Q2 (Em.n2 (en e) f) W w2 B2)
  have D2 := Lib.hid (fun W => apart_c Q1 (Tb.atO e.q.xs e.q.ys Q2) W w1 BQ)
  have D3 := Lib.hid (fun W => apart_c QH (Em.ht (en e) f) W w3 BH)
  have t1 : decide (Pl.dist Q2 (Em.n2 (en e) f) < e.lag2) = true := decide_eq_true s3
  have t2 : decide (Pl.dist Q1 (Tb.atO e.q.xs e.q.ys Q2) < e.lag1) = true := decide_eq_true s4
  have t3 : decide (Pl.dist QH (Em.ht (en e) f) < e.lagE) = true := decide_eq_true s5
  generalize Pl.dist Q2 (Em.n2 (en e) f) = z1 at *
  generalize Pl.dist Q1 (Tb.atO e.q.xs e.q.ys Q2) = z2 at *
  generalize Pl.dist QH (Em.ht (en e) f) = z3 at *
  generalize Em.n2 (en e) f = R2 at *
  generalize Em.n1 (en e) f = R1 at *
  generalize Em.ht (en e) f = RH at *
  generalize Tb.atO e.q.xs e.q.ys Q2 = A1 at *
  clear s3 s4 s5 w1 w2 w3 BQ B2 BH WI W0 x1 x2 xE K h2 g0 g1 g2 g3 g4 g5 g6 g7 fb hf HE hq
  go_upto_region 5 with (first | (refine lde rfl _ rfl _ _ rfl HV.out.h2 ?_) | (refine ldp rfl _ rfl _ p rfl HV.out.head ?_) | (go_at_call 18; (with_reducible refine (C1.out _ HV.out.old).mono ?_); rintro r W ⟨rfl, hb⟩; replace HV := Lib.hid ((HV.out.grow hb).made (po ⟨Q1, Q2, QH, f, true⟩)); clear hb) | fail)
  generalize W.heap.size = b at *
  go_wp2_with (first | (refine lde rfl _ rfl _ _ rfl HV.out.h3 ?_) | (go_at_call 19; (with_reducible refine (C2.out _ HV.out.old).mono ?_); rintro r W ⟨rfl, hb⟩; replace HV := Lib.hid (HV.out.grow hb); clear hb) | (refine ldi rfl _ rfl (b) 1 Q2 rfl (Joins.cell_of_block HV.out.head 1) ?_) | (refine ldt rfl _ rfl (w.heap.size) 4 e.q rfl (eo_q HV.out.h3) ?_) | (go_at_call 20; (with_reducible refine (C3.out _ HV.out.old).mono ?_); rintro r W ⟨rfl, hb⟩; replace HV := Lib.hid (HV.out.grow hb); clear hb) | fail)
  clear C1 C2 C3
  refine wp_region_noPanic (Lk.wp_region_ordered ord_settles (fun V => SZ V b w.heap.size e ⟨Q1, Q2, QH, f, true⟩) (by kernel_rfl) (by kernel_rfl) (fun _ _ _ _ _ h => h) (by first | (with_reducible exact (sz HV.out)) | (with_reducible exact (sz HV.out.drew))) ?_)
  replace HV := Lib.hid HV.out.drew
  iterate 18 (refine Lk.ord_take ?_ rfl rfl ?_ ?_; rotate_left; (focus (intro w' hS; (try dsimp only at hS); go_simp; try with_reducible rfl)); simp only [Act.put, List.setIfInBounds_toArray, List.set_cons_zero, List.set_cons_succ])
  refine Lk.ord_step rfl rfl (fun K hK => ?_)
  go_simp
  (with_reducible refine (D1.out _).mono ?_)
  rintro r W ⟨rfl, rfl⟩
  refine hK.out _ _ (by first | (with_reducible exact (sz HV.out)) | (with_reducible exact (sz HV.out.drew))) ?_
  clear hK K
  try simp only [Act.put, List.setIfInBounds_toArray, List.set_cons_zero, List.set_cons_succ]
  iterate 8 (refine Lk.ord_take ?_ rfl rfl ?_ ?_; rotate_left; (focus (intro w' hS; (try dsimp only at hS); go_simp; try with_reducible rfl)); simp only [Act.put, List.setIfInBounds_toArray, List.set_cons_zero, List.set_cons_succ])
  refine Lk.ord_step rfl rfl (fun K hK => ?_)
  go_simp
  (with_reducible refine (D2.out _).mono ?_)
  rintro r W ⟨rfl, rfl⟩
  refine hK.out _ _ (by first | (with_reducible exact (sz HV.out)) | (with_reducible exact (sz HV.out.drew))) ?_
  clear hK K
  try simp only [Act.put, List.setIfInBounds_toArray, List.set_cons_zero, List.set_cons_succ]
  iterate 8 (refine Lk.ord_take ?_ rfl rfl ?_ ?_; rotate_left; (focus (intro w' hS; (try dsimp only at hS); go_simp; try with_reducible rfl)); simp only [Act.put, List.setIfInBounds_toArray, List.set_cons_zero, List.set_cons_succ])
  refine Lk.ord_step rfl rfl (fun K hK => ?_)
  go_simp
  (with_reducible refine (D3.out _).mono ?_)
  rintro r W ⟨rfl, rfl⟩
  refine hK.out _ _ (by first | (with_reducible exact (sz HV.out)) | (with_reducible exact (sz HV.out.drew))) ?_
  clear hK K
  try simp only [Act.put, List.setIfInBounds_toArray, List.set_cons_zero, List.set_cons_succ]
  iterate 3 (refine Lk.ord_take ?_ rfl rfl ?_ ?_; rotate_left; (focus (intro w' hS; (try dsimp only at hS); go_simp; try with_reducible rfl)); simp only [Act.put, List.setIfInBounds_toArray, List.set_cons_zero, List.set_cons_succ])
  refine Lk.ord_nil (NoPanic.normal ?_)
  go_wp2_with fail
  go_ret
  exact ⟨rfl, HV.out.old⟩

end Plw
end Go.Proofs.Ytioiffhbbhlgeaa
