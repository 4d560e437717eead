/- PlantStops. Printed by gen_law4.py. -/
import Derived.Test.YtioiffhbbhlgeaaPlantLawKit
namespace Go.Proofs.Ytioiffhbbhlgeaa
namespace Plw
open Go.RowKit TabC Lk Ew

theorem ord_stops : Lk.orderedB (Lk.opsOf Try.f7 8) [(0, false), (1, false), (2, false), (3, false), (4, false), (5, false), (6, false), (7, false), (8, false), (9, false), (11, false), (12, false), (10, true), (13, false), (14, false), (15, false), (16, false), (17, false), (18, false), (19, false), (20, false), (21, false), (24, false), (25, false), (22, true), (23, true), (26, false), (27, false), (28, false), (29, false), (30, false), (31, false), (32, false), (33, false), (34, false), (35, false)] = true := by kernel_rfl
set_option maxRecDepth 100000 in
set_option maxHeartbeats 16000000 in
theorem PlantStops_walk (e : Eg) (p : Pl.Pt) (st : Bool) (w : World) (hE : EngIn w e) : Calls Try.prog 7 #[.agg (ec e), .agg (pc p), .bool st] w fun r w' => r = .returned (.bool true) ∧ Below w.heap.size w w' := by
  have HV := Lib.hid (two_b w e p)
  have HE := Lib.hid (fun W (hW : Below w.heap.size w W) => hE.below hW)
  clear hE
  go_enter Try.func7, Try.ntmps7
  go_upto_region 2 with (first | (go_at_call 9; (with_reducible refine (awake_c _).mono ?_); rintro r W ⟨rfl, hb⟩; replace HV := Lib.hid (HV.out.grow hb); clear hb) | fail)
  try dsimp only [List.append]
  go_cut [50] (fun t wx => ∃ bad, t = .bool bad ∧ (bad = false → Em.okB (en e) = true ∧ max e.lag2 (max e.lag1 e.lagE) ≤ 16 ∧ 0 ≤ min p.n1 (min p.n2 (min p.heat p.valve)) ∧ max p.n1 (max p.n2 p.heat) ≤ 1048576) ∧ Hv w wx [(w.heap.size + 1, po p), (w.heap.size, eo e)])
  case first =>
    cases h1 : fewE e
    · have F1 := Lib.hid (Ew.few_v h1); clear h1; go_wp2_with (first | go_big_skip | (refine lde rfl _ rfl _ _ rfl HV.out.h2 ?_) | (go_at_call 10; (with_reducible refine (F1.out _).mono ?_); rintro r W ⟨rfl, hb⟩; replace HV := Lib.hid (HV.out.grow hb); clear hb) | fail); go_meet; case rel => exact ⟨true, rfl, (fun h => by cases h), HV.out⟩
    · have F1 := Lib.hid (Ew.few_v h1)
      clear h1
      cases h2 : Em.okB (en e)
      · have F2 := Lib.hid (fun W (hW : Below w.heap.size w W) => check_no e W (HE.out W hW) h2); clear h2; go_wp2_with (first | go_big_skip | (refine lde rfl _ rfl _ _ rfl HV.out.h2 ?_) | (go_at_call 10; (with_reducible refine (F1.out _).mono ?_); rintro r W ⟨rfl, hb⟩; replace HV := Lib.hid (HV.out.grow hb); clear hb) | (go_at_call 17; (with_reducible refine (F2.out _ HV.out.old).mono ?_); rintro r W ⟨rfl, hb⟩; replace HV := Lib.hid (HV.out.grow hb); clear hb) | fail); go_meet; case rel => exact ⟨true, rfl, (fun h => by cases h), HV.out⟩
      · have F2 := Lib.hid (fun W (hW : Below w.heap.size w W) => check_ok e W (HE.out W hW) h2)
        replace h2 := Lib.hid h2
        cases k0 : decide (16 < max e.lag2 (max e.lag1 e.lagE))
        rotate_left
        · go_wp2_with (first | go_big_skip | (refine lde rfl _ rfl _ _ rfl HV.out.h2 ?_) | (go_at_call 10; (with_reducible refine (F1.out _).mono ?_); rintro r W ⟨rfl, hb⟩; replace HV := Lib.hid (HV.out.grow hb); clear hb) | (go_at_call 17; (with_reducible refine (F2.out _ HV.out.old).mono ?_); rintro r W ⟨rfl, hb⟩; replace HV := Lib.hid (HV.out.grow hb); clear hb) | (refine ldi rfl _ rfl (w.heap.size) 8 e.lag2 rfl (Joins.cell_of_block HV.out.h2 8) ?_) | (refine ldi rfl _ rfl (w.heap.size) 9 e.lag1 rfl (Joins.cell_of_block HV.out.h2 9) ?_) | (refine ldi rfl _ rfl (w.heap.size) 10 e.lagE rfl (Joins.cell_of_block HV.out.h2 10) ?_) | (refine ldi rfl _ rfl (w.heap.size) 14 e.lean rfl (Joins.cell_of_block HV.out.h2 14) ?_) | (refine ldi rfl _ rfl (w.heap.size + 1) 0 p.n1 rfl (Joins.cell_of_block HV.out.head 0) ?_) | (refine ldi rfl _ rfl (w.heap.size + 1) 1 p.n2 rfl (Joins.cell_of_block HV.out.head 1) ?_) | (refine ldi rfl _ rfl (w.heap.size + 1) 2 p.heat rfl (Joins.cell_of_block HV.out.head 2) ?_) | (refine ldi rfl _ rfl (w.heap.size + 1) 3 p.valve rfl (Joins.cell_of_block HV.out.head 3) ?_) | fail); go_meet; case rel => exact ⟨true, rfl, (fun h => by cases h), HV.out⟩
        cases k1 : decide (min p.n1 (min p.n2 (min p.heat p.valve)) < 0)
        rotate_left
        · go_wp2_with (first | go_big_skip | (refine lde rfl _ rfl _ _ rfl HV.out.h2 ?_) | (go_at_call 10; (with_reducible refine (F1.out _).mono ?_); rintro r W ⟨rfl, hb⟩; replace HV := Lib.hid (HV.out.grow hb); clear hb) | (go_at_call 17; (with_reducible refine (F2.out _ HV.out.old).mono ?_); rintro r W ⟨rfl, hb⟩; replace HV := Lib.hid (HV.out.grow hb); clear hb) | (refine ldi rfl _ rfl (w.heap.size) 8 e.lag2 rfl (Joins.cell_of_block HV.out.h2 8) ?_) | (refine ldi rfl _ rfl (w.heap.size) 9 e.lag1 rfl (Joins.cell_of_block HV.out.h2 9) ?_) | (refine ldi rfl _ rfl (w.heap.size) 10 e.lagE rfl (Joins.cell_of_block HV.out.h2 10) ?_) | (refine ldi rfl _ rfl (w.heap.size) 14 e.lean rfl (Joins.cell_of_block HV.out.h2 14) ?_) | (refine ldi rfl _ rfl (w.heap.size + 1) 0 p.n1 rfl (Joins.cell_of_block HV.out.head 0) ?_) | (refine ldi rfl _ rfl (w.heap.size + 1) 1 p.n2 rfl (Joins.cell_of_block HV.out.head 1) ?_) | (refine ldi rfl _ rfl (w.heap.size + 1) 2 p.heat rfl (Joins.cell_of_block HV.out.head 2) ?_) | (refine ldi rfl _ rfl (w.heap.size + 1) 3 p.valve rfl (Joins.cell_of_block HV.out.head 3) ?_) | fail); go_meet; case rel => exact ⟨true, rfl, (fun h => by cases h), HV.out⟩
        cases k2 : decide (1048576 < max p.n1 (max p.n2 p.heat))
        rotate_left
        · go_wp2_with (first | go_big_skip | (refine lde rfl _ rfl _ _ rfl HV.out.h2 ?_) | (go_at_call 10; (with_reducible refine (F1.out _).mono ?_); rintro r W ⟨rfl, hb⟩; replace HV := Lib.hid (HV.out.grow hb); clear hb) | (go_at_call 17; (with_reducible refine (F2.out _ HV.out.old).mono ?_); rintro r W ⟨rfl, hb⟩; replace HV := Lib.hid (HV.out.grow hb); clear hb) | (refine ldi rfl _ rfl (w.heap.size) 8 e.lag2 rfl (Joins.cell_of_block HV.out.h2 8) ?_) | (refine ldi rfl _ rfl (w.heap.size) 9 e.lag1 rfl (Joins.cell_of_block HV.out.h2 9) ?_) | (refine ldi rfl _ rfl (w.heap.size) 10 e.lagE rfl (Joins.cell_of_block HV.out.h2 10) ?_) | (refine ldi rfl _ rfl (w.heap.size) 14 e.lean rfl (Joins.cell_of_block HV.out.h2 14) ?_) | (refine ldi rfl _ rfl (w.heap.size + 1) 0 p.n1 rfl (Joins.cell_of_block HV.out.head 0) ?_) | (refine ldi rfl _ rfl (w.heap.size + 1) 1 p.n2 rfl (Joins.cell_of_block HV.out.head 1) ?_) | (refine ldi rfl _ rfl (w.heap.size + 1) 2 p.heat rfl (Joins.cell_of_block HV.out.head 2) ?_) | (refine ldi rfl _ rfl (w.heap.size + 1) 3 p.valve rfl (Joins.cell_of_block HV.out.head 3) ?_) | fail); go_meet; case rel => exact ⟨true, rfl, (fun h => by cases h), HV.out⟩
        go_wp2_with (first | go_big_skip | (refine lde rfl _ rfl _ _ rfl HV.out.h2 ?_) | (go_at_call 10; (with_reducible refine (F1.out _).mono ?_); rintro r W ⟨rfl, hb⟩; replace HV := Lib.hid (HV.out.grow hb); clear hb) | (go_at_call 17; (with_reducible refine (F2.out _ HV.out.old).mono ?_); rintro r W ⟨rfl, hb⟩; replace HV := Lib.hid (HV.out.grow hb); clear hb) | (refine ldi rfl _ rfl (w.heap.size) 8 e.lag2 rfl (Joins.cell_of_block HV.out.h2 8) ?_) | (refine ldi rfl _ rfl (w.heap.size) 9 e.lag1 rfl (Joins.cell_of_block HV.out.h2 9) ?_) | (refine ldi rfl _ rfl (w.heap.size) 10 e.lagE rfl (Joins.cell_of_block HV.out.h2 10) ?_) | (refine ldi rfl _ rfl (w.heap.size) 14 e.lean rfl (Joins.cell_of_block HV.out.h2 14) ?_) | (refine ldi rfl _ rfl (w.heap.size + 1) 0 p.n1 rfl (Joins.cell_of_block HV.out.head 0) ?_) | (refine ldi rfl _ rfl (w.heap.size + 1) 1 p.n2 rfl (Joins.cell_of_block HV.out.head 1) ?_) | (refine ldi rfl _ rfl (w.heap.size + 1) 2 p.heat rfl (Joins.cell_of_block HV.out.head 2) ?_) | (refine ldi rfl _ rfl (w.heap.size + 1) 3 p.valve rfl (Joins.cell_of_block HV.out.head 3) ?_) | fail)
        go_meet
        case rel => exact ⟨false, rfl, (fun _ => ⟨h2.out, Int.not_lt.1 (of_decide_eq_false k0), Int.not_lt.1 (of_decide_eq_false k1), Int.not_lt.1 (of_decide_eq_false k2)⟩), HV.out⟩
  obtain ⟨bad, rfl, hgood, hv⟩ := hcut
  replace HV := Lib.hid hv
  clear hv
  cases bad
  rotate_left
  · clear hgood
    go_wp2_with fail
    go_ret
    exact ⟨rfl, HV.out.old⟩
  obtain ⟨h2, g0, g1, g2⟩ := hgood rfl
  clear hgood
  have K := Pl.fit h2
  have W0 : Pl.Wi p := ⟨by omega, by omega, by omega⟩
  have x2 : e.lag2 ≤ 16 := by omega
  have x1 : e.lag1 ≤ 16 := by omega
  have xE : e.lagE ≤ 16 := by omega
  obtain ⟨q, hq⟩ : ∃ q, Pl.runs (en e) p (Pl.spin st) 2000 = q := ⟨_, rfl⟩
  have S := Pl.spins_settle (e := en e) h2 x2 x1 xE W0 st hq
  have WI := Pl.runs_wi (d := Pl.spin st) h2 W0 2000
  rw [hq] at WI
  have C1 : Hid (∀ W, Below w.heap.size w W → Calls Try.prog 18 #[.agg (ec e), .agg (pc p), .agg #[.int .i64 0, .bool false, .bool false, .bool st, .int .i64 0, .int .i64 0, .int .i64 0, .bool false], .int .i64 2000] W fun r w' => r = .returned (.agg (pc q)) ∧ Below W.heap.size W w') := Lib.hid (fun W hW => by
    have := run_c e p (Pl.spin st) 2000 W (HE.out W hW)
    rw [if_neg (by decide), show (2000 : Int).toNat = 2000 from rfl, hq] at this
    exact this)
  have SB : 0 ≤ e.starter ∧ e.starter ≤ 1048576 := K.st
  obtain ⟨Q1, Q2, QH, QV, ql⟩ := q
  obtain ⟨s1, s3, s4, s5⟩ := S
  simp only at s1 s3 s4 s5 WI
  have w1 : 0 ≤ Q1 ∧ Q1 ≤ 1048576 := WI.a
  have w2 : 0 ≤ Q2 ∧ Q2 ≤ 1048576 := WI.b
  subst s1
  have BQ : 0 ≤ Tb.atO e.q.xs e.q.ys Q2 ∧ Tb.atO e.q.xs e.q.ys Q2 ≤ 1048576 := Tb.at_bd K.ok.q.ok Q2
  have C3 := Lib.hid (fun W (hW : Below w.heap.size w W) => (show Tb.atv e.q.xs e.q.ys Q2 = Tb.atO e.q.xs e.q.ys Q2 from atv_of K.ok.q.ok Q2) ▸ atv_c e.q.A e.q.B e.q.ca e.q.cb e.q.xs e.q.ys Q2 W (HE.out W hW).q)
  have e0 : (if st = true then (en e).starter else 0) = (if st = true then e.starter else 0) := rfl
  rw [e0] at s3
  obtain ⟨wt, hwt⟩ : ∃ x, (if st = true then e.starter else 0) = x := ⟨_, rfl⟩
  rw [hwt] at s3
  have bw : 0 ≤ wt ∧ wt ≤ 1048576 := by rw [← hwt]; split <;> omega
  have HW := Lib.hid hwt
  have D1 := Lib.hid (fun W => apart_c Q2 wt W w2 bw)
  have D2 := Lib.hid (fun W => apart_c Q1 (Tb.atO e.q.xs e.q.ys Q2) W w1 BQ)
  have t1 : decide (Pl.dist Q2 wt < e.lag2) = true := decide_eq_true s3
  have t2 : decide (Pl.dist Q1 (Tb.atO e.q.xs e.q.ys Q2) < e.lag1) = true := decide_eq_true s4
  have t3 : decide (QH < e.lagE) = true := decide_eq_true s5
  generalize Pl.dist Q2 wt = z1 at *
  generalize Pl.dist Q1 (Tb.atO e.q.xs e.q.ys Q2) = z2 at *
  generalize Tb.atO e.q.xs e.q.ys Q2 = A1 at *
  clear s3 s4 s5 w1 w2 BQ WI W0 x1 x2 xE K h2 g0 g1 g2 HE hq e0 hwt bw SB
  go_upto_region 5 with (first | (refine lde rfl _ rfl _ _ rfl HV.out.h2 ?_) | (refine ldp rfl _ rfl _ p rfl HV.out.head ?_) | (go_at_call 18; (with_reducible refine (C1.out _ HV.out.old).mono ?_); rintro r W ⟨rfl, hb⟩; replace HV := Lib.hid ((HV.out.grow hb).made (po ⟨Q1, Q2, QH, QV, false⟩)); clear hb) | fail)
  generalize W.heap.size = b at *
  clear C1
  go_upto_if 57 with fail
  try simp only [Act.put, List.setIfInBounds_toArray, List.set_cons_zero, List.set_cons_succ]
  go_cut [9] (fun t wx => t = .int .i64 wt ∧ Hv w wx [(b, po ⟨Q1, Q2, QH, QV, false⟩), (w.heap.size + 1, po p), (w.heap.size, eo e)])
  case first =>
    have eW := HW.out
    clear D1 D2 C3 t1 t2 t3 HW
    cases st
    · replace eW : 0 = wt := eW
      subst eW
      go_wp2_with fail
      go_meet
      case rel => exact ⟨rfl, HV.out⟩
    · replace eW : e.starter = wt := eW
      subst eW
      go_wp2_with (first | (refine ldi rfl _ rfl (w.heap.size) 12 e.starter rfl (Joins.cell_of_block HV.out.h3 12) ?_) | fail)
      go_meet
      case rel => exact ⟨rfl, HV.out⟩
  obtain ⟨rfl, hv⟩ := hcut
  replace HV := Lib.hid hv
  clear hv HW
  go_wp2_with fail
  refine wp_region_noPanic (Lk.wp_region_ordered ord_stops (fun V => SZ V b w.heap.size e ⟨Q1, Q2, QH, QV, false⟩) (by kernel_rfl) (by kernel_rfl) (fun _ _ _ _ _ h => h) (by first | (with_reducible exact (sz HV.out)) | (with_reducible exact (sz HV.out.drew))) ?_)
  replace HV := Lib.hid HV.out.drew
  iterate 12 (refine Lk.ord_take ?_ rfl rfl ?_ ?_; rotate_left; (focus (intro w' hS; (try dsimp only at hS); go_simp; try with_reducible rfl)); simp only [Act.put, List.setIfInBounds_toArray, List.set_cons_zero, List.set_cons_succ])
  refine Lk.ord_step rfl rfl (fun K hK => ?_)
  go_simp
  (with_reducible refine (D1.out _).mono ?_)
  rintro r W ⟨rfl, rfl⟩
  refine hK.out _ _ (by first | (with_reducible exact (sz HV.out)) | (with_reducible exact (sz HV.out.drew))) ?_
  clear hK K
  try simp only [Act.put, List.setIfInBounds_toArray, List.set_cons_zero, List.set_cons_succ]
  iterate 11 (refine Lk.ord_take ?_ rfl rfl ?_ ?_; rotate_left; (focus (intro w' hS; (try dsimp only at hS); go_simp; try with_reducible rfl)); simp only [Act.put, List.setIfInBounds_toArray, List.set_cons_zero, List.set_cons_succ])
  refine Lk.ord_step rfl rfl (fun K hK => ?_)
  go_simp
  (with_reducible refine (C3.out _ HV.out.old).mono ?_)
  rintro r W ⟨rfl, hb⟩
  replace HV := Lib.hid (HV.out.grow hb)
  clear hb
  refine hK.out _ _ (by first | (with_reducible exact (sz HV.out)) | (with_reducible exact (sz HV.out.drew))) ?_
  clear hK K
  try simp only [Act.put, List.setIfInBounds_toArray, List.set_cons_zero, List.set_cons_succ]
  refine Lk.ord_step rfl rfl (fun K hK => ?_)
  go_simp
  (with_reducible refine (D2.out _).mono ?_)
  rintro r W ⟨rfl, rfl⟩
  refine hK.out _ _ (by first | (with_reducible exact (sz HV.out)) | (with_reducible exact (sz HV.out.drew))) ?_
  clear hK K
  try simp only [Act.put, List.setIfInBounds_toArray, List.set_cons_zero, List.set_cons_succ]
  iterate 10 (refine Lk.ord_take ?_ rfl rfl ?_ ?_; rotate_left; (focus (intro w' hS; (try dsimp only at hS); go_simp; try with_reducible rfl)); simp only [Act.put, List.setIfInBounds_toArray, List.set_cons_zero, List.set_cons_succ])
  refine Lk.ord_nil (NoPanic.normal ?_)
  go_wp2_with fail
  go_ret
  exact ⟨rfl, HV.out.old⟩

end Plw
end Go.Proofs.Ytioiffhbbhlgeaa
