/- The walk of ScheduleRises. Printed by gen_law3.py. -/
import Derived.Test.YthjnodchmedlfaaScheduleLaw2
namespace Go.Proofs.Ythjnodchmedlfaa
namespace Hw
open Go.RowKit TabC Lk Ew

set_option maxRecDepth 100000 in
set_option maxHeartbeats 4000000 in
theorem ScheduleRises_few1 (e : Eg) (l : Lg) (a b n m : Int) (w : World) (h1 : fewL l = false) : Calls Try.prog 5 #[.agg (ec e), .agg (lc l), .int .i64 a, .int .i64 b, .int .i64 n, .int .u16 m] w fun r w' => r = .returned (.bool true) ∧ Below w.heap.size w w' := by
  have HV := Lib.hid (two_el w e l)
  have F1 := Lib.hid (fewl_v h1)
  clear h1
  go_enter Try.func5, Try.ntmps5
  go_upto_region 1 with fail
  generalize hE : Value.agg (ec e) = E at *
  generalize hL : Value.agg (lc l) = L at *
  go_wp2_with (first | (refine ldE hE rfl _ rfl _ rfl HV.out.h2 ?_) | (refine ldL hL rfl _ rfl _ rfl HV.out.head ?_) | (go_at_call 7; (with_reducible refine (awake_c _).mono ?_); rintro r W ⟨rfl, hb⟩; replace HV := Lib.hid (HV.out.grow hb); clear hb) | (go_at_call 8; (with_reducible refine (F1.out _).mono ?_); rintro r W ⟨rfl, hb⟩; replace HV := Lib.hid (HV.out.grow hb); clear hb) | fail)
  go_ret
  exact ⟨rfl, HV.out.old⟩

set_option maxRecDepth 100000 in
set_option maxHeartbeats 4000000 in
theorem ScheduleRises_few2 (e : Eg) (l : Lg) (a b n m : Int) (w : World) (h1 : fewL l = true) (h2 : fewE e = false) : Calls Try.prog 5 #[.agg (ec e), .agg (lc l), .int .i64 a, .int .i64 b, .int .i64 n, .int .u16 m] w fun r w' => r = .returned (.bool true) ∧ Below w.heap.size w w' := by
  have HV := Lib.hid (two_el w e l)
  have F1 := Lib.hid (fewl_v h1)
  have F2 := Lib.hid (Ew.few_v h2)
  clear h1 h2
  go_enter Try.func5, Try.ntmps5
  go_upto_region 1 with fail
  generalize hE : Value.agg (ec e) = E at *
  generalize hL : Value.agg (lc l) = L at *
  go_wp2_with (first | (refine ldE hE rfl _ rfl _ rfl HV.out.h2 ?_) | (refine ldL hL rfl _ rfl _ rfl HV.out.head ?_) | (go_at_call 7; (with_reducible refine (awake_c _).mono ?_); rintro r W ⟨rfl, hb⟩; replace HV := Lib.hid (HV.out.grow hb); clear hb) | (go_at_call 8; (with_reducible refine (F1.out _).mono ?_); rintro r W ⟨rfl, hb⟩; replace HV := Lib.hid (HV.out.grow hb); clear hb) | (go_at_call 9; (with_reducible refine (F2.out _).mono ?_); rintro r W ⟨rfl, hb⟩; replace HV := Lib.hid (HV.out.grow hb); clear hb) | fail)
  go_ret
  exact ⟨rfl, HV.out.old⟩

set_option maxRecDepth 100000 in
set_option maxHeartbeats 4000000 in
theorem Rises_fall (e : Eg) (l : Lg) (a b n m : Int) (w : World) (h1 : fewL l = true) (h2 : fewE e = true) (hb : b < a) : Calls Try.prog 5 #[.agg (ec e), .agg (lc l), .int .i64 a, .int .i64 b, .int .i64 n, .int .u16 m] w fun r w' => r = .returned (.bool true) ∧ Below w.heap.size w w' := by
  have HV := Lib.hid (two_el w e l)
  have F1 := Lib.hid (fewl_v h1)
  have F2 := Lib.hid (Ew.few_v h2)
  have d1 : decide (b < a) = true := decide_eq_true hb
  clear h1 h2 hb
  go_enter Try.func5, Try.ntmps5
  go_upto_region 1 with fail
  generalize hE : Value.agg (ec e) = E at *
  generalize hL : Value.agg (lc l) = L at *
  go_wp2_with (first | (refine ldE hE rfl _ rfl _ rfl HV.out.h2 ?_) | (refine ldL hL rfl _ rfl _ rfl HV.out.head ?_) | (go_at_call 7; (with_reducible refine (awake_c _).mono ?_); rintro r W ⟨rfl, hb⟩; replace HV := Lib.hid (HV.out.grow hb); clear hb) | (go_at_call 8; (with_reducible refine (F1.out _).mono ?_); rintro r W ⟨rfl, hb⟩; replace HV := Lib.hid (HV.out.grow hb); clear hb) | (go_at_call 9; (with_reducible refine (F2.out _).mono ?_); rintro r W ⟨rfl, hb⟩; replace HV := Lib.hid (HV.out.grow hb); clear hb) | fail | fail)
  go_ret
  exact ⟨rfl, HV.out.old⟩

set_option maxRecDepth 100000 in
set_option maxHeartbeats 4000000 in
theorem Rises_far (e : Eg) (l : Lg) (a b n m : Int) (w : World) (h1 : fewL l = true) (h2 : fewE e = true) (hb : ¬ b < a) (hn : 1099511627776 < n) : Calls Try.prog 5 #[.agg (ec e), .agg (lc l), .int .i64 a, .int .i64 b, .int .i64 n, .int .u16 m] w fun r w' => r = .returned (.bool true) ∧ Below w.heap.size w w' := by
  have HV := Lib.hid (two_el w e l)
  have F1 := Lib.hid (fewl_v h1)
  have F2 := Lib.hid (Ew.few_v h2)
  have d1 : decide (b < a) = false := decide_eq_false hb
  have d2 : decide (1099511627776 < n) = true := decide_eq_true hn
  clear h1 h2 hb hn
  go_enter Try.func5, Try.ntmps5
  go_upto_region 1 with fail
  generalize hE : Value.agg (ec e) = E at *
  generalize hL : Value.agg (lc l) = L at *
  go_wp2_with (first | (refine ldE hE rfl _ rfl _ rfl HV.out.h2 ?_) | (refine ldL hL rfl _ rfl _ rfl HV.out.head ?_) | (go_at_call 7; (with_reducible refine (awake_c _).mono ?_); rintro r W ⟨rfl, hb⟩; replace HV := Lib.hid (HV.out.grow hb); clear hb) | (go_at_call 8; (with_reducible refine (F1.out _).mono ?_); rintro r W ⟨rfl, hb⟩; replace HV := Lib.hid (HV.out.grow hb); clear hb) | (go_at_call 9; (with_reducible refine (F2.out _).mono ?_); rintro r W ⟨rfl, hb⟩; replace HV := Lib.hid (HV.out.grow hb); clear hb) | fail | fail)
  go_ret
  exact ⟨rfl, HV.out.old⟩

theorem ord_r4 : Lk.orderedB (Lk.opsOf Try.f5 4) [(0, false), (1, false), (3, false), (4, false), (2, true), (5, true), (6, false), (7, false), (8, false), (9, false), (10, false), (12, false), (13, false), (14, false), (11, true), (15, true), (16, false), (17, false), (18, false)] = true := by kernel_rfl
theorem ord_r5 : Lk.orderedB (Lk.opsOf Try.f5 5) [(0, false), (1, true), (2, false), (3, false), (4, false), (5, false), (6, false), (8, false), (9, false), (10, false), (7, true), (11, true), (12, false), (13, false), (14, false), (15, false), (16, false), (17, false), (18, false), (19, false), (20, false), (22, false), (23, false), (24, false), (25, false), (26, false), (27, false), (21, true), (28, true), (29, false), (30, false), (31, false), (32, false), (33, false), (34, false), (36, false), (37, false), (38, false), (39, false), (40, false), (41, false), (35, true), (42, true), (43, false), (44, false), (45, false)] = true := by kernel_rfl

set_option maxRecDepth 100000 in
set_option maxHeartbeats 4000000 in
theorem Rises_no (e : Eg) (l : Lg) (a b n m f g y z u p q s t : Int) (w : World) (hE : EngIn w e) (hL : LawIn w l) (h1 : fewL l = true) (h2 : fewE e = true) (hb : ¬ b < a) (hn : ¬ 1099511627776 < n) (hl : -9223372036854775808 ≤ n) (h0 : 0 ≤ m) (hm : m ≤ 65535) (ef : Sd.ask (en e) a = f) (eg : Sd.ask (en e) b = g) (ey : Sd.allow (la l) n a = y) (ez : Sd.allow (la l) n b = z) (eu : Sd.allow (la l) (n + m) a = u) (ep : Tb.atv l.d.xs l.d.ys n = p) (eq : Tb.atv l.a.xs l.a.ys n = q) (es : Tb.atv l.d.xs l.d.ys (n + m) = s) (et : Tb.atv l.a.xs l.a.ys (n + m) = t) (hfg : f ≤ g) (hyz : y ≤ z) (h4 : Sd.okB (la l) = false) : Calls Try.prog 5 #[.agg (ec e), .agg (lc l), .int .i64 a, .int .i64 b, .int .i64 n, .int .u16 m] w fun r w' => r = .returned (.bool true) ∧ Below w.heap.size w w' := by
  have HV := Lib.hid (two_el w e l)
  have F1 := Lib.hid (fewl_v h1)
  have F2 := Lib.hid (Ew.few_v h2)
  have C1 := Lib.hid (fun W (hW : Below w.heap.size w W) => ask_v hE ef hW)
  have C2 := Lib.hid (fun W (hW : Below w.heap.size w W) => ask_v hE eg hW)
  have C3 := Lib.hid (fun W (hW : Below w.heap.size w W) => allow_v hL ey hW)
  have C4 := Lib.hid (fun W (hW : Below w.heap.size w W) => allow_v hL ez hW)
  have C5 := Lib.hid (fun W (hW : Below w.heap.size w W) => cl_no l W (hL.below hW) h4)
  have C6 := Lib.hid (fun W (hW : Below w.heap.size w W) => at_v hL.d ep hW)
  have C7 := Lib.hid (fun W (hW : Below w.heap.size w W) => at_v hL.a eq hW)
  have C8 := Lib.hid (fun W (hW : Below w.heap.size w W) => at_v hL.d es hW)
  have C9 := Lib.hid (fun W (hW : Below w.heap.size w W) => at_v hL.a et hW)
  have C10 := Lib.hid (fun W (hW : Below w.heap.size w W) => allow_v hL eu hW)
  have d1 : decide (b < a) = false := decide_eq_false hb
  have d2 : decide (1099511627776 < n) = false := decide_eq_false hn
  have d3 : decide (f ≤ g) = true := decide_eq_true hfg
  have d4 : decide (y ≤ z) = true := decide_eq_true hyz
  have m1 : IntKind.i64.wrap m = m := IntWalk.i64_in _ (by omega)
  have m2 : IntKind.i64.wrap (n + m) = n + m := IntWalk.i64_in _ (by omega)
  clear hE hL h1 h2 h4 hb hn ef eg ey ez eu ep eq es et hfg hyz
  go_enter Try.func5, Try.ntmps5
  go_upto_region 1 with fail
  generalize hE : Value.agg (ec e) = E at *
  generalize hL : Value.agg (lc l) = L at *
  go_wp2_with (first | (refine ldE hE rfl _ rfl _ rfl HV.out.h2 ?_) | (refine ldL hL rfl _ rfl _ rfl HV.out.head ?_) | (go_at_call 7; (with_reducible refine (awake_c _).mono ?_); rintro r W ⟨rfl, hb⟩; replace HV := Lib.hid (HV.out.grow hb); clear hb) | (go_at_call 8; (with_reducible refine (F1.out _).mono ?_); rintro r W ⟨rfl, hb⟩; replace HV := Lib.hid (HV.out.grow hb); clear hb) | (go_at_call 9; (with_reducible refine (F2.out _).mono ?_); rintro r W ⟨rfl, hb⟩; replace HV := Lib.hid (HV.out.grow hb); clear hb) | fail)
  refine wp_region_noPanic (Lk.wp_region_ordered ord_r4 (fun V => V.heap[w.heap.size]? = some (eo e) ∧ V.heap[w.heap.size + 1]? = some (lo l)) (by kernel_rfl) (by kernel_rfl) (fun _ _ _ _ _ h => h) (by first | (with_reducible exact ⟨HV.out.h2, HV.out.head⟩) | (with_reducible exact ⟨HV.out.drew.h2, HV.out.drew.head⟩)) ?_)
  replace HV := Lib.hid HV.out.drew
  iterate 4 (refine Lk.ord_take ?_ rfl rfl ?_ ?_; rotate_left; (focus (intro w' hS; (try dsimp only at hS); first | (refine (runE hE _ rfl _ rfl hS.1).trans ?_; with_reducible rfl) | (refine (runL hL _ rfl _ rfl hS.2).trans ?_; with_reducible rfl) | (go_simp; try with_reducible rfl))); simp only [Act.put, List.setIfInBounds_toArray, List.set_cons_zero, List.set_cons_succ])
  refine Lk.ord_step rfl rfl (fun K hK => ?_)
  go_simp
  (with_reducible refine (C1.out _ HV.out.old).mono ?_)
  rintro r W ⟨rfl, hb⟩
  replace HV := Lib.hid (HV.out.grow hb)
  clear hb
  refine hK.out _ _ (by first | (with_reducible exact ⟨HV.out.h2, HV.out.head⟩) | (with_reducible exact ⟨HV.out.drew.h2, HV.out.drew.head⟩)) ?_
  clear hK K
  try simp only [Act.put, List.setIfInBounds_toArray, List.set_cons_zero, List.set_cons_succ]
  refine Lk.ord_step rfl rfl (fun K hK => ?_)
  go_simp
  (with_reducible refine (C2.out _ HV.out.old).mono ?_)
  rintro r W ⟨rfl, hb⟩
  replace HV := Lib.hid (HV.out.grow hb)
  clear hb
  refine hK.out _ _ (by first | (with_reducible exact ⟨HV.out.h2, HV.out.head⟩) | (with_reducible exact ⟨HV.out.drew.h2, HV.out.drew.head⟩)) ?_
  clear hK K
  try simp only [Act.put, List.setIfInBounds_toArray, List.set_cons_zero, List.set_cons_succ]
  iterate 8 (refine Lk.ord_take ?_ rfl rfl ?_ ?_; rotate_left; (focus (intro w' hS; (try dsimp only at hS); first | (refine (runE hE _ rfl _ rfl hS.1).trans ?_; with_reducible rfl) | (refine (runL hL _ rfl _ rfl hS.2).trans ?_; with_reducible rfl) | (go_simp; try with_reducible rfl))); simp only [Act.put, List.setIfInBounds_toArray, List.set_cons_zero, List.set_cons_succ])
  refine Lk.ord_step rfl rfl (fun K hK => ?_)
  go_simp
  (with_reducible refine (C3.out _ HV.out.old).mono ?_)
  rintro r W ⟨rfl, hb⟩
  replace HV := Lib.hid (HV.out.grow hb)
  clear hb
  refine hK.out _ _ (by first | (with_reducible exact ⟨HV.out.h2, HV.out.head⟩) | (with_reducible exact ⟨HV.out.drew.h2, HV.out.drew.head⟩)) ?_
  clear hK K
  try simp only [Act.put, List.setIfInBounds_toArray, List.set_cons_zero, List.set_cons_succ]
  refine Lk.ord_step rfl rfl (fun K hK => ?_)
  go_simp
  (with_reducible refine (C4.out _ HV.out.old).mono ?_)
  rintro r W ⟨rfl, hb⟩
  replace HV := Lib.hid (HV.out.grow hb)
  clear hb
  refine hK.out _ _ (by first | (with_reducible exact ⟨HV.out.h2, HV.out.head⟩) | (with_reducible exact ⟨HV.out.drew.h2, HV.out.drew.head⟩)) ?_
  clear hK K
  try simp only [Act.put, List.setIfInBounds_toArray, List.set_cons_zero, List.set_cons_succ]
  iterate 3 (refine Lk.ord_take ?_ rfl rfl ?_ ?_; rotate_left; (focus (intro w' hS; (try dsimp only at hS); first | (refine (runE hE _ rfl _ rfl hS.1).trans ?_; with_reducible rfl) | (refine (runL hL _ rfl _ rfl hS.2).trans ?_; with_reducible rfl) | (go_simp; try with_reducible rfl))); simp only [Act.put, List.setIfInBounds_toArray, List.set_cons_zero, List.set_cons_succ])
  refine Lk.ord_nil (NoPanic.normal ?_)
  go_wp2_with fail
  refine wp_region_noPanic (Lk.wp_region_ordered ord_r5 (fun V => V.heap[w.heap.size]? = some (eo e) ∧ V.heap[w.heap.size + 1]? = some (lo l) ∧ V.cell? ⟨w.heap.size + 1, 0, none⟩ = some (.slice l.a.A l.a.xs.length l.a.ca) ∧ V.cell? ⟨w.heap.size + 1, 1, none⟩ = some (.slice l.a.B l.a.ys.length l.a.cb) ∧ V.cell? ⟨w.heap.size + 1, 2, none⟩ = some (.slice l.d.A l.d.xs.length l.d.ca) ∧ V.cell? ⟨w.heap.size + 1, 3, none⟩ = some (.slice l.d.B l.d.ys.length l.d.cb)) (by kernel_rfl) (by kernel_rfl) (fun _ _ _ _ _ h => h) (by first | (with_reducible exact ⟨HV.out.h2, HV.out.head, (lfld HV.out.head).1, (lfld HV.out.head).2.1, (lfld HV.out.head).2.2.1, (lfld HV.out.head).2.2.2.1⟩) | (with_reducible exact ⟨HV.out.drew.h2, HV.out.drew.head, (lfld HV.out.drew.head).1, (lfld HV.out.drew.head).2.1, (lfld HV.out.drew.head).2.2.1, (lfld HV.out.drew.head).2.2.2.1⟩)) ?_)
  replace HV := Lib.hid HV.out.drew
  iterate 1 (refine Lk.ord_take ?_ rfl rfl ?_ ?_; rotate_left; (focus (intro w' hS; (try dsimp only at hS); first | (refine (runE hE _ rfl _ rfl hS.1).trans ?_; with_reducible rfl) | (refine (runL hL _ rfl _ rfl hS.2.1).trans ?_; with_reducible rfl) | (go_simp; try with_reducible rfl))); simp only [Act.put, List.setIfInBounds_toArray, List.set_cons_zero, List.set_cons_succ])
  refine Lk.ord_step rfl rfl (fun K hK => ?_)
  go_simp
  (with_reducible refine (C5.out _ HV.out.old).mono ?_)
  rintro r W ⟨rfl, hb⟩
  replace HV := Lib.hid (HV.out.grow hb)
  clear hb
  refine hK.out _ _ (by first | (with_reducible exact ⟨HV.out.h2, HV.out.head, (lfld HV.out.head).1, (lfld HV.out.head).2.1, (lfld HV.out.head).2.2.1, (lfld HV.out.head).2.2.2.1⟩) | (with_reducible exact ⟨HV.out.drew.h2, HV.out.drew.head, (lfld HV.out.drew.head).1, (lfld HV.out.drew.head).2.1, (lfld HV.out.drew.head).2.2.1, (lfld HV.out.drew.head).2.2.2.1⟩)) ?_
  clear hK K
  try simp only [Act.put, List.setIfInBounds_toArray, List.set_cons_zero, List.set_cons_succ]
  iterate 2 (refine Lk.ord_take ?_ rfl rfl ?_ ?_; rotate_left; (focus (intro w' hS; (try dsimp only at hS); first | (refine (runE hE _ rfl _ rfl hS.1).trans ?_; with_reducible rfl) | (refine (runL hL _ rfl _ rfl hS.2.1).trans ?_; with_reducible rfl) | (go_simp; try with_reducible rfl))); simp only [Act.put, List.setIfInBounds_toArray, List.set_cons_zero, List.set_cons_succ])
  refine Lk.ord_skip rfl rfl ?_
  simp only [Act.put, List.setIfInBounds_toArray, List.set_cons_zero, List.set_cons_succ]
  refine Lk.ord_skip rfl rfl ?_
  simp only [Act.put, List.setIfInBounds_toArray, List.set_cons_zero, List.set_cons_succ]
  refine Lk.ord_skip rfl rfl ?_
  simp only [Act.put, List.setIfInBounds_toArray, List.set_cons_zero, List.set_cons_succ]
  refine Lk.ord_skip rfl rfl ?_
  simp only [Act.put, List.setIfInBounds_toArray, List.set_cons_zero, List.set_cons_succ]
  refine Lk.ord_skip rfl rfl ?_
  simp only [Act.put, List.setIfInBounds_toArray, List.set_cons_zero, List.set_cons_succ]
  refine Lk.ord_skip rfl rfl ?_
  simp only [Act.put, List.setIfInBounds_toArray, List.set_cons_zero, List.set_cons_succ]
  refine Lk.ord_skip' rfl rfl ?_
  simp only [Act.put, List.setIfInBounds_toArray, List.set_cons_zero, List.set_cons_succ]
  refine Lk.ord_skip' rfl rfl ?_
  simp only [Act.put, List.setIfInBounds_toArray, List.set_cons_zero, List.set_cons_succ]
  refine Lk.ord_skip rfl rfl ?_
  simp only [Act.put, List.setIfInBounds_toArray, List.set_cons_zero, List.set_cons_succ]
  iterate 2 (refine Lk.ord_take ?_ rfl rfl ?_ ?_; rotate_left; (focus (intro w' hS; (try dsimp only at hS); first | (refine (runE hE _ rfl _ rfl hS.1).trans ?_; with_reducible rfl) | (refine (runL hL _ rfl _ rfl hS.2.1).trans ?_; with_reducible rfl) | (go_simp; try with_reducible rfl))); simp only [Act.put, List.setIfInBounds_toArray, List.set_cons_zero, List.set_cons_succ])
  refine Lk.ord_skip rfl rfl ?_
  simp only [Act.put, List.setIfInBounds_toArray, List.set_cons_zero, List.set_cons_succ]
  refine Lk.ord_skip rfl rfl ?_
  simp only [Act.put, List.setIfInBounds_toArray, List.set_cons_zero, List.set_cons_succ]
  refine Lk.ord_skip rfl rfl ?_
  simp only [Act.put, List.setIfInBounds_toArray, List.set_cons_zero, List.set_cons_succ]
  refine Lk.ord_skip rfl rfl ?_
  simp only [Act.put, List.setIfInBounds_toArray, List.set_cons_zero, List.set_cons_succ]
  refine Lk.ord_skip rfl rfl ?_
  simp only [Act.put, List.setIfInBounds_toArray, List.set_cons_zero, List.set_cons_succ]
  refine Lk.ord_skip rfl rfl ?_
  simp only [Act.put, List.setIfInBounds_toArray, List.set_cons_zero, List.set_cons_succ]
  refine Lk.ord_skip rfl rfl ?_
  simp only [Act.put, List.setIfInBounds_toArray, List.set_cons_zero, List.set_cons_succ]
  refine Lk.ord_skip rfl rfl ?_
  simp only [Act.put, List.setIfInBounds_toArray, List.set_cons_zero, List.set_cons_succ]
  refine Lk.ord_skip rfl rfl ?_
  simp only [Act.put, List.setIfInBounds_toArray, List.set_cons_zero, List.set_cons_succ]
  refine Lk.ord_skip rfl rfl ?_
  simp only [Act.put, List.setIfInBounds_toArray, List.set_cons_zero, List.set_cons_succ]
  refine Lk.ord_skip rfl rfl ?_
  simp only [Act.put, List.setIfInBounds_toArray, List.set_cons_zero, List.set_cons_succ]
  refine Lk.ord_skip rfl rfl ?_
  simp only [Act.put, List.setIfInBounds_toArray, List.set_cons_zero, List.set_cons_succ]
  refine Lk.ord_skip' rfl rfl ?_
  simp only [Act.put, List.setIfInBounds_toArray, List.set_cons_zero, List.set_cons_succ]
  refine Lk.ord_skip' rfl rfl ?_
  simp only [Act.put, List.setIfInBounds_toArray, List.set_cons_zero, List.set_cons_succ]
  refine Lk.ord_skip rfl rfl ?_
  simp only [Act.put, List.setIfInBounds_toArray, List.set_cons_zero, List.set_cons_succ]
  iterate 2 (refine Lk.ord_take ?_ rfl rfl ?_ ?_; rotate_left; (focus (intro w' hS; (try dsimp only at hS); first | (refine (runE hE _ rfl _ rfl hS.1).trans ?_; with_reducible rfl) | (refine (runL hL _ rfl _ rfl hS.2.1).trans ?_; with_reducible rfl) | (go_simp; try with_reducible rfl))); simp only [Act.put, List.setIfInBounds_toArray, List.set_cons_zero, List.set_cons_succ])
  refine Lk.ord_skip rfl rfl ?_
  simp only [Act.put, List.setIfInBounds_toArray, List.set_cons_zero, List.set_cons_succ]
  refine Lk.ord_skip rfl rfl ?_
  simp only [Act.put, List.setIfInBounds_toArray, List.set_cons_zero, List.set_cons_succ]
  refine Lk.ord_skip rfl rfl ?_
  simp only [Act.put, List.setIfInBounds_toArray, List.set_cons_zero, List.set_cons_succ]
  refine Lk.ord_skip rfl rfl ?_
  simp only [Act.put, List.setIfInBounds_toArray, List.set_cons_zero, List.set_cons_succ]
  refine Lk.ord_skip rfl rfl ?_
  simp only [Act.put, List.setIfInBounds_toArray, List.set_cons_zero, List.set_cons_succ]
  refine Lk.ord_skip rfl rfl ?_
  simp only [Act.put, List.setIfInBounds_toArray, List.set_cons_zero, List.set_cons_succ]
  refine Lk.ord_skip rfl rfl ?_
  simp only [Act.put, List.setIfInBounds_toArray, List.set_cons_zero, List.set_cons_succ]
  refine Lk.ord_skip rfl rfl ?_
  simp only [Act.put, List.setIfInBounds_toArray, List.set_cons_zero, List.set_cons_succ]
  refine Lk.ord_skip rfl rfl ?_
  simp only [Act.put, List.setIfInBounds_toArray, List.set_cons_zero, List.set_cons_succ]
  refine Lk.ord_skip' rfl rfl ?_
  simp only [Act.put, List.setIfInBounds_toArray, List.set_cons_zero, List.set_cons_succ]
  refine Lk.ord_skip' rfl rfl ?_
  simp only [Act.put, List.setIfInBounds_toArray, List.set_cons_zero, List.set_cons_succ]
  refine Lk.ord_skip rfl rfl ?_
  simp only [Act.put, List.setIfInBounds_toArray, List.set_cons_zero, List.set_cons_succ]
  iterate 2 (refine Lk.ord_take ?_ rfl rfl ?_ ?_; rotate_left; (focus (intro w' hS; (try dsimp only at hS); first | (refine (runE hE _ rfl _ rfl hS.1).trans ?_; with_reducible rfl) | (refine (runL hL _ rfl _ rfl hS.2.1).trans ?_; with_reducible rfl) | (go_simp; try with_reducible rfl))); simp only [Act.put, List.setIfInBounds_toArray, List.set_cons_zero, List.set_cons_succ])
  refine Lk.ord_nil (NoPanic.normal ?_)
  go_wp2_with fail
  go_ret
  exact ⟨rfl, HV.out.old⟩

set_option maxRecDepth 100000 in
set_option maxHeartbeats 4000000 in
theorem Rises_cross (e : Eg) (l : Lg) (a b n m f g y z u p q s t : Int) (w : World) (hE : EngIn w e) (hL : LawIn w l) (h1 : fewL l = true) (h2 : fewE e = true) (hb : ¬ b < a) (hn : ¬ 1099511627776 < n) (hl : -9223372036854775808 ≤ n) (h0 : 0 ≤ m) (hm : m ≤ 65535) (ef : Sd.ask (en e) a = f) (eg : Sd.ask (en e) b = g) (ey : Sd.allow (la l) n a = y) (ez : Sd.allow (la l) n b = z) (eu : Sd.allow (la l) (n + m) a = u) (ep : Tb.atv l.d.xs l.d.ys n = p) (eq : Tb.atv l.a.xs l.a.ys n = q) (es : Tb.atv l.d.xs l.d.ys (n + m) = s) (et : Tb.atv l.a.xs l.a.ys (n + m) = t) (hfg : f ≤ g) (hyz : y ≤ z) (h4 : Sd.okB (la l) = true) (hc : q < p) : Calls Try.prog 5 #[.agg (ec e), .agg (lc l), .int .i64 a, .int .i64 b, .int .i64 n, .int .u16 m] w fun r w' => r = .returned (.bool true) ∧ Below w.heap.size w w' := by
  have HV := Lib.hid (two_el w e l)
  have F1 := Lib.hid (fewl_v h1)
  have F2 := Lib.hid (Ew.few_v h2)
  have C1 := Lib.hid (fun W (hW : Below w.heap.size w W) => ask_v hE ef hW)
  have C2 := Lib.hid (fun W (hW : Below w.heap.size w W) => ask_v hE eg hW)
  have C3 := Lib.hid (fun W (hW : Below w.heap.size w W) => allow_v hL ey hW)
  have C4 := Lib.hid (fun W (hW : Below w.heap.size w W) => allow_v hL ez hW)
  have C5 := Lib.hid (fun W (hW : Below w.heap.size w W) => cl_ok l W (hL.below hW) h4)
  have C6 := Lib.hid (fun W (hW : Below w.heap.size w W) => at_v hL.d ep hW)
  have C7 := Lib.hid (fun W (hW : Below w.heap.size w W) => at_v hL.a eq hW)
  have C8 := Lib.hid (fun W (hW : Below w.heap.size w W) => at_v hL.d es hW)
  have C9 := Lib.hid (fun W (hW : Below w.heap.size w W) => at_v hL.a et hW)
  have C10 := Lib.hid (fun W (hW : Below w.heap.size w W) => allow_v hL eu hW)
  have d1 : decide (b < a) = false := decide_eq_false hb
  have d2 : decide (1099511627776 < n) = false := decide_eq_false hn
  have d3 : decide (f ≤ g) = true := decide_eq_true hfg
  have d4 : decide (y ≤ z) = true := decide_eq_true hyz
  have m1 : IntKind.i64.wrap m = m := IntWalk.i64_in _ (by omega)
  have m2 : IntKind.i64.wrap (n + m) = n + m := IntWalk.i64_in _ (by omega)
  have d5 : decide (q < p) = true := decide_eq_true hc
  clear hE hL h1 h2 h4 hb hn ef eg ey ez eu ep eq es et hfg hyz hc
  go_enter Try.func5, Try.ntmps5
  go_upto_region 1 with fail
  generalize hE : Value.agg (ec e) = E at *
  generalize hL : Value.agg (lc l) = L at *
  go_wp2_with (first | (refine ldE hE rfl _ rfl _ rfl HV.out.h2 ?_) | (refine ldL hL rfl _ rfl _ rfl HV.out.head ?_) | (go_at_call 7; (with_reducible refine (awake_c _).mono ?_); rintro r W ⟨rfl, hb⟩; replace HV := Lib.hid (HV.out.grow hb); clear hb) | (go_at_call 8; (with_reducible refine (F1.out _).mono ?_); rintro r W ⟨rfl, hb⟩; replace HV := Lib.hid (HV.out.grow hb); clear hb) | (go_at_call 9; (with_reducible refine (F2.out _).mono ?_); rintro r W ⟨rfl, hb⟩; replace HV := Lib.hid (HV.out.grow hb); clear hb) | fail)
  refine wp_region_noPanic (Lk.wp_region_ordered ord_r4 (fun V => V.heap[w.heap.size]? = some (eo e) ∧ V.heap[w.heap.size + 1]? = some (lo l)) (by kernel_rfl) (by kernel_rfl) (fun _ _ _ _ _ h => h) (by first | (with_reducible exact ⟨HV.out.h2, HV.out.head⟩) | (with_reducible exact ⟨HV.out.drew.h2, HV.out.drew.head⟩)) ?_)
  replace HV := Lib.hid HV.out.drew
  iterate 4 (refine Lk.ord_take ?_ rfl rfl ?_ ?_; rotate_left; (focus (intro w' hS; (try dsimp only at hS); first | (refine (runE hE _ rfl _ rfl hS.1).trans ?_; with_reducible rfl) | (refine (runL hL _ rfl _ rfl hS.2).trans ?_; with_reducible rfl) | (go_simp; try with_reducible rfl))); simp only [Act.put, List.setIfInBounds_toArray, List.set_cons_zero, List.set_cons_succ])
  refine Lk.ord_step rfl rfl (fun K hK => ?_)
  go_simp
  (with_reducible refine (C1.out _ HV.out.old).mono ?_)
  rintro r W ⟨rfl, hb⟩
  replace HV := Lib.hid (HV.out.grow hb)
  clear hb
  refine hK.out _ _ (by first | (with_reducible exact ⟨HV.out.h2, HV.out.head⟩) | (with_reducible exact ⟨HV.out.drew.h2, HV.out.drew.head⟩)) ?_
  clear hK K
  try simp only [Act.put, List.setIfInBounds_toArray, List.set_cons_zero, List.set_cons_succ]
  refine Lk.ord_step rfl rfl (fun K hK => ?_)
  go_simp
  (with_reducible refine (C2.out _ HV.out.old).mono ?_)
  rintro r W ⟨rfl, hb⟩
  replace HV := Lib.hid (HV.out.grow hb)
  clear hb
  refine hK.out _ _ (by first | (with_reducible exact ⟨HV.out.h2, HV.out.head⟩) | (with_reducible exact ⟨HV.out.drew.h2, HV.out.drew.head⟩)) ?_
  clear hK K
  try simp only [Act.put, List.setIfInBounds_toArray, List.set_cons_zero, List.set_cons_succ]
  iterate 8 (refine Lk.ord_take ?_ rfl rfl ?_ ?_; rotate_left; (focus (intro w' hS; (try dsimp only at hS); first | (refine (runE hE _ rfl _ rfl hS.1).trans ?_; with_reducible rfl) | (refine (runL hL _ rfl _ rfl hS.2).trans ?_; with_reducible rfl) | (go_simp; try with_reducible rfl))); simp only [Act.put, List.setIfInBounds_toArray, List.set_cons_zero, List.set_cons_succ])
  refine Lk.ord_step rfl rfl (fun K hK => ?_)
  go_simp
  (with_reducible refine (C3.out _ HV.out.old).mono ?_)
  rintro r W ⟨rfl, hb⟩
  replace HV := Lib.hid (HV.out.grow hb)
  clear hb
  refine hK.out _ _ (by first | (with_reducible exact ⟨HV.out.h2, HV.out.head⟩) | (with_reducible exact ⟨HV.out.drew.h2, HV.out.drew.head⟩)) ?_
  clear hK K
  try simp only [Act.put, List.setIfInBounds_toArray, List.set_cons_zero, List.set_cons_succ]
  refine Lk.ord_step rfl rfl (fun K hK => ?_)
  go_simp
  (with_reducible refine (C4.out _ HV.out.old).mono ?_)
  rintro r W ⟨rfl, hb⟩
  replace HV := Lib.hid (HV.out.grow hb)
  clear hb
  refine hK.out _ _ (by first | (with_reducible exact ⟨HV.out.h2, HV.out.head⟩) | (with_reducible exact ⟨HV.out.drew.h2, HV.out.drew.head⟩)) ?_
  clear hK K
  try simp only [Act.put, List.setIfInBounds_toArray, List.set_cons_zero, List.set_cons_succ]
  iterate 3 (refine Lk.ord_take ?_ rfl rfl ?_ ?_; rotate_left; (focus (intro w' hS; (try dsimp only at hS); first | (refine (runE hE _ rfl _ rfl hS.1).trans ?_; with_reducible rfl) | (refine (runL hL _ rfl _ rfl hS.2).trans ?_; with_reducible rfl) | (go_simp; try with_reducible rfl))); simp only [Act.put, List.setIfInBounds_toArray, List.set_cons_zero, List.set_cons_succ])
  refine Lk.ord_nil (NoPanic.normal ?_)
  go_wp2_with fail
  refine wp_region_noPanic (Lk.wp_region_ordered ord_r5 (fun V => V.heap[w.heap.size]? = some (eo e) ∧ V.heap[w.heap.size + 1]? = some (lo l) ∧ V.cell? ⟨w.heap.size + 1, 0, none⟩ = some (.slice l.a.A l.a.xs.length l.a.ca) ∧ V.cell? ⟨w.heap.size + 1, 1, none⟩ = some (.slice l.a.B l.a.ys.length l.a.cb) ∧ V.cell? ⟨w.heap.size + 1, 2, none⟩ = some (.slice l.d.A l.d.xs.length l.d.ca) ∧ V.cell? ⟨w.heap.size + 1, 3, none⟩ = some (.slice l.d.B l.d.ys.length l.d.cb)) (by kernel_rfl) (by kernel_rfl) (fun _ _ _ _ _ h => h) (by first | (with_reducible exact ⟨HV.out.h2, HV.out.head, (lfld HV.out.head).1, (lfld HV.out.head).2.1, (lfld HV.out.head).2.2.1, (lfld HV.out.head).2.2.2.1⟩) | (with_reducible exact ⟨HV.out.drew.h2, HV.out.drew.head, (lfld HV.out.drew.head).1, (lfld HV.out.drew.head).2.1, (lfld HV.out.drew.head).2.2.1, (lfld HV.out.drew.head).2.2.2.1⟩)) ?_)
  replace HV := Lib.hid HV.out.drew
  iterate 1 (refine Lk.ord_take ?_ rfl rfl ?_ ?_; rotate_left; (focus (intro w' hS; (try dsimp only at hS); first | (refine (runE hE _ rfl _ rfl hS.1).trans ?_; with_reducible rfl) | (refine (runL hL _ rfl _ rfl hS.2.1).trans ?_; with_reducible rfl) | (go_simp; try with_reducible rfl))); simp only [Act.put, List.setIfInBounds_toArray, List.set_cons_zero, List.set_cons_succ])
  refine Lk.ord_step rfl rfl (fun K hK => ?_)
  go_simp
  (with_reducible refine (C5.out _ HV.out.old).mono ?_)
  rintro r W ⟨rfl, hb⟩
  replace HV := Lib.hid (HV.out.grow hb)
  clear hb
  refine hK.out _ _ (by first | (with_reducible exact ⟨HV.out.h2, HV.out.head, (lfld HV.out.head).1, (lfld HV.out.head).2.1, (lfld HV.out.head).2.2.1, (lfld HV.out.head).2.2.2.1⟩) | (with_reducible exact ⟨HV.out.drew.h2, HV.out.drew.head, (lfld HV.out.drew.head).1, (lfld HV.out.drew.head).2.1, (lfld HV.out.drew.head).2.2.1, (lfld HV.out.drew.head).2.2.2.1⟩)) ?_
  clear hK K
  try simp only [Act.put, List.setIfInBounds_toArray, List.set_cons_zero, List.set_cons_succ]
  iterate 8 (refine Lk.ord_take ?_ rfl rfl ?_ ?_; rotate_left; (focus (intro w' hS; (try dsimp only at hS); first | (refine (runE hE _ rfl _ rfl hS.1).trans ?_; with_reducible rfl) | (refine (runL hL _ rfl _ rfl hS.2.1).trans ?_; with_reducible rfl) | (go_simp; try with_reducible rfl))); simp only [Act.put, List.setIfInBounds_toArray, List.set_cons_zero, List.set_cons_succ])
  refine Lk.ord_step rfl rfl (fun K hK => ?_)
  go_simp
  (with_reducible refine (C6.out _ HV.out.old).mono ?_)
  rintro r W ⟨rfl, hb⟩
  replace HV := Lib.hid (HV.out.grow hb)
  clear hb
  refine hK.out _ _ (by first | (with_reducible exact ⟨HV.out.h2, HV.out.head, (lfld HV.out.head).1, (lfld HV.out.head).2.1, (lfld HV.out.head).2.2.1, (lfld HV.out.head).2.2.2.1⟩) | (with_reducible exact ⟨HV.out.drew.h2, HV.out.drew.head, (lfld HV.out.drew.head).1, (lfld HV.out.drew.head).2.1, (lfld HV.out.drew.head).2.2.1, (lfld HV.out.drew.head).2.2.2.1⟩)) ?_
  clear hK K
  try simp only [Act.put, List.setIfInBounds_toArray, List.set_cons_zero, List.set_cons_succ]
  refine Lk.ord_step rfl rfl (fun K hK => ?_)
  go_simp
  (with_reducible refine (C7.out _ HV.out.old).mono ?_)
  rintro r W ⟨rfl, hb⟩
  replace HV := Lib.hid (HV.out.grow hb)
  clear hb
  refine hK.out _ _ (by first | (with_reducible exact ⟨HV.out.h2, HV.out.head, (lfld HV.out.head).1, (lfld HV.out.head).2.1, (lfld HV.out.head).2.2.1, (lfld HV.out.head).2.2.2.1⟩) | (with_reducible exact ⟨HV.out.drew.h2, HV.out.drew.head, (lfld HV.out.drew.head).1, (lfld HV.out.drew.head).2.1, (lfld HV.out.drew.head).2.2.1, (lfld HV.out.drew.head).2.2.2.1⟩)) ?_
  clear hK K
  try simp only [Act.put, List.setIfInBounds_toArray, List.set_cons_zero, List.set_cons_succ]
  iterate 3 (refine Lk.ord_take ?_ rfl rfl ?_ ?_; rotate_left; (focus (intro w' hS; (try dsimp only at hS); first | (refine (runE hE _ rfl _ rfl hS.1).trans ?_; with_reducible rfl) | (refine (runL hL _ rfl _ rfl hS.2.1).trans ?_; with_reducible rfl) | (go_simp; try with_reducible rfl))); simp only [Act.put, List.setIfInBounds_toArray, List.set_cons_zero, List.set_cons_succ])
  refine Lk.ord_skip rfl rfl ?_
  simp only [Act.put, List.setIfInBounds_toArray, List.set_cons_zero, List.set_cons_succ]
  refine Lk.ord_skip rfl rfl ?_
  simp only [Act.put, List.setIfInBounds_toArray, List.set_cons_zero, List.set_cons_succ]
  refine Lk.ord_skip rfl rfl ?_
  simp only [Act.put, List.setIfInBounds_toArray, List.set_cons_zero, List.set_cons_succ]
  refine Lk.ord_skip rfl rfl ?_
  simp only [Act.put, List.setIfInBounds_toArray, List.set_cons_zero, List.set_cons_succ]
  refine Lk.ord_skip rfl rfl ?_
  simp only [Act.put, List.setIfInBounds_toArray, List.set_cons_zero, List.set_cons_succ]
  refine Lk.ord_skip rfl rfl ?_
  simp only [Act.put, List.setIfInBounds_toArray, List.set_cons_zero, List.set_cons_succ]
  refine Lk.ord_skip rfl rfl ?_
  simp only [Act.put, List.setIfInBounds_toArray, List.set_cons_zero, List.set_cons_succ]
  refine Lk.ord_skip rfl rfl ?_
  simp only [Act.put, List.setIfInBounds_toArray, List.set_cons_zero, List.set_cons_succ]
  refine Lk.ord_skip rfl rfl ?_
  simp only [Act.put, List.setIfInBounds_toArray, List.set_cons_zero, List.set_cons_succ]
  refine Lk.ord_skip rfl rfl ?_
  simp only [Act.put, List.setIfInBounds_toArray, List.set_cons_zero, List.set_cons_succ]
  refine Lk.ord_skip rfl rfl ?_
  simp only [Act.put, List.setIfInBounds_toArray, List.set_cons_zero, List.set_cons_succ]
  refine Lk.ord_skip rfl rfl ?_
  simp only [Act.put, List.setIfInBounds_toArray, List.set_cons_zero, List.set_cons_succ]
  refine Lk.ord_skip' rfl rfl ?_
  simp only [Act.put, List.setIfInBounds_toArray, List.set_cons_zero, List.set_cons_succ]
  refine Lk.ord_skip' rfl rfl ?_
  simp only [Act.put, List.setIfInBounds_toArray, List.set_cons_zero, List.set_cons_succ]
  refine Lk.ord_skip rfl rfl ?_
  simp only [Act.put, List.setIfInBounds_toArray, List.set_cons_zero, List.set_cons_succ]
  iterate 2 (refine Lk.ord_take ?_ rfl rfl ?_ ?_; rotate_left; (focus (intro w' hS; (try dsimp only at hS); first | (refine (runE hE _ rfl _ rfl hS.1).trans ?_; with_reducible rfl) | (refine (runL hL _ rfl _ rfl hS.2.1).trans ?_; with_reducible rfl) | (go_simp; try with_reducible rfl))); simp only [Act.put, List.setIfInBounds_toArray, List.set_cons_zero, List.set_cons_succ])
  refine Lk.ord_skip rfl rfl ?_
  simp only [Act.put, List.setIfInBounds_toArray, List.set_cons_zero, List.set_cons_succ]
  refine Lk.ord_skip rfl rfl ?_
  simp only [Act.put, List.setIfInBounds_toArray, List.set_cons_zero, List.set_cons_succ]
  refine Lk.ord_skip rfl rfl ?_
  simp only [Act.put, List.setIfInBounds_toArray, List.set_cons_zero, List.set_cons_succ]
  refine Lk.ord_skip rfl rfl ?_
  simp only [Act.put, List.setIfInBounds_toArray, List.set_cons_zero, List.set_cons_succ]
  refine Lk.ord_skip rfl rfl ?_
  simp only [Act.put, List.setIfInBounds_toArray, List.set_cons_zero, List.set_cons_succ]
  refine Lk.ord_skip rfl rfl ?_
  simp only [Act.put, List.setIfInBounds_toArray, List.set_cons_zero, List.set_cons_succ]
  refine Lk.ord_skip rfl rfl ?_
  simp only [Act.put, List.setIfInBounds_toArray, List.set_cons_zero, List.set_cons_succ]
  refine Lk.ord_skip rfl rfl ?_
  simp only [Act.put, List.setIfInBounds_toArray, List.set_cons_zero, List.set_cons_succ]
  refine Lk.ord_skip rfl rfl ?_
  simp only [Act.put, List.setIfInBounds_toArray, List.set_cons_zero, List.set_cons_succ]
  refine Lk.ord_skip' rfl rfl ?_
  simp only [Act.put, List.setIfInBounds_toArray, List.set_cons_zero, List.set_cons_succ]
  refine Lk.ord_skip' rfl rfl ?_
  simp only [Act.put, List.setIfInBounds_toArray, List.set_cons_zero, List.set_cons_succ]
  refine Lk.ord_skip rfl rfl ?_
  simp only [Act.put, List.setIfInBounds_toArray, List.set_cons_zero, List.set_cons_succ]
  iterate 2 (refine Lk.ord_take ?_ rfl rfl ?_ ?_; rotate_left; (focus (intro w' hS; (try dsimp only at hS); first | (refine (runE hE _ rfl _ rfl hS.1).trans ?_; with_reducible rfl) | (refine (runL hL _ rfl _ rfl hS.2.1).trans ?_; with_reducible rfl) | (go_simp; try with_reducible rfl))); simp only [Act.put, List.setIfInBounds_toArray, List.set_cons_zero, List.set_cons_succ])
  refine Lk.ord_nil (NoPanic.normal ?_)
  go_wp2_with fail
  go_ret
  exact ⟨rfl, HV.out.old⟩

set_option maxRecDepth 100000 in
set_option maxHeartbeats 4000000 in
theorem Rises_cross2 (e : Eg) (l : Lg) (a b n m f g y z u p q s t : Int) (w : World) (hE : EngIn w e) (hL : LawIn w l) (h1 : fewL l = true) (h2 : fewE e = true) (hb : ¬ b < a) (hn : ¬ 1099511627776 < n) (hl : -9223372036854775808 ≤ n) (h0 : 0 ≤ m) (hm : m ≤ 65535) (ef : Sd.ask (en e) a = f) (eg : Sd.ask (en e) b = g) (ey : Sd.allow (la l) n a = y) (ez : Sd.allow (la l) n b = z) (eu : Sd.allow (la l) (n + m) a = u) (ep : Tb.atv l.d.xs l.d.ys n = p) (eq : Tb.atv l.a.xs l.a.ys n = q) (es : Tb.atv l.d.xs l.d.ys (n + m) = s) (et : Tb.atv l.a.xs l.a.ys (n + m) = t) (hfg : f ≤ g) (hyz : y ≤ z) (h4 : Sd.okB (la l) = true) (hc : ¬ q < p) (hd : t < s) : Calls Try.prog 5 #[.agg (ec e), .agg (lc l), .int .i64 a, .int .i64 b, .int .i64 n, .int .u16 m] w fun r w' => r = .returned (.bool true) ∧ Below w.heap.size w w' := by
  have HV := Lib.hid (two_el w e l)
  have F1 := Lib.hid (fewl_v h1)
  have F2 := Lib.hid (Ew.few_v h2)
  have C1 := Lib.hid (fun W (hW : Below w.heap.size w W) => ask_v hE ef hW)
  have C2 := Lib.hid (fun W (hW : Below w.heap.size w W) => ask_v hE eg hW)
  have C3 := Lib.hid (fun W (hW : Below w.heap.size w W) => allow_v hL ey hW)
  have C4 := Lib.hid (fun W (hW : Below w.heap.size w W) => allow_v hL ez hW)
  have C5 := Lib.hid (fun W (hW : Below w.heap.size w W) => cl_ok l W (hL.below hW) h4)
  have C6 := Lib.hid (fun W (hW : Below w.heap.size w W) => at_v hL.d ep hW)
  have C7 := Lib.hid (fun W (hW : Below w.heap.size w W) => at_v hL.a eq hW)
  have C8 := Lib.hid (fun W (hW : Below w.heap.size w W) => at_v hL.d es hW)
  have C9 := Lib.hid (fun W (hW : Below w.heap.size w W) => at_v hL.a et hW)
  have C10 := Lib.hid (fun W (hW : Below w.heap.size w W) => allow_v hL eu hW)
  have d1 : decide (b < a) = false := decide_eq_false hb
  have d2 : decide (1099511627776 < n) = false := decide_eq_false hn
  have d3 : decide (f ≤ g) = true := decide_eq_true hfg
  have d4 : decide (y ≤ z) = true := decide_eq_true hyz
  have m1 : IntKind.i64.wrap m = m := IntWalk.i64_in _ (by omega)
  have m2 : IntKind.i64.wrap (n + m) = n + m := IntWalk.i64_in _ (by omega)
  have d5 : decide (q < p) = false := decide_eq_false hc
  have d6 : decide (t < s) = true := decide_eq_true hd
  clear hE hL h1 h2 h4 hb hn ef eg ey ez eu ep eq es et hfg hyz hc hd
  go_enter Try.func5, Try.ntmps5
  go_upto_region 1 with fail
  generalize hE : Value.agg (ec e) = E at *
  generalize hL : Value.agg (lc l) = L at *
  go_wp2_with (first | (refine ldE hE rfl _ rfl _ rfl HV.out.h2 ?_) | (refine ldL hL rfl _ rfl _ rfl HV.out.head ?_) | (go_at_call 7; (with_reducible refine (awake_c _).mono ?_); rintro r W ⟨rfl, hb⟩; replace HV := Lib.hid (HV.out.grow hb); clear hb) | (go_at_call 8; (with_reducible refine (F1.out _).mono ?_); rintro r W ⟨rfl, hb⟩; replace HV := Lib.hid (HV.out.grow hb); clear hb) | (go_at_call 9; (with_reducible refine (F2.out _).mono ?_); rintro r W ⟨rfl, hb⟩; replace HV := Lib.hid (HV.out.grow hb); clear hb) | fail)
  refine wp_region_noPanic (Lk.wp_region_ordered ord_r4 (fun V => V.heap[w.heap.size]? = some (eo e) ∧ V.heap[w.heap.size + 1]? = some (lo l)) (by kernel_rfl) (by kernel_rfl) (fun _ _ _ _ _ h => h) (by first | (with_reducible exact ⟨HV.out.h2, HV.out.head⟩) | (with_reducible exact ⟨HV.out.drew.h2, HV.out.drew.head⟩)) ?_)
  replace HV := Lib.hid HV.out.drew
  iterate 4 (refine Lk.ord_take ?_ rfl rfl ?_ ?_; rotate_left; (focus (intro w' hS; (try dsimp only at hS); first | (refine (runE hE _ rfl _ rfl hS.1).trans ?_; with_reducible rfl) | (refine (runL hL _ rfl _ rfl hS.2).trans ?_; with_reducible rfl) | (go_simp; try with_reducible rfl))); simp only [Act.put, List.setIfInBounds_toArray, List.set_cons_zero, List.set_cons_succ])
  refine Lk.ord_step rfl rfl (fun K hK => ?_)
  go_simp
  (with_reducible refine (C1.out _ HV.out.old).mono ?_)
  rintro r W ⟨rfl, hb⟩
  replace HV := Lib.hid (HV.out.grow hb)
  clear hb
  refine hK.out _ _ (by first | (with_reducible exact ⟨HV.out.h2, HV.out.head⟩) | (with_reducible exact ⟨HV.out.drew.h2, HV.out.drew.head⟩)) ?_
  clear hK K
  try simp only [Act.put, List.setIfInBounds_toArray, List.set_cons_zero, List.set_cons_succ]
  refine Lk.ord_step rfl rfl (fun K hK => ?_)
  go_simp
  (with_reducible refine (C2.out _ HV.out.old).mono ?_)
  rintro r W ⟨rfl, hb⟩
  replace HV := Lib.hid (HV.out.grow hb)
  clear hb
  refine hK.out _ _ (by first | (with_reducible exact ⟨HV.out.h2, HV.out.head⟩) | (with_reducible exact ⟨HV.out.drew.h2, HV.out.drew.head⟩)) ?_
  clear hK K
  try simp only [Act.put, List.setIfInBounds_toArray, List.set_cons_zero, List.set_cons_succ]
  iterate 8 (refine Lk.ord_take ?_ rfl rfl ?_ ?_; rotate_left; (focus (intro w' hS; (try dsimp only at hS); first | (refine (runE hE _ rfl _ rfl hS.1).trans ?_; with_reducible rfl) | (refine (runL hL _ rfl _ rfl hS.2).trans ?_; with_reducible rfl) | (go_simp; try with_reducible rfl))); simp only [Act.put, List.setIfInBounds_toArray, List.set_cons_zero, List.set_cons_succ])
  refine Lk.ord_step rfl rfl (fun K hK => ?_)
  go_simp
  (with_reducible refine (C3.out _ HV.out.old).mono ?_)
  rintro r W ⟨rfl, hb⟩
  replace HV := Lib.hid (HV.out.grow hb)
  clear hb
  refine hK.out _ _ (by first | (with_reducible exact ⟨HV.out.h2, HV.out.head⟩) | (with_reducible exact ⟨HV.out.drew.h2, HV.out.drew.head⟩)) ?_
  clear hK K
  try simp only [Act.put, List.setIfInBounds_toArray, List.set_cons_zero, List.set_cons_succ]
  refine Lk.ord_step rfl rfl (fun K hK => ?_)
  go_simp
  (with_reducible refine (C4.out _ HV.out.old).mono ?_)
  rintro r W ⟨rfl, hb⟩
  replace HV := Lib.hid (HV.out.grow hb)
  clear hb
  refine hK.out _ _ (by first | (with_reducible exact ⟨HV.out.h2, HV.out.head⟩) | (with_reducible exact ⟨HV.out.drew.h2, HV.out.drew.head⟩)) ?_
  clear hK K
  try simp only [Act.put, List.setIfInBounds_toArray, List.set_cons_zero, List.set_cons_succ]
  iterate 3 (refine Lk.ord_take ?_ rfl rfl ?_ ?_; rotate_left; (focus (intro w' hS; (try dsimp only at hS); first | (refine (runE hE _ rfl _ rfl hS.1).trans ?_; with_reducible rfl) | (refine (runL hL _ rfl _ rfl hS.2).trans ?_; with_reducible rfl) | (go_simp; try with_reducible rfl))); simp only [Act.put, List.setIfInBounds_toArray, List.set_cons_zero, List.set_cons_succ])
  refine Lk.ord_nil (NoPanic.normal ?_)
  go_wp2_with fail
  refine wp_region_noPanic (Lk.wp_region_ordered ord_r5 (fun V => V.heap[w.heap.size]? = some (eo e) ∧ V.heap[w.heap.size + 1]? = some (lo l) ∧ V.cell? ⟨w.heap.size + 1, 0, none⟩ = some (.slice l.a.A l.a.xs.length l.a.ca) ∧ V.cell? ⟨w.heap.size + 1, 1, none⟩ = some (.slice l.a.B l.a.ys.length l.a.cb) ∧ V.cell? ⟨w.heap.size + 1, 2, none⟩ = some (.slice l.d.A l.d.xs.length l.d.ca) ∧ V.cell? ⟨w.heap.size + 1, 3, none⟩ = some (.slice l.d.B l.d.ys.length l.d.cb)) (by kernel_rfl) (by kernel_rfl) (fun _ _ _ _ _ h => h) (by first | (with_reducible exact ⟨HV.out.h2, HV.out.head, (lfld HV.out.head).1, (lfld HV.out.head).2.1, (lfld HV.out.head).2.2.1, (lfld HV.out.head).2.2.2.1⟩) | (with_reducible exact ⟨HV.out.drew.h2, HV.out.drew.head, (lfld HV.out.drew.head).1, (lfld HV.out.drew.head).2.1, (lfld HV.out.drew.head).2.2.1, (lfld HV.out.drew.head).2.2.2.1⟩)) ?_)
  replace HV := Lib.hid HV.out.drew
  iterate 1 (refine Lk.ord_take ?_ rfl rfl ?_ ?_; rotate_left; (focus (intro w' hS; (try dsimp only at hS); first | (refine (runE hE _ rfl _ rfl hS.1).trans ?_; with_reducible rfl) | (refine (runL hL _ rfl _ rfl hS.2.1).trans ?_; with_reducible rfl) | (go_simp; try with_reducible rfl))); simp only [Act.put, List.setIfInBounds_toArray, List.set_cons_zero, List.set_cons_succ])
  refine Lk.ord_step rfl rfl (fun K hK => ?_)
  go_simp
  (with_reducible refine (C5.out _ HV.out.old).mono ?_)
  rintro r W ⟨rfl, hb⟩
  replace HV := Lib.hid (HV.out.grow hb)
  clear hb
  refine hK.out _ _ (by first | (with_reducible exact ⟨HV.out.h2, HV.out.head, (lfld HV.out.head).1, (lfld HV.out.head).2.1, (lfld HV.out.head).2.2.1, (lfld HV.out.head).2.2.2.1⟩) | (with_reducible exact ⟨HV.out.drew.h2, HV.out.drew.head, (lfld HV.out.drew.head).1, (lfld HV.out.drew.head).2.1, (lfld HV.out.drew.head).2.2.1, (lfld HV.out.drew.head).2.2.2.1⟩)) ?_
  clear hK K
  try simp only [Act.put, List.setIfInBounds_toArray, List.set_cons_zero, List.set_cons_succ]
  iterate 8 (refine Lk.ord_take ?_ rfl rfl ?_ ?_; rotate_left; (focus (intro w' hS; (try dsimp only at hS); first | (refine (runE hE _ rfl _ rfl hS.1).trans ?_; with_reducible rfl) | (refine (runL hL _ rfl _ rfl hS.2.1).trans ?_; with_reducible rfl) | (go_simp; try with_reducible rfl))); simp only [Act.put, List.setIfInBounds_toArray, List.set_cons_zero, List.set_cons_succ])
  refine Lk.ord_step rfl rfl (fun K hK => ?_)
  go_simp
  (with_reducible refine (C6.out _ HV.out.old).mono ?_)
  rintro r W ⟨rfl, hb⟩
  replace HV := Lib.hid (HV.out.grow hb)
  clear hb
  refine hK.out _ _ (by first | (with_reducible exact ⟨HV.out.h2, HV.out.head, (lfld HV.out.head).1, (lfld HV.out.head).2.1, (lfld HV.out.head).2.2.1, (lfld HV.out.head).2.2.2.1⟩) | (with_reducible exact ⟨HV.out.drew.h2, HV.out.drew.head, (lfld HV.out.drew.head).1, (lfld HV.out.drew.head).2.1, (lfld HV.out.drew.head).2.2.1, (lfld HV.out.drew.head).2.2.2.1⟩)) ?_
  clear hK K
  try simp only [Act.put, List.setIfInBounds_toArray, List.set_cons_zero, List.set_cons_succ]
  refine Lk.ord_step rfl rfl (fun K hK => ?_)
  go_simp
  (with_reducible refine (C7.out _ HV.out.old).mono ?_)
  rintro r W ⟨rfl, hb⟩
  replace HV := Lib.hid (HV.out.grow hb)
  clear hb
  refine hK.out _ _ (by first | (with_reducible exact ⟨HV.out.h2, HV.out.head, (lfld HV.out.head).1, (lfld HV.out.head).2.1, (lfld HV.out.head).2.2.1, (lfld HV.out.head).2.2.2.1⟩) | (with_reducible exact ⟨HV.out.drew.h2, HV.out.drew.head, (lfld HV.out.drew.head).1, (lfld HV.out.drew.head).2.1, (lfld HV.out.drew.head).2.2.1, (lfld HV.out.drew.head).2.2.2.1⟩)) ?_
  clear hK K
  try simp only [Act.put, List.setIfInBounds_toArray, List.set_cons_zero, List.set_cons_succ]
  iterate 15 (refine Lk.ord_take ?_ rfl rfl ?_ ?_; rotate_left; (focus (intro w' hS; (try dsimp only at hS); first | (refine (runE hE _ rfl _ rfl hS.1).trans ?_; with_reducible rfl) | (refine (runL hL _ rfl _ rfl hS.2.1).trans ?_; with_reducible rfl) | (go_simp; try with_reducible rfl))); simp only [Act.put, List.setIfInBounds_toArray, List.set_cons_zero, List.set_cons_succ])
  refine Lk.ord_step rfl rfl (fun K hK => ?_)
  go_simp
  (with_reducible refine (C8.out _ HV.out.old).mono ?_)
  rintro r W ⟨rfl, hb⟩
  replace HV := Lib.hid (HV.out.grow hb)
  clear hb
  refine hK.out _ _ (by first | (with_reducible exact ⟨HV.out.h2, HV.out.head, (lfld HV.out.head).1, (lfld HV.out.head).2.1, (lfld HV.out.head).2.2.1, (lfld HV.out.head).2.2.2.1⟩) | (with_reducible exact ⟨HV.out.drew.h2, HV.out.drew.head, (lfld HV.out.drew.head).1, (lfld HV.out.drew.head).2.1, (lfld HV.out.drew.head).2.2.1, (lfld HV.out.drew.head).2.2.2.1⟩)) ?_
  clear hK K
  try simp only [Act.put, List.setIfInBounds_toArray, List.set_cons_zero, List.set_cons_succ]
  refine Lk.ord_step rfl rfl (fun K hK => ?_)
  go_simp
  (with_reducible refine (C9.out _ HV.out.old).mono ?_)
  rintro r W ⟨rfl, hb⟩
  replace HV := Lib.hid (HV.out.grow hb)
  clear hb
  refine hK.out _ _ (by first | (with_reducible exact ⟨HV.out.h2, HV.out.head, (lfld HV.out.head).1, (lfld HV.out.head).2.1, (lfld HV.out.head).2.2.1, (lfld HV.out.head).2.2.2.1⟩) | (with_reducible exact ⟨HV.out.drew.h2, HV.out.drew.head, (lfld HV.out.drew.head).1, (lfld HV.out.drew.head).2.1, (lfld HV.out.drew.head).2.2.1, (lfld HV.out.drew.head).2.2.2.1⟩)) ?_
  clear hK K
  try simp only [Act.put, List.setIfInBounds_toArray, List.set_cons_zero, List.set_cons_succ]
  iterate 3 (refine Lk.ord_take ?_ rfl rfl ?_ ?_; rotate_left; (focus (intro w' hS; (try dsimp only at hS); first | (refine (runE hE _ rfl _ rfl hS.1).trans ?_; with_reducible rfl) | (refine (runL hL _ rfl _ rfl hS.2.1).trans ?_; with_reducible rfl) | (go_simp; try with_reducible rfl))); simp only [Act.put, List.setIfInBounds_toArray, List.set_cons_zero, List.set_cons_succ])
  refine Lk.ord_skip rfl rfl ?_
  simp only [Act.put, List.setIfInBounds_toArray, List.set_cons_zero, List.set_cons_succ]
  refine Lk.ord_skip rfl rfl ?_
  simp only [Act.put, List.setIfInBounds_toArray, List.set_cons_zero, List.set_cons_succ]
  refine Lk.ord_skip rfl rfl ?_
  simp only [Act.put, List.setIfInBounds_toArray, List.set_cons_zero, List.set_cons_succ]
  refine Lk.ord_skip rfl rfl ?_
  simp only [Act.put, List.setIfInBounds_toArray, List.set_cons_zero, List.set_cons_succ]
  refine Lk.ord_skip rfl rfl ?_
  simp only [Act.put, List.setIfInBounds_toArray, List.set_cons_zero, List.set_cons_succ]
  refine Lk.ord_skip rfl rfl ?_
  simp only [Act.put, List.setIfInBounds_toArray, List.set_cons_zero, List.set_cons_succ]
  refine Lk.ord_skip rfl rfl ?_
  simp only [Act.put, List.setIfInBounds_toArray, List.set_cons_zero, List.set_cons_succ]
  refine Lk.ord_skip rfl rfl ?_
  simp only [Act.put, List.setIfInBounds_toArray, List.set_cons_zero, List.set_cons_succ]
  refine Lk.ord_skip rfl rfl ?_
  simp only [Act.put, List.setIfInBounds_toArray, List.set_cons_zero, List.set_cons_succ]
  refine Lk.ord_skip' rfl rfl ?_
  simp only [Act.put, List.setIfInBounds_toArray, List.set_cons_zero, List.set_cons_succ]
  refine Lk.ord_skip' rfl rfl ?_
  simp only [Act.put, List.setIfInBounds_toArray, List.set_cons_zero, List.set_cons_succ]
  refine Lk.ord_skip rfl rfl ?_
  simp only [Act.put, List.setIfInBounds_toArray, List.set_cons_zero, List.set_cons_succ]
  iterate 2 (refine Lk.ord_take ?_ rfl rfl ?_ ?_; rotate_left; (focus (intro w' hS; (try dsimp only at hS); first | (refine (runE hE _ rfl _ rfl hS.1).trans ?_; with_reducible rfl) | (refine (runL hL _ rfl _ rfl hS.2.1).trans ?_; with_reducible rfl) | (go_simp; try with_reducible rfl))); simp only [Act.put, List.setIfInBounds_toArray, List.set_cons_zero, List.set_cons_succ])
  refine Lk.ord_nil (NoPanic.normal ?_)
  go_wp2_with fail
  go_ret
  exact ⟨rfl, HV.out.old⟩

set_option maxRecDepth 100000 in
set_option maxHeartbeats 4000000 in
theorem Rises_go (e : Eg) (l : Lg) (a b n m f g y z u p q s t : Int) (w : World) (hE : EngIn w e) (hL : LawIn w l) (h1 : fewL l = true) (h2 : fewE e = true) (hb : ¬ b < a) (hn : ¬ 1099511627776 < n) (hl : -9223372036854775808 ≤ n) (h0 : 0 ≤ m) (hm : m ≤ 65535) (ef : Sd.ask (en e) a = f) (eg : Sd.ask (en e) b = g) (ey : Sd.allow (la l) n a = y) (ez : Sd.allow (la l) n b = z) (eu : Sd.allow (la l) (n + m) a = u) (ep : Tb.atv l.d.xs l.d.ys n = p) (eq : Tb.atv l.a.xs l.a.ys n = q) (es : Tb.atv l.d.xs l.d.ys (n + m) = s) (et : Tb.atv l.a.xs l.a.ys (n + m) = t) (hfg : f ≤ g) (hyz : y ≤ z) (h4 : Sd.okB (la l) = true) (hc : ¬ q < p) (hd : ¬ t < s) (hg : y ≤ u) : Calls Try.prog 5 #[.agg (ec e), .agg (lc l), .int .i64 a, .int .i64 b, .int .i64 n, .int .u16 m] w fun r w' => r = .returned (.bool true) ∧ Below w.heap.size w w' := by
  have HV := Lib.hid (two_el w e l)
  have F1 := Lib.hid (fewl_v h1)
  have F2 := Lib.hid (Ew.few_v h2)
  have C1 := Lib.hid (fun W (hW : Below w.heap.size w W) => ask_v hE ef hW)
  have C2 := Lib.hid (fun W (hW : Below w.heap.size w W) => ask_v hE eg hW)
  have C3 := Lib.hid (fun W (hW : Below w.heap.size w W) => allow_v hL ey hW)
  have C4 := Lib.hid (fun W (hW : Below w.heap.size w W) => allow_v hL ez hW)
  have C5 := Lib.hid (fun W (hW : Below w.heap.size w W) => cl_ok l W (hL.below hW) h4)
  have C6 := Lib.hid (fun W (hW : Below w.heap.size w W) => at_v hL.d ep hW)
  have C7 := Lib.hid (fun W (hW : Below w.heap.size w W) => at_v hL.a eq hW)
  have C8 := Lib.hid (fun W (hW : Below w.heap.size w W) => at_v hL.d es hW)
  have C9 := Lib.hid (fun W (hW : Below w.heap.size w W) => at_v hL.a et hW)
  have C10 := Lib.hid (fun W (hW : Below w.heap.size w W) => allow_v hL eu hW)
  have d1 : decide (b < a) = false := decide_eq_false hb
  have d2 : decide (1099511627776 < n) = false := decide_eq_false hn
  have d3 : decide (f ≤ g) = true := decide_eq_true hfg
  have d4 : decide (y ≤ z) = true := decide_eq_true hyz
  have m1 : IntKind.i64.wrap m = m := IntWalk.i64_in _ (by omega)
  have m2 : IntKind.i64.wrap (n + m) = n + m := IntWalk.i64_in _ (by omega)
  have d5 : decide (q < p) = false := decide_eq_false hc
  have d6 : decide (t < s) = false := decide_eq_false hd
  have d7 : decide (y ≤ u) = true := decide_eq_true hg
  clear hE hL h1 h2 h4 hb hn ef eg ey ez eu ep eq es et hfg hyz hc hd hg
  go_enter Try.func5, Try.ntmps5
  go_upto_region 1 with fail
  generalize hE : Value.agg (ec e) = E at *
  generalize hL : Value.agg (lc l) = L at *
  go_wp2_with (first | (refine ldE hE rfl _ rfl _ rfl HV.out.h2 ?_) | (refine ldL hL rfl _ rfl _ rfl HV.out.head ?_) | (go_at_call 7; (with_reducible refine (awake_c _).mono ?_); rintro r W ⟨rfl, hb⟩; replace HV := Lib.hid (HV.out.grow hb); clear hb) | (go_at_call 8; (with_reducible refine (F1.out _).mono ?_); rintro r W ⟨rfl, hb⟩; replace HV := Lib.hid (HV.out.grow hb); clear hb) | (go_at_call 9; (with_reducible refine (F2.out _).mono ?_); rintro r W ⟨rfl, hb⟩; replace HV := Lib.hid (HV.out.grow hb); clear hb) | fail)
  refine wp_region_noPanic (Lk.wp_region_ordered ord_r4 (fun V => V.heap[w.heap.size]? = some (eo e) ∧ V.heap[w.heap.size + 1]? = some (lo l)) (by kernel_rfl) (by kernel_rfl) (fun _ _ _ _ _ h => h) (by first | (with_reducible exact ⟨HV.out.h2, HV.out.head⟩) | (with_reducible exact ⟨HV.out.drew.h2, HV.out.drew.head⟩)) ?_)
  replace HV := Lib.hid HV.out.drew
  iterate 4 (refine Lk.ord_take ?_ rfl rfl ?_ ?_; rotate_left; (focus (intro w' hS; (try dsimp only at hS); first | (refine (runE hE _ rfl _ rfl hS.1).trans ?_; with_reducible rfl) | (refine (runL hL _ rfl _ rfl hS.2).trans ?_; with_reducible rfl) | (go_simp; try with_reducible rfl))); simp only [Act.put, List.setIfInBounds_toArray, List.set_cons_zero, List.set_cons_succ])
  refine Lk.ord_step rfl rfl (fun K hK => ?_)
  go_simp
  (with_reducible refine (C1.out _ HV.out.old).mono ?_)
  rintro r W ⟨rfl, hb⟩
  replace HV := Lib.hid (HV.out.grow hb)
  clear hb
  refine hK.out _ _ (by first | (with_reducible exact ⟨HV.out.h2, HV.out.head⟩) | (with_reducible exact ⟨HV.out.drew.h2, HV.out.drew.head⟩)) ?_
  clear hK K
  try simp only [Act.put, List.setIfInBounds_toArray, List.set_cons_zero, List.set_cons_succ]
  refine Lk.ord_step rfl rfl (fun K hK => ?_)
  go_simp
  (with_reducible refine (C2.out _ HV.out.old).mono ?_)
  rintro r W ⟨rfl, hb⟩
  replace HV := Lib.hid (HV.out.grow hb)
  clear hb
  refine hK.out _ _ (by first | (with_reducible exact ⟨HV.out.h2, HV.out.head⟩) | (with_reducible exact ⟨HV.out.drew.h2, HV.out.drew.head⟩)) ?_
  clear hK K
  try simp only [Act.put, List.setIfInBounds_toArray, List.set_cons_zero, List.set_cons_succ]
  iterate 8 (refine Lk.ord_take ?_ rfl rfl ?_ ?_; rotate_left; (focus (intro w' hS; (try dsimp only at hS); first | (refine (runE hE _ rfl _ rfl hS.1).trans ?_; with_reducible rfl) | (refine (runL hL _ rfl _ rfl hS.2).trans ?_; with_reducible rfl) | (go_simp; try with_reducible rfl))); simp only [Act.put, List.setIfInBounds_toArray, List.set_cons_zero, List.set_cons_succ])
  refine Lk.ord_step rfl rfl (fun K hK => ?_)
  go_simp
  (with_reducible refine (C3.out _ HV.out.old).mono ?_)
  rintro r W ⟨rfl, hb⟩
  replace HV := Lib.hid (HV.out.grow hb)
  clear hb
  refine hK.out _ _ (by first | (with_reducible exact ⟨HV.out.h2, HV.out.head⟩) | (with_reducible exact ⟨HV.out.drew.h2, HV.out.drew.head⟩)) ?_
  clear hK K
  try simp only [Act.put, List.setIfInBounds_toArray, List.set_cons_zero, List.set_cons_succ]
  refine Lk.ord_step rfl rfl (fun K hK => ?_)
  go_simp
  (with_reducible refine (C4.out _ HV.out.old).mono ?_)
  rintro r W ⟨rfl, hb⟩
  replace HV := Lib.hid (HV.out.grow hb)
  clear hb
  refine hK.out _ _ (by first | (with_reducible exact ⟨HV.out.h2, HV.out.head⟩) | (with_reducible exact ⟨HV.out.drew.h2, HV.out.drew.head⟩)) ?_
  clear hK K
  try simp only [Act.put, List.setIfInBounds_toArray, List.set_cons_zero, List.set_cons_succ]
  iterate 3 (refine Lk.ord_take ?_ rfl rfl ?_ ?_; rotate_left; (focus (intro w' hS; (try dsimp only at hS); first | (refine (runE hE _ rfl _ rfl hS.1).trans ?_; with_reducible rfl) | (refine (runL hL _ rfl _ rfl hS.2).trans ?_; with_reducible rfl) | (go_simp; try with_reducible rfl))); simp only [Act.put, List.setIfInBounds_toArray, List.set_cons_zero, List.set_cons_succ])
  refine Lk.ord_nil (NoPanic.normal ?_)
  go_wp2_with fail
  refine wp_region_noPanic (Lk.wp_region_ordered ord_r5 (fun V => V.heap[w.heap.size]? = some (eo e) ∧ V.heap[w.heap.size + 1]? = some (lo l) ∧ V.cell? ⟨w.heap.size + 1, 0, none⟩ = some (.slice l.a.A l.a.xs.length l.a.ca) ∧ V.cell? ⟨w.heap.size + 1, 1, none⟩ = some (.slice l.a.B l.a.ys.length l.a.cb) ∧ V.cell? ⟨w.heap.size + 1, 2, none⟩ = some (.slice l.d.A l.d.xs.length l.d.ca) ∧ V.cell? ⟨w.heap.size + 1, 3, none⟩ = some (.slice l.d.B l.d.ys.length l.d.cb)) (by kernel_rfl) (by kernel_rfl) (fun _ _ _ _ _ h => h) (by first | (with_reducible exact ⟨HV.out.h2, HV.out.head, (lfld HV.out.head).1, (lfld HV.out.head).2.1, (lfld HV.out.head).2.2.1, (lfld HV.out.head).2.2.2.1⟩) | (with_reducible exact ⟨HV.out.drew.h2, HV.out.drew.head, (lfld HV.out.drew.head).1, (lfld HV.out.drew.head).2.1, (lfld HV.out.drew.head).2.2.1, (lfld HV.out.drew.head).2.2.2.1⟩)) ?_)
  replace HV := Lib.hid HV.out.drew
  iterate 1 (refine Lk.ord_take ?_ rfl rfl ?_ ?_; rotate_left; (focus (intro w' hS; (try dsimp only at hS); first | (refine (runE hE _ rfl _ rfl hS.1).trans ?_; with_reducible rfl) | (refine (runL hL _ rfl _ rfl hS.2.1).trans ?_; with_reducible rfl) | (go_simp; try with_reducible rfl))); simp only [Act.put, List.setIfInBounds_toArray, List.set_cons_zero, List.set_cons_succ])
  refine Lk.ord_step rfl rfl (fun K hK => ?_)
  go_simp
  (with_reducible refine (C5.out _ HV.out.old).mono ?_)
  rintro r W ⟨rfl, hb⟩
  replace HV := Lib.hid (HV.out.grow hb)
  clear hb
  refine hK.out _ _ (by first | (with_reducible exact ⟨HV.out.h2, HV.out.head, (lfld HV.out.head).1, (lfld HV.out.head).2.1, (lfld HV.out.head).2.2.1, (lfld HV.out.head).2.2.2.1⟩) | (with_reducible exact ⟨HV.out.drew.h2, HV.out.drew.head, (lfld HV.out.drew.head).1, (lfld HV.out.drew.head).2.1, (lfld HV.out.drew.head).2.2.1, (lfld HV.out.drew.head).2.2.2.1⟩)) ?_
  clear hK K
  try simp only [Act.put, List.setIfInBounds_toArray, List.set_cons_zero, List.set_cons_succ]
  iterate 8 (refine Lk.ord_take ?_ rfl rfl ?_ ?_; rotate_left; (focus (intro w' hS; (try dsimp only at hS); first | (refine (runE hE _ rfl _ rfl hS.1).trans ?_; with_reducible rfl) | (refine (runL hL _ rfl _ rfl hS.2.1).trans ?_; with_reducible rfl) | (go_simp; try with_reducible rfl))); simp only [Act.put, List.setIfInBounds_toArray, List.set_cons_zero, List.set_cons_succ])
  refine Lk.ord_step rfl rfl (fun K hK => ?_)
  go_simp
  (with_reducible refine (C6.out _ HV.out.old).mono ?_)
  rintro r W ⟨rfl, hb⟩
  replace HV := Lib.hid (HV.out.grow hb)
  clear hb
  refine hK.out _ _ (by first | (with_reducible exact ⟨HV.out.h2, HV.out.head, (lfld HV.out.head).1, (lfld HV.out.head).2.1, (lfld HV.out.head).2.2.1, (lfld HV.out.head).2.2.2.1⟩) | (with_reducible exact ⟨HV.out.drew.h2, HV.out.drew.head, (lfld HV.out.drew.head).1, (lfld HV.out.drew.head).2.1, (lfld HV.out.drew.head).2.2.1, (lfld HV.out.drew.head).2.2.2.1⟩)) ?_
  clear hK K
  try simp only [Act.put, List.setIfInBounds_toArray, List.set_cons_zero, List.set_cons_succ]
  refine Lk.ord_step rfl rfl (fun K hK => ?_)
  go_simp
  (with_reducible refine (C7.out _ HV.out.old).mono ?_)
  rintro r W ⟨rfl, hb⟩
  replace HV := Lib.hid (HV.out.grow hb)
  clear hb
  refine hK.out _ _ (by first | (with_reducible exact ⟨HV.out.h2, HV.out.head, (lfld HV.out.head).1, (lfld HV.out.head).2.1, (lfld HV.out.head).2.2.1, (lfld HV.out.head).2.2.2.1⟩) | (with_reducible exact ⟨HV.out.drew.h2, HV.out.drew.head, (lfld HV.out.drew.head).1, (lfld HV.out.drew.head).2.1, (lfld HV.out.drew.head).2.2.1, (lfld HV.out.drew.head).2.2.2.1⟩)) ?_
  clear hK K
  try simp only [Act.put, List.setIfInBounds_toArray, List.set_cons_zero, List.set_cons_succ]
  iterate 15 (refine Lk.ord_take ?_ rfl rfl ?_ ?_; rotate_left; (focus (intro w' hS; (try dsimp only at hS); first | (refine (runE hE _ rfl _ rfl hS.1).trans ?_; with_reducible rfl) | (refine (runL hL _ rfl _ rfl hS.2.1).trans ?_; with_reducible rfl) | (go_simp; try with_reducible rfl))); simp only [Act.put, List.setIfInBounds_toArray, List.set_cons_zero, List.set_cons_succ])
  refine Lk.ord_step rfl rfl (fun K hK => ?_)
  go_simp
  (with_reducible refine (C8.out _ HV.out.old).mono ?_)
  rintro r W ⟨rfl, hb⟩
  replace HV := Lib.hid (HV.out.grow hb)
  clear hb
  refine hK.out _ _ (by first | (with_reducible exact ⟨HV.out.h2, HV.out.head, (lfld HV.out.head).1, (lfld HV.out.head).2.1, (lfld HV.out.head).2.2.1, (lfld HV.out.head).2.2.2.1⟩) | (with_reducible exact ⟨HV.out.drew.h2, HV.out.drew.head, (lfld HV.out.drew.head).1, (lfld HV.out.drew.head).2.1, (lfld HV.out.drew.head).2.2.1, (lfld HV.out.drew.head).2.2.2.1⟩)) ?_
  clear hK K
  try simp only [Act.put, List.setIfInBounds_toArray, List.set_cons_zero, List.set_cons_succ]
  refine Lk.ord_step rfl rfl (fun K hK => ?_)
  go_simp
  (with_reducible refine (C9.out _ HV.out.old).mono ?_)
  rintro r W ⟨rfl, hb⟩
  replace HV := Lib.hid (HV.out.grow hb)
  clear hb
  refine hK.out _ _ (by first | (with_reducible exact ⟨HV.out.h2, HV.out.head, (lfld HV.out.head).1, (lfld HV.out.head).2.1, (lfld HV.out.head).2.2.1, (lfld HV.out.head).2.2.2.1⟩) | (with_reducible exact ⟨HV.out.drew.h2, HV.out.drew.head, (lfld HV.out.drew.head).1, (lfld HV.out.drew.head).2.1, (lfld HV.out.drew.head).2.2.1, (lfld HV.out.drew.head).2.2.2.1⟩)) ?_
  clear hK K
  try simp only [Act.put, List.setIfInBounds_toArray, List.set_cons_zero, List.set_cons_succ]
  iterate 12 (refine Lk.ord_take ?_ rfl rfl ?_ ?_; rotate_left; (focus (intro w' hS; (try dsimp only at hS); first | (refine (runE hE _ rfl _ rfl hS.1).trans ?_; with_reducible rfl) | (refine (runL hL _ rfl _ rfl hS.2.1).trans ?_; with_reducible rfl) | (go_simp; try with_reducible rfl))); simp only [Act.put, List.setIfInBounds_toArray, List.set_cons_zero, List.set_cons_succ])
  refine Lk.ord_step rfl rfl (fun K hK => ?_)
  go_simp
  (with_reducible refine (C3.out _ HV.out.old).mono ?_)
  rintro r W ⟨rfl, hb⟩
  replace HV := Lib.hid (HV.out.grow hb)
  clear hb
  refine hK.out _ _ (by first | (with_reducible exact ⟨HV.out.h2, HV.out.head, (lfld HV.out.head).1, (lfld HV.out.head).2.1, (lfld HV.out.head).2.2.1, (lfld HV.out.head).2.2.2.1⟩) | (with_reducible exact ⟨HV.out.drew.h2, HV.out.drew.head, (lfld HV.out.drew.head).1, (lfld HV.out.drew.head).2.1, (lfld HV.out.drew.head).2.2.1, (lfld HV.out.drew.head).2.2.2.1⟩)) ?_
  clear hK K
  try simp only [Act.put, List.setIfInBounds_toArray, List.set_cons_zero, List.set_cons_succ]
  refine Lk.ord_step rfl rfl (fun K hK => ?_)
  go_simp
  (with_reducible refine (C10.out _ HV.out.old).mono ?_)
  rintro r W ⟨rfl, hb⟩
  replace HV := Lib.hid (HV.out.grow hb)
  clear hb
  refine hK.out _ _ (by first | (with_reducible exact ⟨HV.out.h2, HV.out.head, (lfld HV.out.head).1, (lfld HV.out.head).2.1, (lfld HV.out.head).2.2.1, (lfld HV.out.head).2.2.2.1⟩) | (with_reducible exact ⟨HV.out.drew.h2, HV.out.drew.head, (lfld HV.out.drew.head).1, (lfld HV.out.drew.head).2.1, (lfld HV.out.drew.head).2.2.1, (lfld HV.out.drew.head).2.2.2.1⟩)) ?_
  clear hK K
  try simp only [Act.put, List.setIfInBounds_toArray, List.set_cons_zero, List.set_cons_succ]
  iterate 3 (refine Lk.ord_take ?_ rfl rfl ?_ ?_; rotate_left; (focus (intro w' hS; (try dsimp only at hS); first | (refine (runE hE _ rfl _ rfl hS.1).trans ?_; with_reducible rfl) | (refine (runL hL _ rfl _ rfl hS.2.1).trans ?_; with_reducible rfl) | (go_simp; try with_reducible rfl))); simp only [Act.put, List.setIfInBounds_toArray, List.set_cons_zero, List.set_cons_succ])
  refine Lk.ord_nil (NoPanic.normal ?_)
  go_wp2_with fail
  go_ret
  exact ⟨rfl, HV.out.old⟩

theorem ScheduleRises_walk (e : Eg) (l : Lg) (a b n : Int) (hn : -9223372036854775808 ≤ n ∧ n ≤ 9223372036854775807) (m : Int) (hm : 0 ≤ m ∧ m ≤ 65535) (w : World) (hE : EngIn w e) (hL : LawIn w l) : Calls Try.prog 5 #[.agg (ec e), .agg (lc l), .int .i64 a, .int .i64 b, .int .i64 n, .int .u16 m] w fun r w' => r = .returned (.bool true) ∧ Below w.heap.size w w' := by
  cases h1 : fewL l with
  | false => exact ScheduleRises_few1 e l a b n m w h1
  | true =>
    cases h2 : fewE e with
    | false => exact ScheduleRises_few2 e l a b n m w h1 h2
    | true =>
      by_cases hb : b < a
      · exact Rises_fall e l a b n m w h1 h2 hb
      by_cases hf : 1099511627776 < n
      · exact Rises_far e l a b n m w h1 h2 hb hf
      have u1 : Sd.ask (en e) a ≤ Sd.ask (en e) b := Sd.ask_mono (en e) (by omega)
      have u2 : Sd.allow (la l) n a ≤ Sd.allow (la l) n b := Sd.allow_fuel (la l) n (by omega)
      cases h4 : Sd.okB (la l) with
      | false => exact Rises_no e l a b n m _ _ _ _ _ _ _ _ _ w hE hL h1 h2 hb hf hn.1 hm.1 hm.2 rfl rfl rfl rfl rfl rfl rfl rfl rfl u1 u2 h4
      | true =>
        by_cases hc : Tb.atv l.a.xs l.a.ys n < Tb.atv l.d.xs l.d.ys n
        · exact Rises_cross e l a b n m _ _ _ _ _ _ _ _ _ w hE hL h1 h2 hb hf hn.1 hm.1 hm.2 rfl rfl rfl rfl rfl rfl rfl rfl rfl u1 u2 h4 hc
        by_cases hd : Tb.atv l.a.xs l.a.ys (n + m) < Tb.atv l.d.xs l.d.ys (n + m)
        · exact Rises_cross2 e l a b n m _ _ _ _ _ _ _ _ _ w hE hL h1 h2 hb hf hn.1 hm.1 hm.2 rfl rfl rfl rfl rfl rfl rfl rfl rfl u1 u2 h4 hc hd
        have u3 : Sd.allow (la l) n a ≤ Sd.allow (la l) (n + m) a := by
          rw [Sd.allow, Sd.allow, if_pos h4, if_pos h4]
          exact Sd.alw_n2 (Sd.ok_of h4) (by omega) a hc hd
        exact Rises_go e l a b n m _ _ _ _ _ _ _ _ _ w hE hL h1 h2 hb hf hn.1 hm.1 hm.2 rfl rfl rfl rfl rfl rfl rfl rfl rfl u1 u2 h4 hc hd u3

end Hw
end Go.Proofs.Ythjnodchmedlfaa
