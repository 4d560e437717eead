/- The walk of ModeAllows. Printed by gen_laws.py. -/
import Derived.Test.YtodilljomjhohaaDoorCc
namespace Go.Proofs.YtodilljomjhohaaDoor
namespace Mw
open Go.RowKit TabC Lk Ew Hw Bw

set_option maxRecDepth 100000 in
set_option maxHeartbeats 8000000 in
theorem ModeAllows_few1 (e : Eg) (l : Lg) (m c : Int) (s : Mm.Pan) (lit : Bool) (n h j : Int) (t : TypeId) (w : World) (hR : w.heap[0]? = some (.cells rc t (0, 0))) (h1 : fewL l = false) : Calls Tryd.prog 5 #[.agg (ec e), .agg (lc l), .agg (ph m c), .agg (pn s), .bool lit, .int .i64 n, .int .i64 h, .int .i64 j] w fun r w' => r = .returned (.bool true) ∧ Below w.heap.size w w' := by
  have HV := Lib.hid (four_l hR e l m c s)
  have F1 := Lib.hid (fewl_v h1)
  clear h1
  go_enter Tryd.func5, Tryd.ntmps5
  go_upto_region 1 with fail
  generalize hEE : Value.agg (ec e) = E at *
  generalize hLL : Value.agg (lc l) = L at *
  go_wp2_with (first | go_big_skip | (refine ldE' hEE rfl _ rfl _ rfl HV.out.tail.tail.tail.head ?_) | (refine ldL' hLL rfl _ rfl _ rfl HV.out.tail.tail.head ?_) | (go_at_call 9; (with_reducible refine (awake_c t _ HV.out.tail.tail.tail.tail.head).mono ?_); rintro r W ⟨rfl, hb⟩; replace HV := Lib.hid (HV.out.grow hb); clear hb) | (go_at_call 10; (with_reducible refine (F1.out _).mono ?_); rintro r W ⟨rfl, hb⟩; replace HV := Lib.hid (HV.out.grow hb); clear hb) | (go_at_call 11; (with_reducible refine (F2.out _).mono ?_); rintro r W ⟨rfl, hb⟩; replace HV := Lib.hid (HV.out.grow hb); clear hb) | fail)
  go_ret
  exact ⟨rfl, HV.out.old⟩

set_option maxRecDepth 100000 in
set_option maxHeartbeats 8000000 in
theorem ModeAllows_few2 (e : Eg) (l : Lg) (m c : Int) (s : Mm.Pan) (lit : Bool) (n h j : Int) (t : TypeId) (w : World) (hR : w.heap[0]? = some (.cells rc t (0, 0))) (h1 : fewL l = true) (h2 : fewE e = false) : Calls Tryd.prog 5 #[.agg (ec e), .agg (lc l), .agg (ph m c), .agg (pn s), .bool lit, .int .i64 n, .int .i64 h, .int .i64 j] w fun r w' => r = .returned (.bool true) ∧ Below w.heap.size w w' := by
  have HV := Lib.hid (four_l hR e l m c s)
  have F1 := Lib.hid (fewl_v h1)
  have F2 := Lib.hid (Ew.few_v h2)
  clear h1 h2
  go_enter Tryd.func5, Tryd.ntmps5
  go_upto_region 1 with fail
  generalize hEE : Value.agg (ec e) = E at *
  generalize hLL : Value.agg (lc l) = L at *
  go_wp2_with (first | go_big_skip | (refine ldE' hEE rfl _ rfl _ rfl HV.out.tail.tail.tail.head ?_) | (refine ldL' hLL rfl _ rfl _ rfl HV.out.tail.tail.head ?_) | (go_at_call 9; (with_reducible refine (awake_c t _ HV.out.tail.tail.tail.tail.head).mono ?_); rintro r W ⟨rfl, hb⟩; replace HV := Lib.hid (HV.out.grow hb); clear hb) | (go_at_call 10; (with_reducible refine (F1.out _).mono ?_); rintro r W ⟨rfl, hb⟩; replace HV := Lib.hid (HV.out.grow hb); clear hb) | (go_at_call 11; (with_reducible refine (F2.out _).mono ?_); rintro r W ⟨rfl, hb⟩; replace HV := Lib.hid (HV.out.grow hb); clear hb) | fail)
  go_ret
  exact ⟨rfl, HV.out.old⟩

theorem ord_a6 : Lk.orderedB (Lk.opsOf Tryd.f5 6) [(0, false), (1, false), (2, false), (3, false), (4, false), (6, false), (7, false), (8, false), (5, true), (9, true), (10, false), (11, false), (12, false), (13, false), (14, false), (15, false), (16, false), (17, false), (18, false), (19, false), (20, true), (21, false), (22, false), (23, false), (24, false), (25, false), (26, false), (27, false), (28, false), (29, false), (30, false), (31, false), (32, false), (33, false), (34, false), (35, false), (36, false), (37, false), (38, false), (39, false), (40, false), (41, false)] = true := by kernel_rfl
/-- What lies while the last region draws. -/
abbrev S3 (N g : Nat) (m q1 q2 : Int) (V : World) : Prop := V.cell? ⟨N + 1 + 1, 0, none⟩ = some (.int .i64 m) ∧ V.cell? ⟨g, 0, none⟩ = some (.int .i64 q1) ∧ V.heap[g]? = some (po q1 q2)
theorem s3 {w V : World} {N g : Nat} {e : Eg} {l : Lg} {m c q1 q2 : Int} {s : Mm.Pan} {t : TypeId} (h : Hv w V [(g, po q1 q2), (N + 1 + 1 + 1, no s), (N + 1 + 1, po m c), (N + 1, lo l), (N, eo e), (0, .cells rc t (0, 0))]) : S3 N g m q1 q2 V := ⟨(pfld h.h3).1, (pfld h.head).1, h.head⟩

set_option maxRecDepth 100000 in
set_option maxHeartbeats 8000000 in
theorem Allows_in (e : Eg) (l : Lg) (m c : Int) (s : Mm.Pan) (lit : Bool) (n h j : Int) (t : TypeId) (w : World) (hE : EngIn w e) (hL : LawIn w l) (hR : w.heap[0]? = some (.cells rc t (0, 0))) (h1 : fewL l = true) (h2 : fewE e = true) (hx : Mm.exist m = true) : Calls Tryd.prog 5 #[.agg (ec e), .agg (lc l), .agg (ph m c), .agg (pn s), .bool lit, .int .i64 n, .int .i64 h, .int .i64 j] w fun r w' => r = .returned (.bool true) ∧ Below w.heap.size w w' := by
  have HV := Lib.hid (four_l hR e l m c s)
  have F1 := Lib.hid (fewl_v h1)
  have F2 := Lib.hid (Ew.few_v h2)
  have C1 := Lib.hid (fun W (hW : Below w.heap.size w W) => next_c e l m c s lit n h t W (hE.below hW) (hL.below hW) (ro hR hW))
  have C5 := Lib.hid (fun W (hR : W.heap[0]? = some (.cells rc t (0, 0))) => allowed_c m j t W hR)
  have D5 := Lib.hid (fun W => rallowed_c m j W)
  generalize Mm.allowed m j = x at C5 D5
  have hA := Mm.nm_allowed (see e l c s lit n h) hx
  have hq := Mm.nm_in (see e l c s lit n h) m
  generalize Mm.nm (see e l c s lit n h) m = q1 at *
  generalize Mm.nc (see e l c s lit n h) m c = q2 at *
  have C9 := Lib.hid (fun W (hR : W.heap[0]? = some (.cells rc t (0, 0))) => yl m q1 true hA t W hR)
  have k0 : decide (0 ≤ q1) = true := by simpa using hq.1
  have k1 : decide (q1 ≤ 8) = true := by simpa using hq.2
  have k2 : decide (0 ≤ m) = true := by simp only [Mm.exist, Bool.and_eq_true] at hx; exact hx.1
  have k3 : decide (m ≤ 8) = true := by simp only [Mm.exist, Bool.and_eq_true, decide_eq_true_eq] at hx; simp; omega
  clear hA hq hx hE hL h1 h2
  go_enter Tryd.func5, Tryd.ntmps5
  go_upto_region 1 with fail
  generalize hEE : Value.agg (ec e) = E at *
  generalize hLL : Value.agg (lc l) = L at *
  go_upto_region 6 with (first | go_big_skip | (refine ldE' hEE rfl _ rfl _ rfl HV.out.tail.tail.tail.head ?_) | (refine ldL' hLL rfl _ rfl _ rfl HV.out.tail.tail.head ?_) | (go_at_call 9; (with_reducible refine (awake_c t _ HV.out.tail.tail.tail.tail.head).mono ?_); rintro r W ⟨rfl, hb⟩; replace HV := Lib.hid (HV.out.grow hb); clear hb) | (go_at_call 10; (with_reducible refine (F1.out _).mono ?_); rintro r W ⟨rfl, hb⟩; replace HV := Lib.hid (HV.out.grow hb); clear hb) | (go_at_call 11; (with_reducible refine (F2.out _).mono ?_); rintro r W ⟨rfl, hb⟩; replace HV := Lib.hid (HV.out.grow hb); clear hb) | (refine ldp rfl _ rfl _ _ _ rfl HV.out.tail.head ?_) | (refine ldn rfl _ rfl _ _ rfl HV.out.head ?_) | (go_at_call 12; (with_reducible refine (C1.out _ HV.out.old).mono ?_); rintro r W ⟨rfl, hb⟩; replace HV := Lib.hid ((HV.out.grow hb).made (po q1 q2)); clear hb C1; have c0 : (W.alloc (.cells #[.int .i64 q1, .int .i64 q2] 31 (0, 0))).cell? ⟨w.heap.size + 1 + 1, 0, none⟩ = some (.int .i64 m) := (pfld HV.out.h3).1) | fail)
  refine wp_region_noPanic (Lk.wp_region_ordered ord_a6 (S3 w.heap.size W.heap.size m q1 q2) (by kernel_rfl) (by kernel_rfl) (fun _ _ _ _ _ h => h) (by first | (with_reducible exact (s3 HV.out)) | (with_reducible exact (s3 HV.out.drew))) ?_)
  replace HV := Lib.hid HV.out.drew
  iterate 8 (refine Lk.ord_take ?_ rfl rfl ?_ ?_; rotate_left; (focus (intro w' hS; obtain ⟨s1, s2, s3⟩ := hS; first | (refine (rP _ rfl _ rfl s3).trans ?_; with_reducible rfl) | (go_simp; try with_reducible rfl))); simp only [Act.put, List.setIfInBounds_toArray, List.set_cons_zero, List.set_cons_succ])
  refine Lk.ord_step rfl rfl (fun K hK => ?_)
  go_simp
  (with_reducible refine (C5.out _ HV.out.tail.tail.tail.tail.tail.head).mono ?_)
  rintro r W ⟨rfl, hb⟩
  replace HV := Lib.hid (HV.out.grow hb)
  clear hb
  refine hK.out _ _ (by first | (with_reducible exact (s3 HV.out)) | (with_reducible exact (s3 HV.out.drew))) ?_
  clear hK K
  try simp only [Act.put, List.setIfInBounds_toArray, List.set_cons_zero, List.set_cons_succ]
  refine Lk.ord_step rfl rfl (fun K hK => ?_)
  go_simp
  (with_reducible refine (D5.out _).mono ?_)
  rintro r W ⟨rfl, rfl⟩
  refine hK.out _ _ (by first | (with_reducible exact (s3 HV.out)) | (with_reducible exact (s3 HV.out.drew))) ?_
  clear hK K
  try simp only [Act.put, List.setIfInBounds_toArray, List.set_cons_zero, List.set_cons_succ]
  iterate 10 (refine Lk.ord_take ?_ rfl rfl ?_ ?_; rotate_left; (focus (intro w' hS; obtain ⟨s1, s2, s3⟩ := hS; first | (refine (rP _ rfl _ rfl s3).trans ?_; with_reducible rfl) | (go_simp; try with_reducible rfl))); simp only [Act.put, List.setIfInBounds_toArray, List.set_cons_zero, List.set_cons_succ])
  refine Lk.ord_step rfl rfl (fun K hK => ?_)
  go_simp
  (with_reducible refine (C9.out _ HV.out.tail.tail.tail.tail.tail.head).mono ?_)
  rintro r W ⟨rfl, hb⟩
  replace HV := Lib.hid (HV.out.grow hb)
  clear hb
  refine hK.out _ _ (by first | (with_reducible exact (s3 HV.out)) | (with_reducible exact (s3 HV.out.drew))) ?_
  clear hK K
  try simp only [Act.put, List.setIfInBounds_toArray, List.set_cons_zero, List.set_cons_succ]
  iterate 15 (refine Lk.ord_take ?_ rfl rfl ?_ ?_; rotate_left; (focus (intro w' hS; obtain ⟨s1, s2, s3⟩ := hS; first | (refine (rP _ rfl _ rfl s3).trans ?_; with_reducible rfl) | (go_simp; try with_reducible rfl))); simp only [Act.put, List.setIfInBounds_toArray, List.set_cons_zero, List.set_cons_succ])
  refine Lk.ord_skip rfl rfl ?_
  simp only [Act.put, List.setIfInBounds_toArray, List.set_cons_zero, List.set_cons_succ]
  refine Lk.ord_skip rfl rfl ?_
  simp only [Act.put, List.setIfInBounds_toArray, List.set_cons_zero, List.set_cons_succ]
  refine Lk.ord_skip rfl rfl ?_
  simp only [Act.put, List.setIfInBounds_toArray, List.set_cons_zero, List.set_cons_succ]
  iterate 3 (refine Lk.ord_take ?_ rfl rfl ?_ ?_; rotate_left; (focus (intro w' hS; obtain ⟨s1, s2, s3⟩ := hS; first | (refine (rP _ rfl _ rfl s3).trans ?_; with_reducible rfl) | (go_simp; try with_reducible rfl))); simp only [Act.put, List.setIfInBounds_toArray, List.set_cons_zero, List.set_cons_succ])
  refine Lk.ord_nil (NoPanic.normal ?_)
  go_wp2_with fail
  go_ret
  exact ⟨rfl, HV.out.old⟩

set_option maxRecDepth 100000 in
set_option maxHeartbeats 8000000 in
theorem Allows_out (e : Eg) (l : Lg) (m c : Int) (s : Mm.Pan) (lit : Bool) (n h j : Int) (t : TypeId) (w : World) (hE : EngIn w e) (hL : LawIn w l) (hR : w.heap[0]? = some (.cells rc t (0, 0))) (h1 : fewL l = true) (h2 : fewE e = true) (hx : Mm.exist m = false) : Calls Tryd.prog 5 #[.agg (ec e), .agg (lc l), .agg (ph m c), .agg (pn s), .bool lit, .int .i64 n, .int .i64 h, .int .i64 j] w fun r w' => r = .returned (.bool true) ∧ Below w.heap.size w w' := by
  have HV := Lib.hid (four_l hR e l m c s)
  have F1 := Lib.hid (fewl_v h1)
  have F2 := Lib.hid (Ew.few_v h2)
  have C1 := Lib.hid (fun W (hW : Below w.heap.size w W) => next_c e l m c s lit n h t W (hE.below hW) (hL.below hW) (ro hR hW))
  have C5 := Lib.hid (fun W (hR : W.heap[0]? = some (.cells rc t (0, 0))) => allowed_c m j t W hR)
  have D5 := Lib.hid (fun W => rallowed_c m j W)
  generalize Mm.allowed m j = x at C5 D5
  have hq := Mm.next_out (z := see e l c s lit n h) hx c
  rw [hq.1, hq.2] at C1
  clear hE hL h1 h2 hq
  have hm : m < 0 ∨ 8 < m := by simp only [Mm.exist, Bool.and_eq_false_iff, decide_eq_false_iff_not] at hx; omega
  clear hx
  by_cases hm0 : m < 0
  · have k2 : decide (0 ≤ m) = false := by simp; omega
    clear hm hm0
    go_enter Tryd.func5, Tryd.ntmps5
    go_upto_region 1 with fail
    generalize hEE : Value.agg (ec e) = E at *
    generalize hLL : Value.agg (lc l) = L at *
    go_upto_region 6 with (first | go_big_skip | (refine ldE' hEE rfl _ rfl _ rfl HV.out.tail.tail.tail.head ?_) | (refine ldL' hLL rfl _ rfl _ rfl HV.out.tail.tail.head ?_) | (go_at_call 9; (with_reducible refine (awake_c t _ HV.out.tail.tail.tail.tail.head).mono ?_); rintro r W ⟨rfl, hb⟩; replace HV := Lib.hid (HV.out.grow hb); clear hb) | (go_at_call 10; (with_reducible refine (F1.out _).mono ?_); rintro r W ⟨rfl, hb⟩; replace HV := Lib.hid (HV.out.grow hb); clear hb) | (go_at_call 11; (with_reducible refine (F2.out _).mono ?_); rintro r W ⟨rfl, hb⟩; replace HV := Lib.hid (HV.out.grow hb); clear hb) | (refine ldp rfl _ rfl _ _ _ rfl HV.out.tail.head ?_) | (refine ldn rfl _ rfl _ _ rfl HV.out.head ?_) | (go_at_call 12; (with_reducible refine (C1.out _ HV.out.old).mono ?_); rintro r W ⟨rfl, hb⟩; replace HV := Lib.hid ((HV.out.grow hb).made (po 0 0)); clear hb C1; have c0 : (W.alloc (.cells #[.int .i64 0, .int .i64 0] 31 (0, 0))).cell? ⟨w.heap.size + 1 + 1, 0, none⟩ = some (.int .i64 m) := (pfld HV.out.h3).1) | fail)
    refine wp_region_noPanic (Lk.wp_region_ordered ord_a6 (S3 w.heap.size W.heap.size m 0 0) (by kernel_rfl) (by kernel_rfl) (fun _ _ _ _ _ h => h) (by first | (with_reducible exact (s3 HV.out)) | (with_reducible exact (s3 HV.out.drew))) ?_)
    replace HV := Lib.hid HV.out.drew
    iterate 8 (refine Lk.ord_take ?_ rfl rfl ?_ ?_; rotate_left; (focus (intro w' hS; obtain ⟨s1, s2, s3⟩ := hS; first | (refine (rP _ rfl _ rfl s3).trans ?_; with_reducible rfl) | (go_simp; try with_reducible rfl))); simp only [Act.put, List.setIfInBounds_toArray, List.set_cons_zero, List.set_cons_succ])
    refine Lk.ord_step rfl rfl (fun K hK => ?_)
    go_simp
    (with_reducible refine (C5.out _ HV.out.tail.tail.tail.tail.tail.head).mono ?_)
    rintro r W ⟨rfl, hb⟩
    replace HV := Lib.hid (HV.out.grow hb)
    clear hb
    refine hK.out _ _ (by first | (with_reducible exact (s3 HV.out)) | (with_reducible exact (s3 HV.out.drew))) ?_
    clear hK K
    try simp only [Act.put, List.setIfInBounds_toArray, List.set_cons_zero, List.set_cons_succ]
    refine Lk.ord_step rfl rfl (fun K hK => ?_)
    go_simp
    (with_reducible refine (D5.out _).mono ?_)
    rintro r W ⟨rfl, rfl⟩
    refine hK.out _ _ (by first | (with_reducible exact (s3 HV.out)) | (with_reducible exact (s3 HV.out.drew))) ?_
    clear hK K
    try simp only [Act.put, List.setIfInBounds_toArray, List.set_cons_zero, List.set_cons_succ]
    iterate 6 (refine Lk.ord_take ?_ rfl rfl ?_ ?_; rotate_left; (focus (intro w' hS; obtain ⟨s1, s2, s3⟩ := hS; first | (refine (rP _ rfl _ rfl s3).trans ?_; with_reducible rfl) | (go_simp; try with_reducible rfl))); simp only [Act.put, List.setIfInBounds_toArray, List.set_cons_zero, List.set_cons_succ])
    refine Lk.ord_skip rfl rfl ?_
    simp only [Act.put, List.setIfInBounds_toArray, List.set_cons_zero, List.set_cons_succ]
    refine Lk.ord_skip rfl rfl ?_
    simp only [Act.put, List.setIfInBounds_toArray, List.set_cons_zero, List.set_cons_succ]
    refine Lk.ord_skip rfl rfl ?_
    simp only [Act.put, List.setIfInBounds_toArray, List.set_cons_zero, List.set_cons_succ]
    refine Lk.ord_skip rfl rfl ?_
    simp only [Act.put, List.setIfInBounds_toArray, List.set_cons_zero, List.set_cons_succ]
    refine Lk.ord_skip' rfl rfl ?_
    simp only [Act.put, List.setIfInBounds_toArray, List.set_cons_zero, List.set_cons_succ]
    iterate 21 (refine Lk.ord_take ?_ rfl rfl ?_ ?_; rotate_left; (focus (intro w' hS; obtain ⟨s1, s2, s3⟩ := hS; first | (refine (rP _ rfl _ rfl s3).trans ?_; with_reducible rfl) | (go_simp; try with_reducible rfl))); simp only [Act.put, List.setIfInBounds_toArray, List.set_cons_zero, List.set_cons_succ])
    refine Lk.ord_nil (NoPanic.normal ?_)
    go_wp2_with fail
    go_ret
    exact ⟨rfl, HV.out.old⟩
  · have k2 : decide (0 ≤ m) = true := by simp; omega
    have k3 : decide (m ≤ 8) = false := by simp; omega
    clear hm hm0
    go_enter Tryd.func5, Tryd.ntmps5
    go_upto_region 1 with fail
    generalize hEE : Value.agg (ec e) = E at *
    generalize hLL : Value.agg (lc l) = L at *
    go_upto_region 6 with (first | go_big_skip | (refine ldE' hEE rfl _ rfl _ rfl HV.out.tail.tail.tail.head ?_) | (refine ldL' hLL rfl _ rfl _ rfl HV.out.tail.tail.head ?_) | (go_at_call 9; (with_reducible refine (awake_c t _ HV.out.tail.tail.tail.tail.head).mono ?_); rintro r W ⟨rfl, hb⟩; replace HV := Lib.hid (HV.out.grow hb); clear hb) | (go_at_call 10; (with_reducible refine (F1.out _).mono ?_); rintro r W ⟨rfl, hb⟩; replace HV := Lib.hid (HV.out.grow hb); clear hb) | (go_at_call 11; (with_reducible refine (F2.out _).mono ?_); rintro r W ⟨rfl, hb⟩; replace HV := Lib.hid (HV.out.grow hb); clear hb) | (refine ldp rfl _ rfl _ _ _ rfl HV.out.tail.head ?_) | (refine ldn rfl _ rfl _ _ rfl HV.out.head ?_) | (go_at_call 12; (with_reducible refine (C1.out _ HV.out.old).mono ?_); rintro r W ⟨rfl, hb⟩; replace HV := Lib.hid ((HV.out.grow hb).made (po 0 0)); clear hb C1; have c0 : (W.alloc (.cells #[.int .i64 0, .int .i64 0] 31 (0, 0))).cell? ⟨w.heap.size + 1 + 1, 0, none⟩ = some (.int .i64 m) := (pfld HV.out.h3).1) | fail)
    refine wp_region_noPanic (Lk.wp_region_ordered ord_a6 (S3 w.heap.size W.heap.size m 0 0) (by kernel_rfl) (by kernel_rfl) (fun _ _ _ _ _ h => h) (by first | (with_reducible exact (s3 HV.out)) | (with_reducible exact (s3 HV.out.drew))) ?_)
    replace HV := Lib.hid HV.out.drew
    iterate 8 (refine Lk.ord_take ?_ rfl rfl ?_ ?_; rotate_left; (focus (intro w' hS; obtain ⟨s1, s2, s3⟩ := hS; first | (refine (rP _ rfl _ rfl s3).trans ?_; with_reducible rfl) | (go_simp; try with_reducible rfl))); simp only [Act.put, List.setIfInBounds_toArray, List.set_cons_zero, List.set_cons_succ])
    refine Lk.ord_step rfl rfl (fun K hK => ?_)
    go_simp
    (with_reducible refine (C5.out _ HV.out.tail.tail.tail.tail.tail.head).mono ?_)
    rintro r W ⟨rfl, hb⟩
    replace HV := Lib.hid (HV.out.grow hb)
    clear hb
    refine hK.out _ _ (by first | (with_reducible exact (s3 HV.out)) | (with_reducible exact (s3 HV.out.drew))) ?_
    clear hK K
    try simp only [Act.put, List.setIfInBounds_toArray, List.set_cons_zero, List.set_cons_succ]
    refine Lk.ord_step rfl rfl (fun K hK => ?_)
    go_simp
    (with_reducible refine (D5.out _).mono ?_)
    rintro r W ⟨rfl, rfl⟩
    refine hK.out _ _ (by first | (with_reducible exact (s3 HV.out)) | (with_reducible exact (s3 HV.out.drew))) ?_
    clear hK K
    try simp only [Act.put, List.setIfInBounds_toArray, List.set_cons_zero, List.set_cons_succ]
    iterate 6 (refine Lk.ord_take ?_ rfl rfl ?_ ?_; rotate_left; (focus (intro w' hS; obtain ⟨s1, s2, s3⟩ := hS; first | (refine (rP _ rfl _ rfl s3).trans ?_; with_reducible rfl) | (go_simp; try with_reducible rfl))); simp only [Act.put, List.setIfInBounds_toArray, List.set_cons_zero, List.set_cons_succ])
    refine Lk.ord_skip rfl rfl ?_
    simp only [Act.put, List.setIfInBounds_toArray, List.set_cons_zero, List.set_cons_succ]
    refine Lk.ord_skip rfl rfl ?_
    simp only [Act.put, List.setIfInBounds_toArray, List.set_cons_zero, List.set_cons_succ]
    refine Lk.ord_skip rfl rfl ?_
    simp only [Act.put, List.setIfInBounds_toArray, List.set_cons_zero, List.set_cons_succ]
    refine Lk.ord_skip rfl rfl ?_
    simp only [Act.put, List.setIfInBounds_toArray, List.set_cons_zero, List.set_cons_succ]
    refine Lk.ord_skip' rfl rfl ?_
    simp only [Act.put, List.setIfInBounds_toArray, List.set_cons_zero, List.set_cons_succ]
    iterate 21 (refine Lk.ord_take ?_ rfl rfl ?_ ?_; rotate_left; (focus (intro w' hS; obtain ⟨s1, s2, s3⟩ := hS; first | (refine (rP _ rfl _ rfl s3).trans ?_; with_reducible rfl) | (go_simp; try with_reducible rfl))); simp only [Act.put, List.setIfInBounds_toArray, List.set_cons_zero, List.set_cons_succ])
    refine Lk.ord_nil (NoPanic.normal ?_)
    go_wp2_with fail
    go_ret
    exact ⟨rfl, HV.out.old⟩

theorem ModeAllows_walk (e : Eg) (l : Lg) (m c : Int) (s : Mm.Pan) (lit : Bool) (n h j : Int) (t : TypeId) (w : World) (hE : EngIn w e) (hL : LawIn w l) (hR : w.heap[0]? = some (.cells rc t (0, 0))) : Calls Tryd.prog 5 #[.agg (ec e), .agg (lc l), .agg (ph m c), .agg (pn s), .bool lit, .int .i64 n, .int .i64 h, .int .i64 j] w fun r w' => r = .returned (.bool true) ∧ Below w.heap.size w w' := by
  cases h1 : fewL l with
  | false => exact ModeAllows_few1 e l m c s lit n h j t w hR h1
  | true =>
    cases h2 : fewE e with
    | false => exact ModeAllows_few2 e l m c s lit n h j t w hR h1 h2
    | true =>
      cases hx : Mm.exist m with
      | false => exact Allows_out e l m c s lit n h j t w hE hL hR h1 h2 hx
      | true => exact Allows_in e l m c s lit n h j t w hE hL hR h1 h2 hx
end Mw
end Go.Proofs.YtodilljomjhohaaDoor
