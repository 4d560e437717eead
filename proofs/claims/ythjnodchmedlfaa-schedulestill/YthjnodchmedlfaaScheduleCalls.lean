/- schedule.Ask, Allow and Next, and the document's own answers. Printed by gen_calls.py. -/
import Derived.Test.YthjnodchmedlfaaScheduleCheck
import Derived.Test.YthjnodchmedlfaaScheduleRef
import Derived.Test.YthjnodchmedlfaaSynthAwake
import Derived.Test.YthjnodchmedlfaaSynthRCheck
import Derived.Test.YthjnodchmedlfaaFixRef
namespace Go.Proofs.Ythjnodchmedlfaa
namespace Hw
open Go.RowKit TabC Lk Ew FixC

theorem two_el (w : World) (e : Eg) (l : Lg) : Hv w ((w.alloc (eo e)).alloc (lo l)) [(w.heap.size + 1, lo l), (w.heap.size, eo e)] := by
  have := (one_e w e).made (lo l)
  rwa [World.size_alloc] at this
theorem err_0 {l : Lg} (h : Sd.okB (la l) = true) : Sd.err (la l) = 0 := by rw [Sd.err, if_pos h]
theorem err_1 {l : Lg} (h : Sd.okB (la l) = false) : Sd.err (la l) = 140 := by rw [Sd.err, h]; rfl
theorem cl_ok (l : Lg) (w : World) (hL : LawIn w l) (h : Sd.okB (la l) = true) : Calls Try.prog 10 #[.agg (lc l)] w fun r w' => r = .returned (.int .i64 0) ∧ Below w.heap.size w w' := by
  have := check_c l w hL; rwa [err_0 h] at this
theorem cl_no (l : Lg) (w : World) (hL : LawIn w l) (h : Sd.okB (la l) = false) : Calls Try.prog 10 #[.agg (lc l)] w fun r w' => r = .returned (.int .i64 140) ∧ Below w.heap.size w w' := by
  have := check_c l w hL; rwa [err_1 h] at this
theorem rcl_ok (l : Lg) (w : World) (hL : LawIn w l) (h : Sd.okB (la l) = true) : Calls Try.prog 11 #[.agg (lc l)] w fun r w' => r = .returned (.int .i64 0) ∧ Below w.heap.size w w' := by
  have := rcheck_c l w hL; rwa [err_0 h] at this
theorem rcl_no (l : Lg) (w : World) (hL : LawIn w l) (h : Sd.okB (la l) = false) : Calls Try.prog 11 #[.agg (lc l)] w fun r w' => r = .returned (.int .i64 140) ∧ Below w.heap.size w w' := by
  have := rcheck_c l w hL; rwa [err_1 h] at this

theorem ord_ask : Lk.orderedB (Lk.opsOf Try.f12 3) [(0, false), (1, false), (2, false), (3, true), (4, true), (5, false)] = true := by kernel_rfl
theorem ord_allow : Lk.orderedB (Lk.opsOf Try.f14 3) [(0, false), (1, false), (2, false), (3, false), (5, false), (6, false), (7, false), (4, true), (8, true), (9, true), (10, false)] = true := by kernel_rfl
theorem ord_next : Lk.orderedB (Lk.opsOf Try.f16 3) [(0, false), (1, false), (2, false), (3, false), (5, false), (6, false), (4, true), (7, true), (8, false)] = true := by kernel_rfl

set_option maxRecDepth 100000 in
set_option maxHeartbeats 4000000 in
theorem ask_c (e : Eg) (x : Int) (w : World) (hE : EngIn w e) : Calls Try.prog 12 #[.agg (ec e), .int .i64 x] w fun r w' => r = .returned (.int .i64 (Sd.ask (en e) x)) ∧ Below w.heap.size w w' := by
  have HV := Lib.hid (one_e w e)
  have HE := Lib.hid hE
  clear hE
  cases h : Em.okB (en e) with
  | false =>
    have EQ : Hid (Sd.ask (en e) x = 0) := by show _ = _; simp [Sd.ask, h]
    have C1 := Lib.hid (fun W (hW : Below w.heap.size w W) => Ew.check_no e W (HE.out.below hW) h)
    clear h HE
    go_enter Try.func12, Try.ntmps12
    go_wp2_with (first | (refine lde rfl _ rfl _ _ rfl HV.out.head ?_) | (go_at_call 18; (with_reducible refine (C1.out _ HV.out.old).mono ?_); rintro r W ⟨rfl, hb⟩; replace HV := Lib.hid (HV.out.grow hb); clear hb) | fail)
    go_ret
    exact ⟨FixC.ret_int EQ.out.symm, HV.out.old⟩
  | true =>
    have EQ : Hid (Sd.ask (en e) x = Tb.atv e.f.xs e.f.ys (Fx.clamp x 0 1000)) := by show _ = _; rw [Sd.ask, if_pos h]; rfl
    have C1 := Lib.hid (fun W (hW : Below w.heap.size w W) => Ew.check_ok e W (HE.out.below hW) h)
    clear h
    go_enter Try.func12, Try.ntmps12
    go_wp2_with (first | (refine lde rfl _ rfl _ _ rfl HV.out.head ?_) | (go_at_call 18; (with_reducible refine (C1.out _ HV.out.old).mono ?_); rintro r W ⟨rfl, hb⟩; replace HV := Lib.hid (HV.out.grow hb); clear hb) | fail)
    refine wp_region_noPanic (Lk.wp_region_ordered ord_ask (fun V => EFld V w.heap.size e) (by kernel_rfl) (by kernel_rfl) (fun _ _ _ _ _ h => h) (by first | (with_reducible exact efld HV.out.head) | (with_reducible exact efld HV.out.drew.head)) ?_)
    replace HV := Lib.hid HV.out.drew
    iterate 3 (refine Lk.ord_take ?_ rfl rfl ?_ ?_; rotate_left; (focus (intro w' hS; (try dsimp only at hS); go_simp; try with_reducible rfl)); simp only [Act.put, List.setIfInBounds_toArray, List.set_cons_zero, List.set_cons_succ])
    refine Lk.ord_step rfl rfl (fun K hK => ?_)
    go_simp
    (with_reducible refine (clamp_c x 0 1000 _).mono ?_)
    rintro r W ⟨rfl, rfl⟩
    refine hK.out _ _ (by first | (with_reducible exact efld HV.out.head) | (with_reducible exact efld HV.out.drew.head)) ?_
    clear hK K
    try simp only [Act.put, List.setIfInBounds_toArray, List.set_cons_zero, List.set_cons_succ]
    refine Lk.ord_step rfl rfl (fun K hK => ?_)
    go_simp
    (with_reducible refine (atv_c e.f.A e.f.B e.f.ca e.f.cb e.f.xs e.f.ys _ _ (HE.out.f.below HV.out.old)).mono ?_)
    rintro r W ⟨rfl, hb⟩
    replace HV := Lib.hid (HV.out.grow hb)
    clear hb
    refine hK.out _ _ (by first | (with_reducible exact efld HV.out.head) | (with_reducible exact efld HV.out.drew.head)) ?_
    clear hK K
    try simp only [Act.put, List.setIfInBounds_toArray, List.set_cons_zero, List.set_cons_succ]
    iterate 1 (refine Lk.ord_take ?_ rfl rfl ?_ ?_; rotate_left; (focus (intro w' hS; (try dsimp only at hS); go_simp; try with_reducible rfl)); simp only [Act.put, List.setIfInBounds_toArray, List.set_cons_zero, List.set_cons_succ])
    refine Lk.ord_nil (NoPanic.normal ?_)
    go_wp2_with fail
    go_ret
    exact ⟨FixC.ret_int EQ.out.symm, HV.out.old⟩

set_option maxRecDepth 100000 in
set_option maxHeartbeats 4000000 in
theorem allow_c (l : Lg) (n x : Int) (w : World) (hL : LawIn w l) : Calls Try.prog 14 #[.agg (lc l), .int .i64 n, .int .i64 x] w fun r w' => r = .returned (.int .i64 (Sd.allow (la l) n x)) ∧ Below w.heap.size w w' := by
  have HV := Lib.hid (one_l w l)
  have HL := Lib.hid hL
  clear hL
  cases h : Sd.okB (la l) with
  | false =>
    have EQ : Hid (Sd.allow (la l) n x = 0) := by show _ = _; simp [Sd.allow, h]
    have C1 := Lib.hid (fun W (hW : Below w.heap.size w W) => cl_no l W (HL.out.below hW) h)
    clear h HL
    go_enter Try.func14, Try.ntmps14
    go_wp2_with (first | (refine ldl rfl _ rfl _ _ rfl HV.out.head ?_) | (go_at_call 10; (with_reducible refine (C1.out _ HV.out.old).mono ?_); rintro r W ⟨rfl, hb⟩; replace HV := Lib.hid (HV.out.grow hb); clear hb) | fail)
    go_ret
    exact ⟨FixC.ret_int EQ.out.symm, HV.out.old⟩
  | true =>
    have EQ : Hid (Sd.allow (la l) n x = Fx.clamp x (Tb.atv l.d.xs l.d.ys n) (Tb.atv l.a.xs l.a.ys n)) := by show _ = _; rw [Sd.allow, if_pos h]; rfl
    have C1 := Lib.hid (fun W (hW : Below w.heap.size w W) => cl_ok l W (HL.out.below hW) h)
    clear h
    go_enter Try.func14, Try.ntmps14
    go_wp2_with (first | (refine ldl rfl _ rfl _ _ rfl HV.out.head ?_) | (go_at_call 10; (with_reducible refine (C1.out _ HV.out.old).mono ?_); rintro r W ⟨rfl, hb⟩; replace HV := Lib.hid (HV.out.grow hb); clear hb) | fail)
    refine wp_region_noPanic (Lk.wp_region_ordered ord_allow (fun V => LFld V w.heap.size l) (by kernel_rfl) (by kernel_rfl) (fun _ _ _ _ _ h => h) (by first | (with_reducible exact lfld HV.out.head) | (with_reducible exact lfld HV.out.drew.head)) ?_)
    replace HV := Lib.hid HV.out.drew
    iterate 7 (refine Lk.ord_take ?_ rfl rfl ?_ ?_; rotate_left; (focus (intro w' hS; (try dsimp only at hS); go_simp; try with_reducible rfl)); simp only [Act.put, List.setIfInBounds_toArray, List.set_cons_zero, List.set_cons_succ])
    refine Lk.ord_step rfl rfl (fun K hK => ?_)
    go_simp
    (with_reducible refine (atv_c l.d.A l.d.B l.d.ca l.d.cb l.d.xs l.d.ys _ _ (HL.out.d.below HV.out.old)).mono ?_)
    rintro r W ⟨rfl, hb⟩
    replace HV := Lib.hid (HV.out.grow hb)
    clear hb
    refine hK.out _ _ (by first | (with_reducible exact lfld HV.out.head) | (with_reducible exact lfld HV.out.drew.head)) ?_
    clear hK K
    try simp only [Act.put, List.setIfInBounds_toArray, List.set_cons_zero, List.set_cons_succ]
    refine Lk.ord_step rfl rfl (fun K hK => ?_)
    go_simp
    (with_reducible refine (atv_c l.a.A l.a.B l.a.ca l.a.cb l.a.xs l.a.ys _ _ (HL.out.a.below HV.out.old)).mono ?_)
    rintro r W ⟨rfl, hb⟩
    replace HV := Lib.hid (HV.out.grow hb)
    clear hb
    refine hK.out _ _ (by first | (with_reducible exact lfld HV.out.head) | (with_reducible exact lfld HV.out.drew.head)) ?_
    clear hK K
    try simp only [Act.put, List.setIfInBounds_toArray, List.set_cons_zero, List.set_cons_succ]
    refine Lk.ord_step rfl rfl (fun K hK => ?_)
    go_simp
    (with_reducible refine (clamp_c _ _ _ _).mono ?_)
    rintro r W ⟨rfl, rfl⟩
    refine hK.out _ _ (by first | (with_reducible exact lfld HV.out.head) | (with_reducible exact lfld HV.out.drew.head)) ?_
    clear hK K
    try simp only [Act.put, List.setIfInBounds_toArray, List.set_cons_zero, List.set_cons_succ]
    iterate 1 (refine Lk.ord_take ?_ rfl rfl ?_ ?_; rotate_left; (focus (intro w' hS; (try dsimp only at hS); go_simp; try with_reducible rfl)); simp only [Act.put, List.setIfInBounds_toArray, List.set_cons_zero, List.set_cons_succ])
    refine Lk.ord_nil (NoPanic.normal ?_)
    go_wp2_with fail
    go_ret
    exact ⟨FixC.ret_int EQ.out.symm, HV.out.old⟩

set_option maxRecDepth 100000 in
set_option maxHeartbeats 4000000 in
theorem next_c (e : Eg) (l : Lg) (n v x : Int) (w : World) (hE : EngIn w e) (hL : LawIn w l) : Calls Try.prog 16 #[.agg (ec e), .agg (lc l), .int .i64 n, .int .i64 v, .int .i64 x] w fun r w' => r = .returned (.int .i64 (Sd.next (en e) (la l) n v x)) ∧ Below w.heap.size w w' := by
  have HV := Lib.hid (two_el w e l)
  have HE := Lib.hid hE
  have HL := Lib.hid hL
  clear hE hL
  cases h : Em.okB (en e) with
  | false =>
    have EQ : Hid (Sd.next (en e) (la l) n v x = 0) := by show _ = _; simp [Sd.next, h]
    have C1 := Lib.hid (fun W (hW : Below w.heap.size w W) => Ew.check_no e W (HE.out.below hW) h)
    clear h HE HL
    go_enter Try.func16, Try.ntmps16
    go_wp2_with (first | (refine lde rfl _ rfl _ _ rfl HV.out.h2 ?_) | (go_at_call 18; (with_reducible refine (C1.out _ HV.out.old).mono ?_); rintro r W ⟨rfl, hb⟩; replace HV := Lib.hid (HV.out.grow hb); clear hb) | fail)
    go_ret
    exact ⟨FixC.ret_int EQ.out.symm, HV.out.old⟩
  | true =>
    have C1 := Lib.hid (fun W (hW : Below w.heap.size w W) => Ew.check_ok e W (HE.out.below hW) h)
    cases k : Sd.okB (la l) with
    | false =>
      have EQ : Hid (Sd.next (en e) (la l) n v x = 0) := by show _ = _; simp [Sd.next, k]
      have C2 := Lib.hid (fun W (hW : Below w.heap.size w W) => cl_no l W (HL.out.below hW) k)
      clear h k HE HL
      go_enter Try.func16, Try.ntmps16
      go_wp2_with (first | (refine lde rfl _ rfl _ _ rfl HV.out.h2 ?_) | (refine ldl rfl _ rfl _ _ rfl HV.out.head ?_) | (go_at_call 18; (with_reducible refine (C1.out _ HV.out.old).mono ?_); rintro r W ⟨rfl, hb⟩; replace HV := Lib.hid (HV.out.grow hb); clear hb) | (go_at_call 10; (with_reducible refine (C2.out _ HV.out.old).mono ?_); rintro r W ⟨rfl, hb⟩; replace HV := Lib.hid (HV.out.grow hb); clear hb) | fail)
      go_ret
      exact ⟨FixC.ret_int EQ.out.symm, HV.out.old⟩
    | true =>
      have EQ : Hid (Sd.next (en e) (la l) n v x = Fx.slew v (Sd.allow (la l) n x) e.slew) := by show _ = _; rw [Sd.next, h, k, Sd.allow, k]; rfl
      have C2 := Lib.hid (fun W (hW : Below w.heap.size w W) => cl_ok l W (HL.out.below hW) k)
      have C3 := Lib.hid (fun W (hW : Below w.heap.size w W) => allow_c l n x W (HL.out.below hW))
      clear h k HE HL
      go_enter Try.func16, Try.ntmps16
      go_wp2_with (first | (refine lde rfl _ rfl _ _ rfl HV.out.h2 ?_) | (refine ldl rfl _ rfl _ _ rfl HV.out.head ?_) | (go_at_call 18; (with_reducible refine (C1.out _ HV.out.old).mono ?_); rintro r W ⟨rfl, hb⟩; replace HV := Lib.hid (HV.out.grow hb); clear hb) | (go_at_call 10; (with_reducible refine (C2.out _ HV.out.old).mono ?_); rintro r W ⟨rfl, hb⟩; replace HV := Lib.hid (HV.out.grow hb); clear hb) | fail)
      refine wp_region_noPanic (Lk.wp_region_ordered ord_next (fun V => EFld V w.heap.size e ∧ LFld V (w.heap.size + 1) l) (by kernel_rfl) (by kernel_rfl) (fun _ _ _ _ _ h => h) (by first | (with_reducible exact ⟨efld HV.out.h2, lfld HV.out.head⟩) | (with_reducible exact ⟨efld HV.out.drew.h2, lfld HV.out.drew.head⟩)) ?_)
      replace HV := Lib.hid HV.out.drew
      iterate 6 (refine Lk.ord_take ?_ rfl rfl ?_ ?_; rotate_left; (focus (intro w' hS; (try dsimp only at hS); go_simp; try with_reducible rfl)); simp only [Act.put, List.setIfInBounds_toArray, List.set_cons_zero, List.set_cons_succ])
      refine Lk.ord_step rfl rfl (fun K hK => ?_)
      go_simp
      (with_reducible refine (C3.out _ HV.out.old).mono ?_)
      rintro r W ⟨rfl, hb⟩
      replace HV := Lib.hid (HV.out.grow hb)
      clear hb
      refine hK.out _ _ (by first | (with_reducible exact ⟨efld HV.out.h2, lfld HV.out.head⟩) | (with_reducible exact ⟨efld HV.out.drew.h2, lfld HV.out.drew.head⟩)) ?_
      clear hK K
      try simp only [Act.put, List.setIfInBounds_toArray, List.set_cons_zero, List.set_cons_succ]
      refine Lk.ord_step rfl rfl (fun K hK => ?_)
      go_simp
      (with_reducible refine (slew_c _ _ _ _).mono ?_)
      rintro r W ⟨rfl, rfl⟩
      refine hK.out _ _ (by first | (with_reducible exact ⟨efld HV.out.h2, lfld HV.out.head⟩) | (with_reducible exact ⟨efld HV.out.drew.h2, lfld HV.out.drew.head⟩)) ?_
      clear hK K
      try simp only [Act.put, List.setIfInBounds_toArray, List.set_cons_zero, List.set_cons_succ]
      iterate 1 (refine Lk.ord_take ?_ rfl rfl ?_ ?_; rotate_left; (focus (intro w' hS; (try dsimp only at hS); go_simp; try with_reducible rfl)); simp only [Act.put, List.setIfInBounds_toArray, List.set_cons_zero, List.set_cons_succ])
      refine Lk.ord_nil (NoPanic.normal ?_)
      go_wp2_with fail
      go_ret
      exact ⟨FixC.ret_int EQ.out.symm, HV.out.old⟩

theorem rord_ask : Lk.orderedB (Lk.opsOf Try.f13 3) [(0, false), (1, false), (2, false), (3, true), (4, true), (5, false)] = true := by kernel_rfl
theorem rord_allow : Lk.orderedB (Lk.opsOf Try.f15 3) [(0, false), (1, false), (2, false), (3, false), (5, false), (6, false), (7, false), (4, true), (8, true), (9, true), (10, false)] = true := by kernel_rfl
theorem rord_next : Lk.orderedB (Lk.opsOf Try.f17 3) [(0, false), (1, false), (2, false), (3, false), (5, false), (6, false), (4, true), (7, true), (8, false)] = true := by kernel_rfl

set_option maxRecDepth 100000 in
set_option maxHeartbeats 4000000 in
theorem rask_c (e : Eg) (x : Int) (w : World) (hE : EngIn w e) : Calls Try.prog 13 #[.agg (ec e), .int .i64 x] w fun r w' => r = .returned (.int .i64 (Sd.ask (en e) x)) ∧ Below w.heap.size w w' := by
  have HV := Lib.hid (one_e w e)
  have HE := Lib.hid hE
  clear hE
  cases h : Em.okB (en e) with
  | false =>
    have EQ : Hid (Sd.ask (en e) x = 0) := by show _ = _; simp [Sd.ask, h]
    have C1 := Lib.hid (fun W (hW : Below w.heap.size w W) => Ew.rcheck_no e W (HE.out.below hW) h)
    clear h HE
    go_enter Try.func13, Try.ntmps13
    go_wp2_with (first | (refine lde rfl _ rfl _ _ rfl HV.out.head ?_) | (go_at_call 31; (with_reducible refine (C1.out _ HV.out.old).mono ?_); rintro r W ⟨rfl, hb⟩; replace HV := Lib.hid (HV.out.grow hb); clear hb) | fail)
    go_ret
    exact ⟨FixC.ret_int EQ.out.symm, HV.out.old⟩
  | true =>
    have EQ : Hid (Sd.ask (en e) x = Tb.atv e.f.xs e.f.ys (Fx.clamp x 0 1000)) := by show _ = _; rw [Sd.ask, if_pos h]; rfl
    have C1 := Lib.hid (fun W (hW : Below w.heap.size w W) => Ew.rcheck_ok e W (HE.out.below hW) h)
    clear h
    go_enter Try.func13, Try.ntmps13
    go_wp2_with (first | (refine lde rfl _ rfl _ _ rfl HV.out.head ?_) | (go_at_call 31; (with_reducible refine (C1.out _ HV.out.old).mono ?_); rintro r W ⟨rfl, hb⟩; replace HV := Lib.hid (HV.out.grow hb); clear hb) | fail)
    refine wp_region_noPanic (Lk.wp_region_ordered rord_ask (fun V => EFld V w.heap.size e) (by kernel_rfl) (by kernel_rfl) (fun _ _ _ _ _ h => h) (by first | (with_reducible exact efld HV.out.head) | (with_reducible exact efld HV.out.drew.head)) ?_)
    replace HV := Lib.hid HV.out.drew
    iterate 3 (refine Lk.ord_take ?_ rfl rfl ?_ ?_; rotate_left; (focus (intro w' hS; (try dsimp only at hS); go_simp; try with_reducible rfl)); simp only [Act.put, List.setIfInBounds_toArray, List.set_cons_zero, List.set_cons_succ])
    refine Lk.ord_step rfl rfl (fun K hK => ?_)
    go_simp
    (with_reducible refine (rclamp_c x 0 1000 _).mono ?_)
    rintro r W ⟨rfl, rfl⟩
    refine hK.out _ _ (by first | (with_reducible exact efld HV.out.head) | (with_reducible exact efld HV.out.drew.head)) ?_
    clear hK K
    try simp only [Act.put, List.setIfInBounds_toArray, List.set_cons_zero, List.set_cons_succ]
    refine Lk.ord_step rfl rfl (fun K hK => ?_)
    go_simp
    (with_reducible refine (rat_c e.f.A e.f.B e.f.ca e.f.cb e.f.xs e.f.ys _ _ (HE.out.f.below HV.out.old)).mono ?_)
    rintro r W ⟨rfl, hb⟩
    replace HV := Lib.hid (HV.out.grow hb)
    clear hb
    refine hK.out _ _ (by first | (with_reducible exact efld HV.out.head) | (with_reducible exact efld HV.out.drew.head)) ?_
    clear hK K
    try simp only [Act.put, List.setIfInBounds_toArray, List.set_cons_zero, List.set_cons_succ]
    iterate 1 (refine Lk.ord_take ?_ rfl rfl ?_ ?_; rotate_left; (focus (intro w' hS; (try dsimp only at hS); go_simp; try with_reducible rfl)); simp only [Act.put, List.setIfInBounds_toArray, List.set_cons_zero, List.set_cons_succ])
    refine Lk.ord_nil (NoPanic.normal ?_)
    go_wp2_with fail
    go_ret
    exact ⟨FixC.ret_int EQ.out.symm, HV.out.old⟩

set_option maxRecDepth 100000 in
set_option maxHeartbeats 4000000 in
theorem rallow_c (l : Lg) (n x : Int) (w : World) (hL : LawIn w l) : Calls Try.prog 15 #[.agg (lc l), .int .i64 n, .int .i64 x] w fun r w' => r = .returned (.int .i64 (Sd.allow (la l) n x)) ∧ Below w.heap.size w w' := by
  have HV := Lib.hid (one_l w l)
  have HL := Lib.hid hL
  clear hL
  cases h : Sd.okB (la l) with
  | false =>
    have EQ : Hid (Sd.allow (la l) n x = 0) := by show _ = _; simp [Sd.allow, h]
    have C1 := Lib.hid (fun W (hW : Below w.heap.size w W) => rcl_no l W (HL.out.below hW) h)
    clear h HL
    go_enter Try.func15, Try.ntmps15
    go_wp2_with (first | (refine ldl rfl _ rfl _ _ rfl HV.out.head ?_) | (go_at_call 11; (with_reducible refine (C1.out _ HV.out.old).mono ?_); rintro r W ⟨rfl, hb⟩; replace HV := Lib.hid (HV.out.grow hb); clear hb) | fail)
    go_ret
    exact ⟨FixC.ret_int EQ.out.symm, HV.out.old⟩
  | true =>
    have EQ : Hid (Sd.allow (la l) n x = Fx.clamp x (Tb.atv l.d.xs l.d.ys n) (Tb.atv l.a.xs l.a.ys n)) := by show _ = _; rw [Sd.allow, if_pos h]; rfl
    have C1 := Lib.hid (fun W (hW : Below w.heap.size w W) => rcl_ok l W (HL.out.below hW) h)
    clear h
    go_enter Try.func15, Try.ntmps15
    go_wp2_with (first | (refine ldl rfl _ rfl _ _ rfl HV.out.head ?_) | (go_at_call 11; (with_reducible refine (C1.out _ HV.out.old).mono ?_); rintro r W ⟨rfl, hb⟩; replace HV := Lib.hid (HV.out.grow hb); clear hb) | fail)
    refine wp_region_noPanic (Lk.wp_region_ordered rord_allow (fun V => LFld V w.heap.size l) (by kernel_rfl) (by kernel_rfl) (fun _ _ _ _ _ h => h) (by first | (with_reducible exact lfld HV.out.head) | (with_reducible exact lfld HV.out.drew.head)) ?_)
    replace HV := Lib.hid HV.out.drew
    iterate 7 (refine Lk.ord_take ?_ rfl rfl ?_ ?_; rotate_left; (focus (intro w' hS; (try dsimp only at hS); go_simp; try with_reducible rfl)); simp only [Act.put, List.setIfInBounds_toArray, List.set_cons_zero, List.set_cons_succ])
    refine Lk.ord_step rfl rfl (fun K hK => ?_)
    go_simp
    (with_reducible refine (rat_c l.d.A l.d.B l.d.ca l.d.cb l.d.xs l.d.ys _ _ (HL.out.d.below HV.out.old)).mono ?_)
    rintro r W ⟨rfl, hb⟩
    replace HV := Lib.hid (HV.out.grow hb)
    clear hb
    refine hK.out _ _ (by first | (with_reducible exact lfld HV.out.head) | (with_reducible exact lfld HV.out.drew.head)) ?_
    clear hK K
    try simp only [Act.put, List.setIfInBounds_toArray, List.set_cons_zero, List.set_cons_succ]
    refine Lk.ord_step rfl rfl (fun K hK => ?_)
    go_simp
    (with_reducible refine (rat_c l.a.A l.a.B l.a.ca l.a.cb l.a.xs l.a.ys _ _ (HL.out.a.below HV.out.old)).mono ?_)
    rintro r W ⟨rfl, hb⟩
    replace HV := Lib.hid (HV.out.grow hb)
    clear hb
    refine hK.out _ _ (by first | (with_reducible exact lfld HV.out.head) | (with_reducible exact lfld HV.out.drew.head)) ?_
    clear hK K
    try simp only [Act.put, List.setIfInBounds_toArray, List.set_cons_zero, List.set_cons_succ]
    refine Lk.ord_step rfl rfl (fun K hK => ?_)
    go_simp
    (with_reducible refine (rclamp_c _ _ _ _).mono ?_)
    rintro r W ⟨rfl, rfl⟩
    refine hK.out _ _ (by first | (with_reducible exact lfld HV.out.head) | (with_reducible exact lfld HV.out.drew.head)) ?_
    clear hK K
    try simp only [Act.put, List.setIfInBounds_toArray, List.set_cons_zero, List.set_cons_succ]
    iterate 1 (refine Lk.ord_take ?_ rfl rfl ?_ ?_; rotate_left; (focus (intro w' hS; (try dsimp only at hS); go_simp; try with_reducible rfl)); simp only [Act.put, List.setIfInBounds_toArray, List.set_cons_zero, List.set_cons_succ])
    refine Lk.ord_nil (NoPanic.normal ?_)
    go_wp2_with fail
    go_ret
    exact ⟨FixC.ret_int EQ.out.symm, HV.out.old⟩

set_option maxRecDepth 100000 in
set_option maxHeartbeats 4000000 in
theorem rnext_c (e : Eg) (l : Lg) (n v x : Int) (w : World) (hE : EngIn w e) (hL : LawIn w l) : Calls Try.prog 17 #[.agg (ec e), .agg (lc l), .int .i64 n, .int .i64 v, .int .i64 x] w fun r w' => r = .returned (.int .i64 (Sd.next (en e) (la l) n v x)) ∧ Below w.heap.size w w' := by
  have HV := Lib.hid (two_el w e l)
  have HE := Lib.hid hE
  have HL := Lib.hid hL
  clear hE hL
  cases h : Em.okB (en e) with
  | false =>
    have EQ : Hid (Sd.next (en e) (la l) n v x = 0) := by show _ = _; simp [Sd.next, h]
    have C1 := Lib.hid (fun W (hW : Below w.heap.size w W) => Ew.rcheck_no e W (HE.out.below hW) h)
    clear h HE HL
    go_enter Try.func17, Try.ntmps17
    go_wp2_with (first | (refine lde rfl _ rfl _ _ rfl HV.out.h2 ?_) | (go_at_call 31; (with_reducible refine (C1.out _ HV.out.old).mono ?_); rintro r W ⟨rfl, hb⟩; replace HV := Lib.hid (HV.out.grow hb); clear hb) | fail)
    go_ret
    exact ⟨FixC.ret_int EQ.out.symm, HV.out.old⟩
  | true =>
    have C1 := Lib.hid (fun W (hW : Below w.heap.size w W) => Ew.rcheck_ok e W (HE.out.below hW) h)
    cases k : Sd.okB (la l) with
    | false =>
      have EQ : Hid (Sd.next (en e) (la l) n v x = 0) := by show _ = _; simp [Sd.next, k]
      have C2 := Lib.hid (fun W (hW : Below w.heap.size w W) => rcl_no l W (HL.out.below hW) k)
      clear h k HE HL
      go_enter Try.func17, Try.ntmps17
      go_wp2_with (first | (refine lde rfl _ rfl _ _ rfl HV.out.h2 ?_) | (refine ldl rfl _ rfl _ _ rfl HV.out.head ?_) | (go_at_call 31; (with_reducible refine (C1.out _ HV.out.old).mono ?_); rintro r W ⟨rfl, hb⟩; replace HV := Lib.hid (HV.out.grow hb); clear hb) | (go_at_call 11; (with_reducible refine (C2.out _ HV.out.old).mono ?_); rintro r W ⟨rfl, hb⟩; replace HV := Lib.hid (HV.out.grow hb); clear hb) | fail)
      go_ret
      exact ⟨FixC.ret_int EQ.out.symm, HV.out.old⟩
    | true =>
      have EQ : Hid (Sd.next (en e) (la l) n v x = Fx.slew v (Sd.allow (la l) n x) e.slew) := by show _ = _; rw [Sd.next, h, k, Sd.allow, k]; rfl
      have C2 := Lib.hid (fun W (hW : Below w.heap.size w W) => rcl_ok l W (HL.out.below hW) k)
      have C3 := Lib.hid (fun W (hW : Below w.heap.size w W) => rallow_c l n x W (HL.out.below hW))
      clear h k HE HL
      go_enter Try.func17, Try.ntmps17
      go_wp2_with (first | (refine lde rfl _ rfl _ _ rfl HV.out.h2 ?_) | (refine ldl rfl _ rfl _ _ rfl HV.out.head ?_) | (go_at_call 31; (with_reducible refine (C1.out _ HV.out.old).mono ?_); rintro r W ⟨rfl, hb⟩; replace HV := Lib.hid (HV.out.grow hb); clear hb) | (go_at_call 11; (with_reducible refine (C2.out _ HV.out.old).mono ?_); rintro r W ⟨rfl, hb⟩; replace HV := Lib.hid (HV.out.grow hb); clear hb) | fail)
      refine wp_region_noPanic (Lk.wp_region_ordered rord_next (fun V => EFld V w.heap.size e ∧ LFld V (w.heap.size + 1) l) (by kernel_rfl) (by kernel_rfl) (fun _ _ _ _ _ h => h) (by first | (with_reducible exact ⟨efld HV.out.h2, lfld HV.out.head⟩) | (with_reducible exact ⟨efld HV.out.drew.h2, lfld HV.out.drew.head⟩)) ?_)
      replace HV := Lib.hid HV.out.drew
      iterate 6 (refine Lk.ord_take ?_ rfl rfl ?_ ?_; rotate_left; (focus (intro w' hS; (try dsimp only at hS); go_simp; try with_reducible rfl)); simp only [Act.put, List.setIfInBounds_toArray, List.set_cons_zero, List.set_cons_succ])
      refine Lk.ord_step rfl rfl (fun K hK => ?_)
      go_simp
      (with_reducible refine (C3.out _ HV.out.old).mono ?_)
      rintro r W ⟨rfl, hb⟩
      replace HV := Lib.hid (HV.out.grow hb)
      clear hb
      refine hK.out _ _ (by first | (with_reducible exact ⟨efld HV.out.h2, lfld HV.out.head⟩) | (with_reducible exact ⟨efld HV.out.drew.h2, lfld HV.out.drew.head⟩)) ?_
      clear hK K
      try simp only [Act.put, List.setIfInBounds_toArray, List.set_cons_zero, List.set_cons_succ]
      refine Lk.ord_step rfl rfl (fun K hK => ?_)
      go_simp
      (with_reducible refine (rslew_c _ _ _ _).mono ?_)
      rintro r W ⟨rfl, rfl⟩
      refine hK.out _ _ (by first | (with_reducible exact ⟨efld HV.out.h2, lfld HV.out.head⟩) | (with_reducible exact ⟨efld HV.out.drew.h2, lfld HV.out.drew.head⟩)) ?_
      clear hK K
      try simp only [Act.put, List.setIfInBounds_toArray, List.set_cons_zero, List.set_cons_succ]
      iterate 1 (refine Lk.ord_take ?_ rfl rfl ?_ ?_; rotate_left; (focus (intro w' hS; (try dsimp only at hS); go_simp; try with_reducible rfl)); simp only [Act.put, List.setIfInBounds_toArray, List.set_cons_zero, List.set_cons_succ])
      refine Lk.ord_nil (NoPanic.normal ?_)
      go_wp2_with fail
      go_ret
      exact ⟨FixC.ret_int EQ.out.symm, HV.out.old⟩

end Hw
end Go.Proofs.Ythjnodchmedlfaa
