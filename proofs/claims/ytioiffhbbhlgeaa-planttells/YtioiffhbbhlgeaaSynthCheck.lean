/- synth.Check: whether an engine may be. -/
import Derived.Test.YtioiffhbbhlgeaaSynthFld
import Derived.Test.YtioiffhbbhlgeaaMixKit
namespace Go.Proofs.Ytioiffhbbhlgeaa
namespace Ew
open Go.RowKit TabC Lk

theorem rising_w (e : Eg) (w : World) (hE : EngIn w e) {b : Bool} (hb : Em.tabs (en e) = b) : Calls Try.prog 42 #[.agg (ec e), .slice (some ⟨w.heap.size + 1, 0, none⟩) 4 4] ((w.alloc (eo e)).alloc po).drew fun r w' => r = .returned (.bool b) ∧ Hv w w' [(w.heap.size, eo e)] := by
  have h := ((one_e w e).made po).drew
  have := h.head
  rw [World.size_alloc] at this
  refine (rising_all e (w.heap.size + 1) _ (hE.below h.old) this).mono fun r w' ⟨h1, h2⟩ => ⟨by rw [h1, hb], (h.grow h2).tail⟩
theorem w1 (lo hi a : Int) {b : Bool} (hb : Em.within a lo hi = b) (W : World) : Calls Try.prog 47 #[.int .i64 lo, .int .i64 hi, .slice (some ⟨W.heap.size, 0, none⟩) 1 1] (W.alloc (.cells #[.int .i64 a] 3 (0, 0))) fun r w' => r = .returned (.bool b) ∧ Below W.heap.size W w' :=
  (within1 lo hi a W.heap.size _ (heap_alloc_last W _)).mono fun r w' ⟨h1, h2⟩ => ⟨by rw [h1, hb], h2 ▸ (Below.refl W.heap.size W).alloc (Nat.le_refl _) _⟩
theorem w2 (lo hi a a' : Int) {b : Bool} (hb : (Em.within a lo hi && Em.within a' lo hi) = b) (W : World) : Calls Try.prog 47 #[.int .i64 lo, .int .i64 hi, .slice (some ⟨W.heap.size, 0, none⟩) 2 2] (W.alloc (.cells #[.int .i64 a, .int .i64 a'] 3 (0, 0))) fun r w' => r = .returned (.bool b) ∧ Below W.heap.size W w' :=
  (within2 lo hi a a' W.heap.size _ (heap_alloc_last W _)).mono fun r w' ⟨h1, h2⟩ => ⟨by rw [h1, hb], h2 ▸ (Below.refl W.heap.size W).alloc (Nat.le_refl _) _⟩
theorem w3 (lo hi a a' a'' : Int) {b : Bool} (hb : (Em.within a lo hi && Em.within a' lo hi && Em.within a'' lo hi) = b) (W : World) : Calls Try.prog 47 #[.int .i64 lo, .int .i64 hi, .slice (some ⟨W.heap.size, 0, none⟩) 3 3] (W.alloc (.cells #[.int .i64 a, .int .i64 a', .int .i64 a''] 3 (0, 0))) fun r w' => r = .returned (.bool b) ∧ Below W.heap.size W w' :=
  (within3 lo hi a a' a'' W.heap.size _ (heap_alloc_last W _)).mono fun r w' ⟨h1, h2⟩ => ⟨by rw [h1, hb], h2 ▸ (Below.refl W.heap.size W).alloc (Nat.le_refl _) _⟩

/-- The six things that are asked, in order. -/
theorem six (e : Em.En) : Em.okB e = (Em.tabs e && (Em.within e.lag2 1 64 && Em.within e.lag1 1 64 && Em.within e.lagE 1 64) && Em.within e.slew 1 1048576 && (Em.within e.starter 0 1048576 && Em.within e.disturb 0 1048576) && Em.within e.light 0 e.starter && Em.within e.lean 1 (Tb.g e.fy 0)) := by
  cases h : Em.tabs e with
  | false => simp [Em.okB, h]
  | true =>
    have hf : Em.Ri e.fx e.fy := by
      simp only [Em.tabs, Bool.and_eq_true, Em.ri_iff] at h
      exact h.1.1.1
    have h2 := hf.ok.two
    have hy := hf.ok.yb 0 (by omega)
    rw [Bool.eq_iff_iff]
    simp only [Em.okB, h, Em.lags, Em.nums, Em.rest3, Em.within, Bool.and_eq_true, decide_eq_true_eq, true_and]
    omega

theorem ord_check : Lk.mixedB (Lk.opsOf Try.f17 1) [false, true, true, false, false, false, false, false, false, false, true, true, false, false, false, false, true, true, false, false, false, false, false, false, true, true, false, false, false, false, false, false, true, true, false, false, false, false, false, false, false, false, false, true, true, false, false] = true := by kernel_rfl

set_option maxRecDepth 100000 in
set_option maxHeartbeats 8000000 in
theorem check_0 (e : Eg) (w : World) (hE : EngIn w e) (h0 : Em.tabs (en e) = false) : Calls Try.prog 17 #[.agg (ec e)] w fun r w' => r = .returned (.int .i64 100) ∧ Below w.heap.size w w' := by
  have HV := Lib.hid (one_e w e)
  have C0 := Lib.hid (rising_w e w hE h0)
  clear hE h0
  go_enter Try.func17, Try.ntmps17
  go_wp2_with fail
  refine wp_region_noPanic (Lk.wp_region_mix ord_check (fun V => EFld V w.heap.size e) (by kernel_rfl) (by kernel_rfl) (fun _ _ _ _ _ h => h) (by first | exact efld HV.out.head | exact efld HV.out.drew.head | exact efld (HV.out.alloc _).head | exact efld (HV.out.alloc _).drew.head) ?_)
  replace HV := Lib.hid HV.out.drew
  iterate 1 (refine Lk.mix_take ?_ rfl ?_ ?_; rotate_left; (focus (intro w' hS; (try dsimp only at hS); go_simp; try with_reducible rfl)); simp only [Act.put, List.setIfInBounds_toArray, List.set_cons_zero, List.set_cons_succ])
  refine Lk.mix_step rfl (fun K hK => ?_)
  go_simp
  refine hK.out _ _ (by first | exact efld HV.out.head | exact efld HV.out.drew.head | exact efld (HV.out.alloc _).head | exact efld (HV.out.alloc _).drew.head) ?_
  clear hK K
  try simp only [Act.put, List.setIfInBounds_toArray, List.set_cons_zero, List.set_cons_succ]
  refine Lk.mix_step rfl (fun K hK => ?_)
  go_simp
  (with_reducible refine C0.out.mono ?_)
  rintro r W1 ⟨rfl, hv⟩
  replace HV := Lib.hid hv
  clear hv C0
  refine hK.out _ _ (by first | exact efld HV.out.head | exact efld HV.out.drew.head | exact efld (HV.out.alloc _).head | exact efld (HV.out.alloc _).drew.head) ?_
  clear hK K
  try simp only [Act.put, List.setIfInBounds_toArray, List.set_cons_zero, List.set_cons_succ]
  iterate 1 (refine Lk.mix_take ?_ rfl ?_ ?_; rotate_left; (focus (intro w' hS; (try dsimp only at hS); go_simp; try with_reducible rfl)); simp only [Act.put, List.setIfInBounds_toArray, List.set_cons_zero, List.set_cons_succ])
  iterate 6 (refine Lk.mix_skip rfl ?_; simp only [Act.put, List.setIfInBounds_toArray, List.set_cons_zero, List.set_cons_succ])
  iterate 2 (refine Lk.mix_skip' rfl ?_; simp only [Act.put, List.setIfInBounds_toArray, List.set_cons_zero, List.set_cons_succ])
  iterate 2 (refine Lk.mix_take ?_ rfl ?_ ?_; rotate_left; (focus (intro w' hS; (try dsimp only at hS); go_simp; try with_reducible rfl)); simp only [Act.put, List.setIfInBounds_toArray, List.set_cons_zero, List.set_cons_succ])
  iterate 2 (refine Lk.mix_skip rfl ?_; simp only [Act.put, List.setIfInBounds_toArray, List.set_cons_zero, List.set_cons_succ])
  iterate 2 (refine Lk.mix_skip' rfl ?_; simp only [Act.put, List.setIfInBounds_toArray, List.set_cons_zero, List.set_cons_succ])
  iterate 2 (refine Lk.mix_take ?_ rfl ?_ ?_; rotate_left; (focus (intro w' hS; (try dsimp only at hS); go_simp; try with_reducible rfl)); simp only [Act.put, List.setIfInBounds_toArray, List.set_cons_zero, List.set_cons_succ])
  iterate 4 (refine Lk.mix_skip rfl ?_; simp only [Act.put, List.setIfInBounds_toArray, List.set_cons_zero, List.set_cons_succ])
  iterate 2 (refine Lk.mix_skip' rfl ?_; simp only [Act.put, List.setIfInBounds_toArray, List.set_cons_zero, List.set_cons_succ])
  iterate 2 (refine Lk.mix_take ?_ rfl ?_ ?_; rotate_left; (focus (intro w' hS; (try dsimp only at hS); go_simp; try with_reducible rfl)); simp only [Act.put, List.setIfInBounds_toArray, List.set_cons_zero, List.set_cons_succ])
  iterate 4 (refine Lk.mix_skip rfl ?_; simp only [Act.put, List.setIfInBounds_toArray, List.set_cons_zero, List.set_cons_succ])
  iterate 2 (refine Lk.mix_skip' rfl ?_; simp only [Act.put, List.setIfInBounds_toArray, List.set_cons_zero, List.set_cons_succ])
  iterate 2 (refine Lk.mix_take ?_ rfl ?_ ?_; rotate_left; (focus (intro w' hS; (try dsimp only at hS); go_simp; try with_reducible rfl)); simp only [Act.put, List.setIfInBounds_toArray, List.set_cons_zero, List.set_cons_succ])
  iterate 7 (refine Lk.mix_skip rfl ?_; simp only [Act.put, List.setIfInBounds_toArray, List.set_cons_zero, List.set_cons_succ])
  iterate 2 (refine Lk.mix_skip' rfl ?_; simp only [Act.put, List.setIfInBounds_toArray, List.set_cons_zero, List.set_cons_succ])
  iterate 2 (refine Lk.mix_take ?_ rfl ?_ ?_; rotate_left; (focus (intro w' hS; (try dsimp only at hS); go_simp; try with_reducible rfl)); simp only [Act.put, List.setIfInBounds_toArray, List.set_cons_zero, List.set_cons_succ])
  refine Lk.mix_nil (NoPanic.normal ?_)
  go_wp2_with fail
  go_ret
  exact ⟨rfl, HV.out.old⟩

set_option maxRecDepth 100000 in
set_option maxHeartbeats 8000000 in
theorem check_1 (e : Eg) (w : World) (hE : EngIn w e) (h0 : Em.tabs (en e) = true) (h1 : (Em.within e.lag2 1 64 && Em.within e.lag1 1 64 && Em.within e.lagE 1 64) = false) : Calls Try.prog 17 #[.agg (ec e)] w fun r w' => r = .returned (.int .i64 100) ∧ Below w.heap.size w w' := by
  have HV := Lib.hid (one_e w e)
  have C0 := Lib.hid (rising_w e w hE h0)
  have C1 := Lib.hid (w3 1 64 e.lag2 e.lag1 e.lagE h1)
  clear hE h0 h1
  go_enter Try.func17, Try.ntmps17
  go_wp2_with fail
  refine wp_region_noPanic (Lk.wp_region_mix ord_check (fun V => EFld V w.heap.size e) (by kernel_rfl) (by kernel_rfl) (fun _ _ _ _ _ h => h) (by first | exact efld HV.out.head | exact efld HV.out.drew.head | exact efld (HV.out.alloc _).head | exact efld (HV.out.alloc _).drew.head) ?_)
  replace HV := Lib.hid HV.out.drew
  iterate 1 (refine Lk.mix_take ?_ rfl ?_ ?_; rotate_left; (focus (intro w' hS; (try dsimp only at hS); go_simp; try with_reducible rfl)); simp only [Act.put, List.setIfInBounds_toArray, List.set_cons_zero, List.set_cons_succ])
  refine Lk.mix_step rfl (fun K hK => ?_)
  go_simp
  refine hK.out _ _ (by first | exact efld HV.out.head | exact efld HV.out.drew.head | exact efld (HV.out.alloc _).head | exact efld (HV.out.alloc _).drew.head) ?_
  clear hK K
  try simp only [Act.put, List.setIfInBounds_toArray, List.set_cons_zero, List.set_cons_succ]
  refine Lk.mix_step rfl (fun K hK => ?_)
  go_simp
  (with_reducible refine C0.out.mono ?_)
  rintro r W1 ⟨rfl, hv⟩
  replace HV := Lib.hid hv
  clear hv C0
  refine hK.out _ _ (by first | exact efld HV.out.head | exact efld HV.out.drew.head | exact efld (HV.out.alloc _).head | exact efld (HV.out.alloc _).drew.head) ?_
  clear hK K
  try simp only [Act.put, List.setIfInBounds_toArray, List.set_cons_zero, List.set_cons_succ]
  iterate 7 (refine Lk.mix_take ?_ rfl ?_ ?_; rotate_left; (focus (intro w' hS; (try dsimp only at hS); go_simp; try with_reducible rfl)); simp only [Act.put, List.setIfInBounds_toArray, List.set_cons_zero, List.set_cons_succ])
  refine Lk.mix_step rfl (fun K hK => ?_)
  go_simp
  refine hK.out _ _ (by first | exact efld HV.out.head | exact efld HV.out.drew.head | exact efld (HV.out.alloc _).head | exact efld (HV.out.alloc _).drew.head) ?_
  clear hK K
  try simp only [Act.put, List.setIfInBounds_toArray, List.set_cons_zero, List.set_cons_succ]
  refine Lk.mix_step rfl (fun K hK => ?_)
  go_simp
  (with_reducible refine (C1.out _).mono ?_)
  rintro r W1 ⟨rfl, hb⟩
  replace HV := Lib.hid (HV.out.grow hb)
  clear hb C1
  refine hK.out _ _ (by first | exact efld HV.out.head | exact efld HV.out.drew.head | exact efld (HV.out.alloc _).head | exact efld (HV.out.alloc _).drew.head) ?_
  clear hK K
  try simp only [Act.put, List.setIfInBounds_toArray, List.set_cons_zero, List.set_cons_succ]
  iterate 2 (refine Lk.mix_take ?_ rfl ?_ ?_; rotate_left; (focus (intro w' hS; (try dsimp only at hS); go_simp; try with_reducible rfl)); simp only [Act.put, List.setIfInBounds_toArray, List.set_cons_zero, List.set_cons_succ])
  iterate 2 (refine Lk.mix_skip rfl ?_; simp only [Act.put, List.setIfInBounds_toArray, List.set_cons_zero, List.set_cons_succ])
  iterate 2 (refine Lk.mix_skip' rfl ?_; simp only [Act.put, List.setIfInBounds_toArray, List.set_cons_zero, List.set_cons_succ])
  iterate 2 (refine Lk.mix_take ?_ rfl ?_ ?_; rotate_left; (focus (intro w' hS; (try dsimp only at hS); go_simp; try with_reducible rfl)); simp only [Act.put, List.setIfInBounds_toArray, List.set_cons_zero, List.set_cons_succ])
  iterate 4 (refine Lk.mix_skip rfl ?_; simp only [Act.put, List.setIfInBounds_toArray, List.set_cons_zero, List.set_cons_succ])
  iterate 2 (refine Lk.mix_skip' rfl ?_; simp only [Act.put, List.setIfInBounds_toArray, List.set_cons_zero, List.set_cons_succ])
  iterate 2 (refine Lk.mix_take ?_ rfl ?_ ?_; rotate_left; (focus (intro w' hS; (try dsimp only at hS); go_simp; try with_reducible rfl)); simp only [Act.put, List.setIfInBounds_toArray, List.set_cons_zero, List.set_cons_succ])
  iterate 4 (refine Lk.mix_skip rfl ?_; simp only [Act.put, List.setIfInBounds_toArray, List.set_cons_zero, List.set_cons_succ])
  iterate 2 (refine Lk.mix_skip' rfl ?_; simp only [Act.put, List.setIfInBounds_toArray, List.set_cons_zero, List.set_cons_succ])
  iterate 2 (refine Lk.mix_take ?_ rfl ?_ ?_; rotate_left; (focus (intro w' hS; (try dsimp only at hS); go_simp; try with_reducible rfl)); simp only [Act.put, List.setIfInBounds_toArray, List.set_cons_zero, List.set_cons_succ])
  iterate 7 (refine Lk.mix_skip rfl ?_; simp only [Act.put, List.setIfInBounds_toArray, List.set_cons_zero, List.set_cons_succ])
  iterate 2 (refine Lk.mix_skip' rfl ?_; simp only [Act.put, List.setIfInBounds_toArray, List.set_cons_zero, List.set_cons_succ])
  iterate 2 (refine Lk.mix_take ?_ rfl ?_ ?_; rotate_left; (focus (intro w' hS; (try dsimp only at hS); go_simp; try with_reducible rfl)); simp only [Act.put, List.setIfInBounds_toArray, List.set_cons_zero, List.set_cons_succ])
  refine Lk.mix_nil (NoPanic.normal ?_)
  go_wp2_with fail
  go_ret
  exact ⟨rfl, HV.out.old⟩

set_option maxRecDepth 100000 in
set_option maxHeartbeats 8000000 in
theorem check_2 (e : Eg) (w : World) (hE : EngIn w e) (h0 : Em.tabs (en e) = true) (h1 : (Em.within e.lag2 1 64 && Em.within e.lag1 1 64 && Em.within e.lagE 1 64) = true) (h2 : Em.within e.slew 1 1048576 = false) : Calls Try.prog 17 #[.agg (ec e)] w fun r w' => r = .returned (.int .i64 100) ∧ Below w.heap.size w w' := by
  have HV := Lib.hid (one_e w e)
  have C0 := Lib.hid (rising_w e w hE h0)
  have C1 := Lib.hid (w3 1 64 e.lag2 e.lag1 e.lagE h1)
  have C2 := Lib.hid (w1 1 1048576 e.slew h2)
  clear hE h0 h1 h2
  go_enter Try.func17, Try.ntmps17
  go_wp2_with fail
  refine wp_region_noPanic (Lk.wp_region_mix ord_check (fun V => EFld V w.heap.size e) (by kernel_rfl) (by kernel_rfl) (fun _ _ _ _ _ h => h) (by first | exact efld HV.out.head | exact efld HV.out.drew.head | exact efld (HV.out.alloc _).head | exact efld (HV.out.alloc _).drew.head) ?_)
  replace HV := Lib.hid HV.out.drew
  iterate 1 (refine Lk.mix_take ?_ rfl ?_ ?_; rotate_left; (focus (intro w' hS; (try dsimp only at hS); go_simp; try with_reducible rfl)); simp only [Act.put, List.setIfInBounds_toArray, List.set_cons_zero, List.set_cons_succ])
  refine Lk.mix_step rfl (fun K hK => ?_)
  go_simp
  refine hK.out _ _ (by first | exact efld HV.out.head | exact efld HV.out.drew.head | exact efld (HV.out.alloc _).head | exact efld (HV.out.alloc _).drew.head) ?_
  clear hK K
  try simp only [Act.put, List.setIfInBounds_toArray, List.set_cons_zero, List.set_cons_succ]
  refine Lk.mix_step rfl (fun K hK => ?_)
  go_simp
  (with_reducible refine C0.out.mono ?_)
  rintro r W1 ⟨rfl, hv⟩
  replace HV := Lib.hid hv
  clear hv C0
  refine hK.out _ _ (by first | exact efld HV.out.head | exact efld HV.out.drew.head | exact efld (HV.out.alloc _).head | exact efld (HV.out.alloc _).drew.head) ?_
  clear hK K
  try simp only [Act.put, List.setIfInBounds_toArray, List.set_cons_zero, List.set_cons_succ]
  iterate 7 (refine Lk.mix_take ?_ rfl ?_ ?_; rotate_left; (focus (intro w' hS; (try dsimp only at hS); go_simp; try with_reducible rfl)); simp only [Act.put, List.setIfInBounds_toArray, List.set_cons_zero, List.set_cons_succ])
  refine Lk.mix_step rfl (fun K hK => ?_)
  go_simp
  refine hK.out _ _ (by first | exact efld HV.out.head | exact efld HV.out.drew.head | exact efld (HV.out.alloc _).head | exact efld (HV.out.alloc _).drew.head) ?_
  clear hK K
  try simp only [Act.put, List.setIfInBounds_toArray, List.set_cons_zero, List.set_cons_succ]
  refine Lk.mix_step rfl (fun K hK => ?_)
  go_simp
  (with_reducible refine (C1.out _).mono ?_)
  rintro r W1 ⟨rfl, hb⟩
  replace HV := Lib.hid (HV.out.grow hb)
  clear hb C1
  refine hK.out _ _ (by first | exact efld HV.out.head | exact efld HV.out.drew.head | exact efld (HV.out.alloc _).head | exact efld (HV.out.alloc _).drew.head) ?_
  clear hK K
  try simp only [Act.put, List.setIfInBounds_toArray, List.set_cons_zero, List.set_cons_succ]
  iterate 4 (refine Lk.mix_take ?_ rfl ?_ ?_; rotate_left; (focus (intro w' hS; (try dsimp only at hS); go_simp; try with_reducible rfl)); simp only [Act.put, List.setIfInBounds_toArray, List.set_cons_zero, List.set_cons_succ])
  refine Lk.mix_step rfl (fun K hK => ?_)
  go_simp
  refine hK.out _ _ (by first | exact efld HV.out.head | exact efld HV.out.drew.head | exact efld (HV.out.alloc _).head | exact efld (HV.out.alloc _).drew.head) ?_
  clear hK K
  try simp only [Act.put, List.setIfInBounds_toArray, List.set_cons_zero, List.set_cons_succ]
  refine Lk.mix_step rfl (fun K hK => ?_)
  go_simp
  (with_reducible refine (C2.out _).mono ?_)
  rintro r W1 ⟨rfl, hb⟩
  replace HV := Lib.hid (HV.out.grow hb)
  clear hb C2
  refine hK.out _ _ (by first | exact efld HV.out.head | exact efld HV.out.drew.head | exact efld (HV.out.alloc _).head | exact efld (HV.out.alloc _).drew.head) ?_
  clear hK K
  try simp only [Act.put, List.setIfInBounds_toArray, List.set_cons_zero, List.set_cons_succ]
  iterate 2 (refine Lk.mix_take ?_ rfl ?_ ?_; rotate_left; (focus (intro w' hS; (try dsimp only at hS); go_simp; try with_reducible rfl)); simp only [Act.put, List.setIfInBounds_toArray, List.set_cons_zero, List.set_cons_succ])
  iterate 4 (refine Lk.mix_skip rfl ?_; simp only [Act.put, List.setIfInBounds_toArray, List.set_cons_zero, List.set_cons_succ])
  iterate 2 (refine Lk.mix_skip' rfl ?_; simp only [Act.put, List.setIfInBounds_toArray, List.set_cons_zero, List.set_cons_succ])
  iterate 2 (refine Lk.mix_take ?_ rfl ?_ ?_; rotate_left; (focus (intro w' hS; (try dsimp only at hS); go_simp; try with_reducible rfl)); simp only [Act.put, List.setIfInBounds_toArray, List.set_cons_zero, List.set_cons_succ])
  iterate 4 (refine Lk.mix_skip rfl ?_; simp only [Act.put, List.setIfInBounds_toArray, List.set_cons_zero, List.set_cons_succ])
  iterate 2 (refine Lk.mix_skip' rfl ?_; simp only [Act.put, List.setIfInBounds_toArray, List.set_cons_zero, List.set_cons_succ])
  iterate 2 (refine Lk.mix_take ?_ rfl ?_ ?_; rotate_left; (focus (intro w' hS; (try dsimp only at hS); go_simp; try with_reducible rfl)); simp only [Act.put, List.setIfInBounds_toArray, List.set_cons_zero, List.set_cons_succ])
  iterate 7 (refine Lk.mix_skip rfl ?_; simp only [Act.put, List.setIfInBounds_toArray, List.set_cons_zero, List.set_cons_succ])
  iterate 2 (refine Lk.mix_skip' rfl ?_; simp only [Act.put, List.setIfInBounds_toArray, List.set_cons_zero, List.set_cons_succ])
  iterate 2 (refine Lk.mix_take ?_ rfl ?_ ?_; rotate_left; (focus (intro w' hS; (try dsimp only at hS); go_simp; try with_reducible rfl)); simp only [Act.put, List.setIfInBounds_toArray, List.set_cons_zero, List.set_cons_succ])
  refine Lk.mix_nil (NoPanic.normal ?_)
  go_wp2_with fail
  go_ret
  exact ⟨rfl, HV.out.old⟩

set_option maxRecDepth 100000 in
set_option maxHeartbeats 8000000 in
theorem check_3 (e : Eg) (w : World) (hE : EngIn w e) (h0 : Em.tabs (en e) = true) (h1 : (Em.within e.lag2 1 64 && Em.within e.lag1 1 64 && Em.within e.lagE 1 64) = true) (h2 : Em.within e.slew 1 1048576 = true) (h3 : (Em.within e.starter 0 1048576 && Em.within e.disturb 0 1048576) = false) : Calls Try.prog 17 #[.agg (ec e)] w fun r w' => r = .returned (.int .i64 100) ∧ Below w.heap.size w w' := by
  have HV := Lib.hid (one_e w e)
  have C0 := Lib.hid (rising_w e w hE h0)
  have C1 := Lib.hid (w3 1 64 e.lag2 e.lag1 e.lagE h1)
  have C2 := Lib.hid (w1 1 1048576 e.slew h2)
  have C3 := Lib.hid (w2 0 1048576 e.starter e.disturb h3)
  clear hE h0 h1 h2 h3
  go_enter Try.func17, Try.ntmps17
  go_wp2_with fail
  refine wp_region_noPanic (Lk.wp_region_mix ord_check (fun V => EFld V w.heap.size e) (by kernel_rfl) (by kernel_rfl) (fun _ _ _ _ _ h => h) (by first | exact efld HV.out.head | exact efld HV.out.drew.head | exact efld (HV.out.alloc _).head | exact efld (HV.out.alloc _).drew.head) ?_)
  replace HV := Lib.hid HV.out.drew
  iterate 1 (refine Lk.mix_take ?_ rfl ?_ ?_; rotate_left; (focus (intro w' hS; (try dsimp only at hS); go_simp; try with_reducible rfl)); simp only [Act.put, List.setIfInBounds_toArray, List.set_cons_zero, List.set_cons_succ])
  refine Lk.mix_step rfl (fun K hK => ?_)
  go_simp
  refine hK.out _ _ (by first | exact efld HV.out.head | exact efld HV.out.drew.head | exact efld (HV.out.alloc _).head | exact efld (HV.out.alloc _).drew.head) ?_
  clear hK K
  try simp only [Act.put, List.setIfInBounds_toArray, List.set_cons_zero, List.set_cons_succ]
  refine Lk.mix_step rfl (fun K hK => ?_)
  go_simp
  (with_reducible refine C0.out.mono ?_)
  rintro r W1 ⟨rfl, hv⟩
  replace HV := Lib.hid hv
  clear hv C0
  refine hK.out _ _ (by first | exact efld HV.out.head | exact efld HV.out.drew.head | exact efld (HV.out.alloc _).head | exact efld (HV.out.alloc _).drew.head) ?_
  clear hK K
  try simp only [Act.put, List.setIfInBounds_toArray, List.set_cons_zero, List.set_cons_succ]
  iterate 7 (refine Lk.mix_take ?_ rfl ?_ ?_; rotate_left; (focus (intro w' hS; (try dsimp only at hS); go_simp; try with_reducible rfl)); simp only [Act.put, List.setIfInBounds_toArray, List.set_cons_zero, List.set_cons_succ])
  refine Lk.mix_step rfl (fun K hK => ?_)
  go_simp
  refine hK.out _ _ (by first | exact efld HV.out.head | exact efld HV.out.drew.head | exact efld (HV.out.alloc _).head | exact efld (HV.out.alloc _).drew.head) ?_
  clear hK K
  try simp only [Act.put, List.setIfInBounds_toArray, List.set_cons_zero, List.set_cons_succ]
  refine Lk.mix_step rfl (fun K hK => ?_)
  go_simp
  (with_reducible refine (C1.out _).mono ?_)
  rintro r W1 ⟨rfl, hb⟩
  replace HV := Lib.hid (HV.out.grow hb)
  clear hb C1
  refine hK.out _ _ (by first | exact efld HV.out.head | exact efld HV.out.drew.head | exact efld (HV.out.alloc _).head | exact efld (HV.out.alloc _).drew.head) ?_
  clear hK K
  try simp only [Act.put, List.setIfInBounds_toArray, List.set_cons_zero, List.set_cons_succ]
  iterate 4 (refine Lk.mix_take ?_ rfl ?_ ?_; rotate_left; (focus (intro w' hS; (try dsimp only at hS); go_simp; try with_reducible rfl)); simp only [Act.put, List.setIfInBounds_toArray, List.set_cons_zero, List.set_cons_succ])
  refine Lk.mix_step rfl (fun K hK => ?_)
  go_simp
  refine hK.out _ _ (by first | exact efld HV.out.head | exact efld HV.out.drew.head | exact efld (HV.out.alloc _).head | exact efld (HV.out.alloc _).drew.head) ?_
  clear hK K
  try simp only [Act.put, List.setIfInBounds_toArray, List.set_cons_zero, List.set_cons_succ]
  refine Lk.mix_step rfl (fun K hK => ?_)
  go_simp
  (with_reducible refine (C2.out _).mono ?_)
  rintro r W1 ⟨rfl, hb⟩
  replace HV := Lib.hid (HV.out.grow hb)
  clear hb C2
  refine hK.out _ _ (by first | exact efld HV.out.head | exact efld HV.out.drew.head | exact efld (HV.out.alloc _).head | exact efld (HV.out.alloc _).drew.head) ?_
  clear hK K
  try simp only [Act.put, List.setIfInBounds_toArray, List.set_cons_zero, List.set_cons_succ]
  iterate 6 (refine Lk.mix_take ?_ rfl ?_ ?_; rotate_left; (focus (intro w' hS; (try dsimp only at hS); go_simp; try with_reducible rfl)); simp only [Act.put, List.setIfInBounds_toArray, List.set_cons_zero, List.set_cons_succ])
  refine Lk.mix_step rfl (fun K hK => ?_)
  go_simp
  refine hK.out _ _ (by first | exact efld HV.out.head | exact efld HV.out.drew.head | exact efld (HV.out.alloc _).head | exact efld (HV.out.alloc _).drew.head) ?_
  clear hK K
  try simp only [Act.put, List.setIfInBounds_toArray, List.set_cons_zero, List.set_cons_succ]
  refine Lk.mix_step rfl (fun K hK => ?_)
  go_simp
  (with_reducible refine (C3.out _).mono ?_)
  rintro r W1 ⟨rfl, hb⟩
  replace HV := Lib.hid (HV.out.grow hb)
  clear hb C3
  refine hK.out _ _ (by first | exact efld HV.out.head | exact efld HV.out.drew.head | exact efld (HV.out.alloc _).head | exact efld (HV.out.alloc _).drew.head) ?_
  clear hK K
  try simp only [Act.put, List.setIfInBounds_toArray, List.set_cons_zero, List.set_cons_succ]
  iterate 2 (refine Lk.mix_take ?_ rfl ?_ ?_; rotate_left; (focus (intro w' hS; (try dsimp only at hS); go_simp; try with_reducible rfl)); simp only [Act.put, List.setIfInBounds_toArray, List.set_cons_zero, List.set_cons_succ])
  iterate 4 (refine Lk.mix_skip rfl ?_; simp only [Act.put, List.setIfInBounds_toArray, List.set_cons_zero, List.set_cons_succ])
  iterate 2 (refine Lk.mix_skip' rfl ?_; simp only [Act.put, List.setIfInBounds_toArray, List.set_cons_zero, List.set_cons_succ])
  iterate 2 (refine Lk.mix_take ?_ rfl ?_ ?_; rotate_left; (focus (intro w' hS; (try dsimp only at hS); go_simp; try with_reducible rfl)); simp only [Act.put, List.setIfInBounds_toArray, List.set_cons_zero, List.set_cons_succ])
  iterate 7 (refine Lk.mix_skip rfl ?_; simp only [Act.put, List.setIfInBounds_toArray, List.set_cons_zero, List.set_cons_succ])
  iterate 2 (refine Lk.mix_skip' rfl ?_; simp only [Act.put, List.setIfInBounds_toArray, List.set_cons_zero, List.set_cons_succ])
  iterate 2 (refine Lk.mix_take ?_ rfl ?_ ?_; rotate_left; (focus (intro w' hS; (try dsimp only at hS); go_simp; try with_reducible rfl)); simp only [Act.put, List.setIfInBounds_toArray, List.set_cons_zero, List.set_cons_succ])
  refine Lk.mix_nil (NoPanic.normal ?_)
  go_wp2_with fail
  go_ret
  exact ⟨rfl, HV.out.old⟩

set_option maxRecDepth 100000 in
set_option maxHeartbeats 8000000 in
theorem check_4 (e : Eg) (w : World) (hE : EngIn w e) (h0 : Em.tabs (en e) = true) (h1 : (Em.within e.lag2 1 64 && Em.within e.lag1 1 64 && Em.within e.lagE 1 64) = true) (h2 : Em.within e.slew 1 1048576 = true) (h3 : (Em.within e.starter 0 1048576 && Em.within e.disturb 0 1048576) = true) (h4 : Em.within e.light 0 e.starter = false) : Calls Try.prog 17 #[.agg (ec e)] w fun r w' => r = .returned (.int .i64 100) ∧ Below w.heap.size w w' := by
  have HV := Lib.hid (one_e w e)
  have C0 := Lib.hid (rising_w e w hE h0)
  have C1 := Lib.hid (w3 1 64 e.lag2 e.lag1 e.lagE h1)
  have C2 := Lib.hid (w1 1 1048576 e.slew h2)
  have C3 := Lib.hid (w2 0 1048576 e.starter e.disturb h3)
  have C4 := Lib.hid (w1 0 e.starter e.light h4)
  clear hE h0 h1 h2 h3 h4
  go_enter Try.func17, Try.ntmps17
  go_wp2_with fail
  refine wp_region_noPanic (Lk.wp_region_mix ord_check (fun V => EFld V w.heap.size e) (by kernel_rfl) (by kernel_rfl) (fun _ _ _ _ _ h => h) (by first | exact efld HV.out.head | exact efld HV.out.drew.head | exact efld (HV.out.alloc _).head | exact efld (HV.out.alloc _).drew.head) ?_)
  replace HV := Lib.hid HV.out.drew
  iterate 1 (refine Lk.mix_take ?_ rfl ?_ ?_; rotate_left; (focus (intro w' hS; (try dsimp only at hS); go_simp; try with_reducible rfl)); simp only [Act.put, List.setIfInBounds_toArray, List.set_cons_zero, List.set_cons_succ])
  refine Lk.mix_step rfl (fun K hK => ?_)
  go_simp
  refine hK.out _ _ (by first | exact efld HV.out.head | exact efld HV.out.drew.head | exact efld (HV.out.alloc _).head | exact efld (HV.out.alloc _).drew.head) ?_
  clear hK K
  try simp only [Act.put, List.setIfInBounds_toArray, List.set_cons_zero, List.set_cons_succ]
  refine Lk.mix_step rfl (fun K hK => ?_)
  go_simp
  (with_reducible refine C0.out.mono ?_)
  rintro r W1 ⟨rfl, hv⟩
  replace HV := Lib.hid hv
  clear hv C0
  refine hK.out _ _ (by first | exact efld HV.out.head | exact efld HV.out.drew.head | exact efld (HV.out.alloc _).head | exact efld (HV.out.alloc _).drew.head) ?_
  clear hK K
  try simp only [Act.put, List.setIfInBounds_toArray, List.set_cons_zero, List.set_cons_succ]
  iterate 7 (refine Lk.mix_take ?_ rfl ?_ ?_; rotate_left; (focus (intro w' hS; (try dsimp only at hS); go_simp; try with_reducible rfl)); simp only [Act.put, List.setIfInBounds_toArray, List.set_cons_zero, List.set_cons_succ])
  refine Lk.mix_step rfl (fun K hK => ?_)
  go_simp
  refine hK.out _ _ (by first | exact efld HV.out.head | exact efld HV.out.drew.head | exact efld (HV.out.alloc _).head | exact efld (HV.out.alloc _).drew.head) ?_
  clear hK K
  try simp only [Act.put, List.setIfInBounds_toArray, List.set_cons_zero, List.set_cons_succ]
  refine Lk.mix_step rfl (fun K hK => ?_)
  go_simp
  (with_reducible refine (C1.out _).mono ?_)
  rintro r W1 ⟨rfl, hb⟩
  replace HV := Lib.hid (HV.out.grow hb)
  clear hb C1
  refine hK.out _ _ (by first | exact efld HV.out.head | exact efld HV.out.drew.head | exact efld (HV.out.alloc _).head | exact efld (HV.out.alloc _).drew.head) ?_
  clear hK K
  try simp only [Act.put, List.setIfInBounds_toArray, List.set_cons_zero, List.set_cons_succ]
  iterate 4 (refine Lk.mix_take ?_ rfl ?_ ?_; rotate_left; (focus (intro w' hS; (try dsimp only at hS); go_simp; try with_reducible rfl)); simp only [Act.put, List.setIfInBounds_toArray, List.set_cons_zero, List.set_cons_succ])
  refine Lk.mix_step rfl (fun K hK => ?_)
  go_simp
  refine hK.out _ _ (by first | exact efld HV.out.head | exact efld HV.out.drew.head | exact efld (HV.out.alloc _).head | exact efld (HV.out.alloc _).drew.head) ?_
  clear hK K
  try simp only [Act.put, List.setIfInBounds_toArray, List.set_cons_zero, List.set_cons_succ]
  refine Lk.mix_step rfl (fun K hK => ?_)
  go_simp
  (with_reducible refine (C2.out _).mono ?_)
  rintro r W1 ⟨rfl, hb⟩
  replace HV := Lib.hid (HV.out.grow hb)
  clear hb C2
  refine hK.out _ _ (by first | exact efld HV.out.head | exact efld HV.out.drew.head | exact efld (HV.out.alloc _).head | exact efld (HV.out.alloc _).drew.head) ?_
  clear hK K
  try simp only [Act.put, List.setIfInBounds_toArray, List.set_cons_zero, List.set_cons_succ]
  iterate 6 (refine Lk.mix_take ?_ rfl ?_ ?_; rotate_left; (focus (intro w' hS; (try dsimp only at hS); go_simp; try with_reducible rfl)); simp only [Act.put, List.setIfInBounds_toArray, List.set_cons_zero, List.set_cons_succ])
  refine Lk.mix_step rfl (fun K hK => ?_)
  go_simp
  refine hK.out _ _ (by first | exact efld HV.out.head | exact efld HV.out.drew.head | exact efld (HV.out.alloc _).head | exact efld (HV.out.alloc _).drew.head) ?_
  clear hK K
  try simp only [Act.put, List.setIfInBounds_toArray, List.set_cons_zero, List.set_cons_succ]
  refine Lk.mix_step rfl (fun K hK => ?_)
  go_simp
  (with_reducible refine (C3.out _).mono ?_)
  rintro r W1 ⟨rfl, hb⟩
  replace HV := Lib.hid (HV.out.grow hb)
  clear hb C3
  refine hK.out _ _ (by first | exact efld HV.out.head | exact efld HV.out.drew.head | exact efld (HV.out.alloc _).head | exact efld (HV.out.alloc _).drew.head) ?_
  clear hK K
  try simp only [Act.put, List.setIfInBounds_toArray, List.set_cons_zero, List.set_cons_succ]
  iterate 6 (refine Lk.mix_take ?_ rfl ?_ ?_; rotate_left; (focus (intro w' hS; (try dsimp only at hS); go_simp; try with_reducible rfl)); simp only [Act.put, List.setIfInBounds_toArray, List.set_cons_zero, List.set_cons_succ])
  refine Lk.mix_step rfl (fun K hK => ?_)
  go_simp
  refine hK.out _ _ (by first | exact efld HV.out.head | exact efld HV.out.drew.head | exact efld (HV.out.alloc _).head | exact efld (HV.out.alloc _).drew.head) ?_
  clear hK K
  try simp only [Act.put, List.setIfInBounds_toArray, List.set_cons_zero, List.set_cons_succ]
  refine Lk.mix_step rfl (fun K hK => ?_)
  go_simp
  (with_reducible refine (C4.out _).mono ?_)
  rintro r W1 ⟨rfl, hb⟩
  replace HV := Lib.hid (HV.out.grow hb)
  clear hb C4
  refine hK.out _ _ (by first | exact efld HV.out.head | exact efld HV.out.drew.head | exact efld (HV.out.alloc _).head | exact efld (HV.out.alloc _).drew.head) ?_
  clear hK K
  try simp only [Act.put, List.setIfInBounds_toArray, List.set_cons_zero, List.set_cons_succ]
  iterate 2 (refine Lk.mix_take ?_ rfl ?_ ?_; rotate_left; (focus (intro w' hS; (try dsimp only at hS); go_simp; try with_reducible rfl)); simp only [Act.put, List.setIfInBounds_toArray, List.set_cons_zero, List.set_cons_succ])
  iterate 7 (refine Lk.mix_skip rfl ?_; simp only [Act.put, List.setIfInBounds_toArray, List.set_cons_zero, List.set_cons_succ])
  iterate 2 (refine Lk.mix_skip' rfl ?_; simp only [Act.put, List.setIfInBounds_toArray, List.set_cons_zero, List.set_cons_succ])
  iterate 2 (refine Lk.mix_take ?_ rfl ?_ ?_; rotate_left; (focus (intro w' hS; (try dsimp only at hS); go_simp; try with_reducible rfl)); simp only [Act.put, List.setIfInBounds_toArray, List.set_cons_zero, List.set_cons_succ])
  refine Lk.mix_nil (NoPanic.normal ?_)
  go_wp2_with fail
  go_ret
  exact ⟨rfl, HV.out.old⟩

set_option maxRecDepth 100000 in
set_option maxHeartbeats 8000000 in
theorem check_5 (e : Eg) (w : World) (hE : EngIn w e) (h0 : Em.tabs (en e) = true) (h1 : (Em.within e.lag2 1 64 && Em.within e.lag1 1 64 && Em.within e.lagE 1 64) = true) (h2 : Em.within e.slew 1 1048576 = true) (h3 : (Em.within e.starter 0 1048576 && Em.within e.disturb 0 1048576) = true) (h4 : Em.within e.light 0 e.starter = true) (h5 : Em.within e.lean 1 (Tb.g e.f.ys 0) = false) : Calls Try.prog 17 #[.agg (ec e)] w fun r w' => r = .returned (.int .i64 100) ∧ Below w.heap.size w w' := by
  have h2 : 2 ≤ e.f.ys.length := by
    have hf : Em.Ri e.f.xs e.f.ys := by
      have := h0
      simp only [Em.tabs, en, Bool.and_eq_true, Em.ri_iff] at this
      exact this.1.1.1
    have := hf.ok.two
    have := hf.ok.same
    omega
  obtain ⟨bf, of, ef, hc⟩ := cellG hE.f.ya (show 0 < e.f.ys.length by omega)
  obtain ⟨⟨fA, fB, fca, fcb, fxs, fys⟩, tp, tq, th, l2, l1, lE, sl, st, li, le, di⟩ := e
  simp only at ef hc h2 h0 h1 h2 h3 h4 h5
  subst ef
  have i1 : 0 < fys.length := by omega
  have HC : Hid (∀ V L, Hv w V L → V.cell? ⟨bf, of, none⟩ = some (.int .i64 (Tb.g fys 0))) := fun V L h => (h.old.cell (World.block_lt_of_cell? _ _ hc)).trans hc
  have HV := Lib.hid (one_e w ⟨⟨fA, some ⟨bf, of, none⟩, fca, fcb, fxs, fys⟩, tp, tq, th, l2, l1, lE, sl, st, li, le, di⟩)
  have C0 := Lib.hid (rising_w ⟨⟨fA, some ⟨bf, of, none⟩, fca, fcb, fxs, fys⟩, tp, tq, th, l2, l1, lE, sl, st, li, le, di⟩ w hE h0)
  have C1 := Lib.hid (w3 1 64 l2 l1 lE h1)
  have C2 := Lib.hid (w1 1 1048576 sl h2)
  have C3 := Lib.hid (w2 0 1048576 st di h3)
  have C4 := Lib.hid (w1 0 st li h4)
  have C5 := Lib.hid (w1 1 (Tb.g fys 0) le h5)
  generalize Tb.g fys 0 = y0 at HC C5
  clear hE h0 h1 h2 h3 h4 h5 hc
  go_enter Try.func17, Try.ntmps17
  go_wp2_with fail
  refine wp_region_noPanic (Lk.wp_region_mix ord_check (fun V => EFld V w.heap.size ⟨⟨fA, some ⟨bf, of, none⟩, fca, fcb, fxs, fys⟩, tp, tq, th, l2, l1, lE, sl, st, li, le, di⟩ ∧ V.cell? ⟨bf, of, none⟩ = some (.int .i64 y0)) (by kernel_rfl) (by kernel_rfl) (fun _ _ _ _ _ h => h) (by first | exact ⟨efld HV.out.head, HC.out _ _ HV.out⟩ | exact ⟨efld HV.out.drew.head, HC.out _ _ HV.out.drew⟩ | exact ⟨efld (HV.out.alloc _).head, HC.out _ _ (HV.out.alloc _)⟩ | exact ⟨efld (HV.out.alloc _).drew.head, HC.out _ _ (HV.out.alloc _).drew⟩) ?_)
  replace HV := Lib.hid HV.out.drew
  iterate 1 (refine Lk.mix_take ?_ rfl ?_ ?_; rotate_left; (focus (intro w' hS; (try dsimp only at hS); go_simp; try with_reducible rfl)); simp only [Act.put, List.setIfInBounds_toArray, List.set_cons_zero, List.set_cons_succ])
  refine Lk.mix_step rfl (fun K hK => ?_)
  go_simp
  refine hK.out _ _ (by first | exact ⟨efld HV.out.head, HC.out _ _ HV.out⟩ | exact ⟨efld HV.out.drew.head, HC.out _ _ HV.out.drew⟩ | exact ⟨efld (HV.out.alloc _).head, HC.out _ _ (HV.out.alloc _)⟩ | exact ⟨efld (HV.out.alloc _).drew.head, HC.out _ _ (HV.out.alloc _).drew⟩) ?_
  clear hK K
  try simp only [Act.put, List.setIfInBounds_toArray, List.set_cons_zero, List.set_cons_succ]
  refine Lk.mix_step rfl (fun K hK => ?_)
  go_simp
  (with_reducible refine C0.out.mono ?_)
  rintro r W1 ⟨rfl, hv⟩
  replace HV := Lib.hid hv
  clear hv C0
  refine hK.out _ _ (by first | exact ⟨efld HV.out.head, HC.out _ _ HV.out⟩ | exact ⟨efld HV.out.drew.head, HC.out _ _ HV.out.drew⟩ | exact ⟨efld (HV.out.alloc _).head, HC.out _ _ (HV.out.alloc _)⟩ | exact ⟨efld (HV.out.alloc _).drew.head, HC.out _ _ (HV.out.alloc _).drew⟩) ?_
  clear hK K
  try simp only [Act.put, List.setIfInBounds_toArray, List.set_cons_zero, List.set_cons_succ]
  iterate 7 (refine Lk.mix_take ?_ rfl ?_ ?_; rotate_left; (focus (intro w' hS; (try dsimp only at hS); go_simp; try with_reducible rfl)); simp only [Act.put, List.setIfInBounds_toArray, List.set_cons_zero, List.set_cons_succ])
  refine Lk.mix_step rfl (fun K hK => ?_)
  go_simp
  refine hK.out _ _ (by first | exact ⟨efld HV.out.head, HC.out _ _ HV.out⟩ | exact ⟨efld HV.out.drew.head, HC.out _ _ HV.out.drew⟩ | exact ⟨efld (HV.out.alloc _).head, HC.out _ _ (HV.out.alloc _)⟩ | exact ⟨efld (HV.out.alloc _).drew.head, HC.out _ _ (HV.out.alloc _).drew⟩) ?_
  clear hK K
  try simp only [Act.put, List.setIfInBounds_toArray, List.set_cons_zero, List.set_cons_succ]
  refine Lk.mix_step rfl (fun K hK => ?_)
  go_simp
  (with_reducible refine (C1.out _).mono ?_)
  rintro r W1 ⟨rfl, hb⟩
  replace HV := Lib.hid (HV.out.grow hb)
  clear hb C1
  refine hK.out _ _ (by first | exact ⟨efld HV.out.head, HC.out _ _ HV.out⟩ | exact ⟨efld HV.out.drew.head, HC.out _ _ HV.out.drew⟩ | exact ⟨efld (HV.out.alloc _).head, HC.out _ _ (HV.out.alloc _)⟩ | exact ⟨efld (HV.out.alloc _).drew.head, HC.out _ _ (HV.out.alloc _).drew⟩) ?_
  clear hK K
  try simp only [Act.put, List.setIfInBounds_toArray, List.set_cons_zero, List.set_cons_succ]
  iterate 4 (refine Lk.mix_take ?_ rfl ?_ ?_; rotate_left; (focus (intro w' hS; (try dsimp only at hS); go_simp; try with_reducible rfl)); simp only [Act.put, List.setIfInBounds_toArray, List.set_cons_zero, List.set_cons_succ])
  refine Lk.mix_step rfl (fun K hK => ?_)
  go_simp
  refine hK.out _ _ (by first | exact ⟨efld HV.out.head, HC.out _ _ HV.out⟩ | exact ⟨efld HV.out.drew.head, HC.out _ _ HV.out.drew⟩ | exact ⟨efld (HV.out.alloc _).head, HC.out _ _ (HV.out.alloc _)⟩ | exact ⟨efld (HV.out.alloc _).drew.head, HC.out _ _ (HV.out.alloc _).drew⟩) ?_
  clear hK K
  try simp only [Act.put, List.setIfInBounds_toArray, List.set_cons_zero, List.set_cons_succ]
  refine Lk.mix_step rfl (fun K hK => ?_)
  go_simp
  (with_reducible refine (C2.out _).mono ?_)
  rintro r W1 ⟨rfl, hb⟩
  replace HV := Lib.hid (HV.out.grow hb)
  clear hb C2
  refine hK.out _ _ (by first | exact ⟨efld HV.out.head, HC.out _ _ HV.out⟩ | exact ⟨efld HV.out.drew.head, HC.out _ _ HV.out.drew⟩ | exact ⟨efld (HV.out.alloc _).head, HC.out _ _ (HV.out.alloc _)⟩ | exact ⟨efld (HV.out.alloc _).drew.head, HC.out _ _ (HV.out.alloc _).drew⟩) ?_
  clear hK K
  try simp only [Act.put, List.setIfInBounds_toArray, List.set_cons_zero, List.set_cons_succ]
  iterate 6 (refine Lk.mix_take ?_ rfl ?_ ?_; rotate_left; (focus (intro w' hS; (try dsimp only at hS); go_simp; try with_reducible rfl)); simp only [Act.put, List.setIfInBounds_toArray, List.set_cons_zero, List.set_cons_succ])
  refine Lk.mix_step rfl (fun K hK => ?_)
  go_simp
  refine hK.out _ _ (by first | exact ⟨efld HV.out.head, HC.out _ _ HV.out⟩ | exact ⟨efld HV.out.drew.head, HC.out _ _ HV.out.drew⟩ | exact ⟨efld (HV.out.alloc _).head, HC.out _ _ (HV.out.alloc _)⟩ | exact ⟨efld (HV.out.alloc _).drew.head, HC.out _ _ (HV.out.alloc _).drew⟩) ?_
  clear hK K
  try simp only [Act.put, List.setIfInBounds_toArray, List.set_cons_zero, List.set_cons_succ]
  refine Lk.mix_step rfl (fun K hK => ?_)
  go_simp
  (with_reducible refine (C3.out _).mono ?_)
  rintro r W1 ⟨rfl, hb⟩
  replace HV := Lib.hid (HV.out.grow hb)
  clear hb C3
  refine hK.out _ _ (by first | exact ⟨efld HV.out.head, HC.out _ _ HV.out⟩ | exact ⟨efld HV.out.drew.head, HC.out _ _ HV.out.drew⟩ | exact ⟨efld (HV.out.alloc _).head, HC.out _ _ (HV.out.alloc _)⟩ | exact ⟨efld (HV.out.alloc _).drew.head, HC.out _ _ (HV.out.alloc _).drew⟩) ?_
  clear hK K
  try simp only [Act.put, List.setIfInBounds_toArray, List.set_cons_zero, List.set_cons_succ]
  iterate 6 (refine Lk.mix_take ?_ rfl ?_ ?_; rotate_left; (focus (intro w' hS; (try dsimp only at hS); go_simp; try with_reducible rfl)); simp only [Act.put, List.setIfInBounds_toArray, List.set_cons_zero, List.set_cons_succ])
  refine Lk.mix_step rfl (fun K hK => ?_)
  go_simp
  refine hK.out _ _ (by first | exact ⟨efld HV.out.head, HC.out _ _ HV.out⟩ | exact ⟨efld HV.out.drew.head, HC.out _ _ HV.out.drew⟩ | exact ⟨efld (HV.out.alloc _).head, HC.out _ _ (HV.out.alloc _)⟩ | exact ⟨efld (HV.out.alloc _).drew.head, HC.out _ _ (HV.out.alloc _).drew⟩) ?_
  clear hK K
  try simp only [Act.put, List.setIfInBounds_toArray, List.set_cons_zero, List.set_cons_succ]
  refine Lk.mix_step rfl (fun K hK => ?_)
  go_simp
  (with_reducible refine (C4.out _).mono ?_)
  rintro r W1 ⟨rfl, hb⟩
  replace HV := Lib.hid (HV.out.grow hb)
  clear hb C4
  refine hK.out _ _ (by first | exact ⟨efld HV.out.head, HC.out _ _ HV.out⟩ | exact ⟨efld HV.out.drew.head, HC.out _ _ HV.out.drew⟩ | exact ⟨efld (HV.out.alloc _).head, HC.out _ _ (HV.out.alloc _)⟩ | exact ⟨efld (HV.out.alloc _).drew.head, HC.out _ _ (HV.out.alloc _).drew⟩) ?_
  clear hK K
  try simp only [Act.put, List.setIfInBounds_toArray, List.set_cons_zero, List.set_cons_succ]
  iterate 9 (refine Lk.mix_take ?_ rfl ?_ ?_; rotate_left; (focus (intro w' hS; (try dsimp only at hS); go_simp; try with_reducible rfl)); simp only [Act.put, List.setIfInBounds_toArray, List.set_cons_zero, List.set_cons_succ])
  refine Lk.mix_step rfl (fun K hK => ?_)
  go_simp
  refine hK.out _ _ (by first | exact ⟨efld HV.out.head, HC.out _ _ HV.out⟩ | exact ⟨efld HV.out.drew.head, HC.out _ _ HV.out.drew⟩ | exact ⟨efld (HV.out.alloc _).head, HC.out _ _ (HV.out.alloc _)⟩ | exact ⟨efld (HV.out.alloc _).drew.head, HC.out _ _ (HV.out.alloc _).drew⟩) ?_
  clear hK K
  try simp only [Act.put, List.setIfInBounds_toArray, List.set_cons_zero, List.set_cons_succ]
  refine Lk.mix_step rfl (fun K hK => ?_)
  go_simp
  (with_reducible refine (C5.out _).mono ?_)
  rintro r W1 ⟨rfl, hb⟩
  replace HV := Lib.hid (HV.out.grow hb)
  clear hb C5
  refine hK.out _ _ (by first | exact ⟨efld HV.out.head, HC.out _ _ HV.out⟩ | exact ⟨efld HV.out.drew.head, HC.out _ _ HV.out.drew⟩ | exact ⟨efld (HV.out.alloc _).head, HC.out _ _ (HV.out.alloc _)⟩ | exact ⟨efld (HV.out.alloc _).drew.head, HC.out _ _ (HV.out.alloc _).drew⟩) ?_
  clear hK K
  try simp only [Act.put, List.setIfInBounds_toArray, List.set_cons_zero, List.set_cons_succ]
  iterate 2 (refine Lk.mix_take ?_ rfl ?_ ?_; rotate_left; (focus (intro w' hS; (try dsimp only at hS); go_simp; try with_reducible rfl)); simp only [Act.put, List.setIfInBounds_toArray, List.set_cons_zero, List.set_cons_succ])
  refine Lk.mix_nil (NoPanic.normal ?_)
  go_wp2_with fail
  go_ret
  exact ⟨rfl, HV.out.old⟩

set_option maxRecDepth 100000 in
set_option maxHeartbeats 8000000 in
theorem check_6 (e : Eg) (w : World) (hE : EngIn w e) (h0 : Em.tabs (en e) = true) (h1 : (Em.within e.lag2 1 64 && Em.within e.lag1 1 64 && Em.within e.lagE 1 64) = true) (h2 : Em.within e.slew 1 1048576 = true) (h3 : (Em.within e.starter 0 1048576 && Em.within e.disturb 0 1048576) = true) (h4 : Em.within e.light 0 e.starter = true) (h5 : Em.within e.lean 1 (Tb.g e.f.ys 0) = true) : Calls Try.prog 17 #[.agg (ec e)] w fun r w' => r = .returned (.int .i64 0) ∧ Below w.heap.size w w' := by
  have h2 : 2 ≤ e.f.ys.length := by
    have hf : Em.Ri e.f.xs e.f.ys := by
      have := h0
      simp only [Em.tabs, en, Bool.and_eq_true, Em.ri_iff] at this
      exact this.1.1.1
    have := hf.ok.two
    have := hf.ok.same
    omega
  obtain ⟨bf, of, ef, hc⟩ := cellG hE.f.ya (show 0 < e.f.ys.length by omega)
  obtain ⟨⟨fA, fB, fca, fcb, fxs, fys⟩, tp, tq, th, l2, l1, lE, sl, st, li, le, di⟩ := e
  simp only at ef hc h2 h0 h1 h2 h3 h4 h5
  subst ef
  have i1 : 0 < fys.length := by omega
  have HC : Hid (∀ V L, Hv w V L → V.cell? ⟨bf, of, none⟩ = some (.int .i64 (Tb.g fys 0))) := fun V L h => (h.old.cell (World.block_lt_of_cell? _ _ hc)).trans hc
  have HV := Lib.hid (one_e w ⟨⟨fA, some ⟨bf, of, none⟩, fca, fcb, fxs, fys⟩, tp, tq, th, l2, l1, lE, sl, st, li, le, di⟩)
  have C0 := Lib.hid (rising_w ⟨⟨fA, some ⟨bf, of, none⟩, fca, fcb, fxs, fys⟩, tp, tq, th, l2, l1, lE, sl, st, li, le, di⟩ w hE h0)
  have C1 := Lib.hid (w3 1 64 l2 l1 lE h1)
  have C2 := Lib.hid (w1 1 1048576 sl h2)
  have C3 := Lib.hid (w2 0 1048576 st di h3)
  have C4 := Lib.hid (w1 0 st li h4)
  have C5 := Lib.hid (w1 1 (Tb.g fys 0) le h5)
  generalize Tb.g fys 0 = y0 at HC C5
  clear hE h0 h1 h2 h3 h4 h5 hc
  go_enter Try.func17, Try.ntmps17
  go_wp2_with fail
  refine wp_region_noPanic (Lk.wp_region_mix ord_check (fun V => EFld V w.heap.size ⟨⟨fA, some ⟨bf, of, none⟩, fca, fcb, fxs, fys⟩, tp, tq, th, l2, l1, lE, sl, st, li, le, di⟩ ∧ V.cell? ⟨bf, of, none⟩ = some (.int .i64 y0)) (by kernel_rfl) (by kernel_rfl) (fun _ _ _ _ _ h => h) (by first | exact ⟨efld HV.out.head, HC.out _ _ HV.out⟩ | exact ⟨efld HV.out.drew.head, HC.out _ _ HV.out.drew⟩ | exact ⟨efld (HV.out.alloc _).head, HC.out _ _ (HV.out.alloc _)⟩ | exact ⟨efld (HV.out.alloc _).drew.head, HC.out _ _ (HV.out.alloc _).drew⟩) ?_)
  replace HV := Lib.hid HV.out.drew
  iterate 1 (refine Lk.mix_take ?_ rfl ?_ ?_; rotate_left; (focus (intro w' hS; (try dsimp only at hS); go_simp; try with_reducible rfl)); simp only [Act.put, List.setIfInBounds_toArray, List.set_cons_zero, List.set_cons_succ])
  refine Lk.mix_step rfl (fun K hK => ?_)
  go_simp
  refine hK.out _ _ (by first | exact ⟨efld HV.out.head, HC.out _ _ HV.out⟩ | exact ⟨efld HV.out.drew.head, HC.out _ _ HV.out.drew⟩ | exact ⟨efld (HV.out.alloc _).head, HC.out _ _ (HV.out.alloc _)⟩ | exact ⟨efld (HV.out.alloc _).drew.head, HC.out _ _ (HV.out.alloc _).drew⟩) ?_
  clear hK K
  try simp only [Act.put, List.setIfInBounds_toArray, List.set_cons_zero, List.set_cons_succ]
  refine Lk.mix_step rfl (fun K hK => ?_)
  go_simp
  (with_reducible refine C0.out.mono ?_)
  rintro r W1 ⟨rfl, hv⟩
  replace HV := Lib.hid hv
  clear hv C0
  refine hK.out _ _ (by first | exact ⟨efld HV.out.head, HC.out _ _ HV.out⟩ | exact ⟨efld HV.out.drew.head, HC.out _ _ HV.out.drew⟩ | exact ⟨efld (HV.out.alloc _).head, HC.out _ _ (HV.out.alloc _)⟩ | exact ⟨efld (HV.out.alloc _).drew.head, HC.out _ _ (HV.out.alloc _).drew⟩) ?_
  clear hK K
  try simp only [Act.put, List.setIfInBounds_toArray, List.set_cons_zero, List.set_cons_succ]
  iterate 7 (refine Lk.mix_take ?_ rfl ?_ ?_; rotate_left; (focus (intro w' hS; (try dsimp only at hS); go_simp; try with_reducible rfl)); simp only [Act.put, List.setIfInBounds_toArray, List.set_cons_zero, List.set_cons_succ])
  refine Lk.mix_step rfl (fun K hK => ?_)
  go_simp
  refine hK.out _ _ (by first | exact ⟨efld HV.out.head, HC.out _ _ HV.out⟩ | exact ⟨efld HV.out.drew.head, HC.out _ _ HV.out.drew⟩ | exact ⟨efld (HV.out.alloc _).head, HC.out _ _ (HV.out.alloc _)⟩ | exact ⟨efld (HV.out.alloc _).drew.head, HC.out _ _ (HV.out.alloc _).drew⟩) ?_
  clear hK K
  try simp only [Act.put, List.setIfInBounds_toArray, List.set_cons_zero, List.set_cons_succ]
  refine Lk.mix_step rfl (fun K hK => ?_)
  go_simp
  (with_reducible refine (C1.out _).mono ?_)
  rintro r W1 ⟨rfl, hb⟩
  replace HV := Lib.hid (HV.out.grow hb)
  clear hb C1
  refine hK.out _ _ (by first | exact ⟨efld HV.out.head, HC.out _ _ HV.out⟩ | exact ⟨efld HV.out.drew.head, HC.out _ _ HV.out.drew⟩ | exact ⟨efld (HV.out.alloc _).head, HC.out _ _ (HV.out.alloc _)⟩ | exact ⟨efld (HV.out.alloc _).drew.head, HC.out _ _ (HV.out.alloc _).drew⟩) ?_
  clear hK K
  try simp only [Act.put, List.setIfInBounds_toArray, List.set_cons_zero, List.set_cons_succ]
  iterate 4 (refine Lk.mix_take ?_ rfl ?_ ?_; rotate_left; (focus (intro w' hS; (try dsimp only at hS); go_simp; try with_reducible rfl)); simp only [Act.put, List.setIfInBounds_toArray, List.set_cons_zero, List.set_cons_succ])
  refine Lk.mix_step rfl (fun K hK => ?_)
  go_simp
  refine hK.out _ _ (by first | exact ⟨efld HV.out.head, HC.out _ _ HV.out⟩ | exact ⟨efld HV.out.drew.head, HC.out _ _ HV.out.drew⟩ | exact ⟨efld (HV.out.alloc _).head, HC.out _ _ (HV.out.alloc _)⟩ | exact ⟨efld (HV.out.alloc _).drew.head, HC.out _ _ (HV.out.alloc _).drew⟩) ?_
  clear hK K
  try simp only [Act.put, List.setIfInBounds_toArray, List.set_cons_zero, List.set_cons_succ]
  refine Lk.mix_step rfl (fun K hK => ?_)
  go_simp
  (with_reducible refine (C2.out _).mono ?_)
  rintro r W1 ⟨rfl, hb⟩
  replace HV := Lib.hid (HV.out.grow hb)
  clear hb C2
  refine hK.out _ _ (by first | exact ⟨efld HV.out.head, HC.out _ _ HV.out⟩ | exact ⟨efld HV.out.drew.head, HC.out _ _ HV.out.drew⟩ | exact ⟨efld (HV.out.alloc _).head, HC.out _ _ (HV.out.alloc _)⟩ | exact ⟨efld (HV.out.alloc _).drew.head, HC.out _ _ (HV.out.alloc _).drew⟩) ?_
  clear hK K
  try simp only [Act.put, List.setIfInBounds_toArray, List.set_cons_zero, List.set_cons_succ]
  iterate 6 (refine Lk.mix_take ?_ rfl ?_ ?_; rotate_left; (focus (intro w' hS; (try dsimp only at hS); go_simp; try with_reducible rfl)); simp only [Act.put, List.setIfInBounds_toArray, List.set_cons_zero, List.set_cons_succ])
  refine Lk.mix_step rfl (fun K hK => ?_)
  go_simp
  refine hK.out _ _ (by first | exact ⟨efld HV.out.head, HC.out _ _ HV.out⟩ | exact ⟨efld HV.out.drew.head, HC.out _ _ HV.out.drew⟩ | exact ⟨efld (HV.out.alloc _).head, HC.out _ _ (HV.out.alloc _)⟩ | exact ⟨efld (HV.out.alloc _).drew.head, HC.out _ _ (HV.out.alloc _).drew⟩) ?_
  clear hK K
  try simp only [Act.put, List.setIfInBounds_toArray, List.set_cons_zero, List.set_cons_succ]
  refine Lk.mix_step rfl (fun K hK => ?_)
  go_simp
  (with_reducible refine (C3.out _).mono ?_)
  rintro r W1 ⟨rfl, hb⟩
  replace HV := Lib.hid (HV.out.grow hb)
  clear hb C3
  refine hK.out _ _ (by first | exact ⟨efld HV.out.head, HC.out _ _ HV.out⟩ | exact ⟨efld HV.out.drew.head, HC.out _ _ HV.out.drew⟩ | exact ⟨efld (HV.out.alloc _).head, HC.out _ _ (HV.out.alloc _)⟩ | exact ⟨efld (HV.out.alloc _).drew.head, HC.out _ _ (HV.out.alloc _).drew⟩) ?_
  clear hK K
  try simp only [Act.put, List.setIfInBounds_toArray, List.set_cons_zero, List.set_cons_succ]
  iterate 6 (refine Lk.mix_take ?_ rfl ?_ ?_; rotate_left; (focus (intro w' hS; (try dsimp only at hS); go_simp; try with_reducible rfl)); simp only [Act.put, List.setIfInBounds_toArray, List.set_cons_zero, List.set_cons_succ])
  refine Lk.mix_step rfl (fun K hK => ?_)
  go_simp
  refine hK.out _ _ (by first | exact ⟨efld HV.out.head, HC.out _ _ HV.out⟩ | exact ⟨efld HV.out.drew.head, HC.out _ _ HV.out.drew⟩ | exact ⟨efld (HV.out.alloc _).head, HC.out _ _ (HV.out.alloc _)⟩ | exact ⟨efld (HV.out.alloc _).drew.head, HC.out _ _ (HV.out.alloc _).drew⟩) ?_
  clear hK K
  try simp only [Act.put, List.setIfInBounds_toArray, List.set_cons_zero, List.set_cons_succ]
  refine Lk.mix_step rfl (fun K hK => ?_)
  go_simp
  (with_reducible refine (C4.out _).mono ?_)
  rintro r W1 ⟨rfl, hb⟩
  replace HV := Lib.hid (HV.out.grow hb)
  clear hb C4
  refine hK.out _ _ (by first | exact ⟨efld HV.out.head, HC.out _ _ HV.out⟩ | exact ⟨efld HV.out.drew.head, HC.out _ _ HV.out.drew⟩ | exact ⟨efld (HV.out.alloc _).head, HC.out _ _ (HV.out.alloc _)⟩ | exact ⟨efld (HV.out.alloc _).drew.head, HC.out _ _ (HV.out.alloc _).drew⟩) ?_
  clear hK K
  try simp only [Act.put, List.setIfInBounds_toArray, List.set_cons_zero, List.set_cons_succ]
  iterate 9 (refine Lk.mix_take ?_ rfl ?_ ?_; rotate_left; (focus (intro w' hS; (try dsimp only at hS); go_simp; try with_reducible rfl)); simp only [Act.put, List.setIfInBounds_toArray, List.set_cons_zero, List.set_cons_succ])
  refine Lk.mix_step rfl (fun K hK => ?_)
  go_simp
  refine hK.out _ _ (by first | exact ⟨efld HV.out.head, HC.out _ _ HV.out⟩ | exact ⟨efld HV.out.drew.head, HC.out _ _ HV.out.drew⟩ | exact ⟨efld (HV.out.alloc _).head, HC.out _ _ (HV.out.alloc _)⟩ | exact ⟨efld (HV.out.alloc _).drew.head, HC.out _ _ (HV.out.alloc _).drew⟩) ?_
  clear hK K
  try simp only [Act.put, List.setIfInBounds_toArray, List.set_cons_zero, List.set_cons_succ]
  refine Lk.mix_step rfl (fun K hK => ?_)
  go_simp
  (with_reducible refine (C5.out _).mono ?_)
  rintro r W1 ⟨rfl, hb⟩
  replace HV := Lib.hid (HV.out.grow hb)
  clear hb C5
  refine hK.out _ _ (by first | exact ⟨efld HV.out.head, HC.out _ _ HV.out⟩ | exact ⟨efld HV.out.drew.head, HC.out _ _ HV.out.drew⟩ | exact ⟨efld (HV.out.alloc _).head, HC.out _ _ (HV.out.alloc _)⟩ | exact ⟨efld (HV.out.alloc _).drew.head, HC.out _ _ (HV.out.alloc _).drew⟩) ?_
  clear hK K
  try simp only [Act.put, List.setIfInBounds_toArray, List.set_cons_zero, List.set_cons_succ]
  iterate 2 (refine Lk.mix_take ?_ rfl ?_ ?_; rotate_left; (focus (intro w' hS; (try dsimp only at hS); go_simp; try with_reducible rfl)); simp only [Act.put, List.setIfInBounds_toArray, List.set_cons_zero, List.set_cons_succ])
  refine Lk.mix_nil (NoPanic.normal ?_)
  go_wp2_with fail
  go_ret
  exact ⟨rfl, HV.out.old⟩

/-- **Check**, of any engine. -/
theorem check_c (e : Eg) (w : World) (hE : EngIn w e) : Calls Try.prog 17 #[.agg (ec e)] w fun r w' => r = .returned (.int .i64 (Em.err (en e))) ∧ Below w.heap.size w w' := by
  have E := six (en e)
  unfold Em.err
  cases h0 : Em.tabs (en e) with
  | false => rw [E, h0]; exact check_0 e w hE h0
  | true =>
    rw [E, h0]
    show Calls Try.prog _ _ _ fun r w' => r = .returned (.int .i64 (if (true && (Em.within e.lag2 1 64 && Em.within e.lag1 1 64 && Em.within e.lagE 1 64) && Em.within e.slew 1 1048576 && (Em.within e.starter 0 1048576 && Em.within e.disturb 0 1048576) && Em.within e.light 0 e.starter && Em.within e.lean 1 (Tb.g e.f.ys 0)) = true then 0 else 100)) ∧ Below w.heap.size w w'
    cases h1 : (Em.within e.lag2 1 64 && Em.within e.lag1 1 64 && Em.within e.lagE 1 64) with
    | false => exact check_1 e w hE h0 h1
    | true =>
      cases h2 : Em.within e.slew 1 1048576 with
      | false => exact check_2 e w hE h0 h1 h2
      | true =>
        cases h3 : (Em.within e.starter 0 1048576 && Em.within e.disturb 0 1048576) with
        | false => exact check_3 e w hE h0 h1 h2 h3
        | true =>
          cases h4 : Em.within e.light 0 e.starter with
          | false => exact check_4 e w hE h0 h1 h2 h3 h4
          | true =>
            cases h5 : Em.within e.lean 1 (Tb.g e.f.ys 0) with
            | false => exact check_5 e w hE h0 h1 h2 h3 h4 h5
            | true => exact check_6 e w hE h0 h1 h2 h3 h4 h5

end Ew
end Go.Proofs.Ytioiffhbbhlgeaa
