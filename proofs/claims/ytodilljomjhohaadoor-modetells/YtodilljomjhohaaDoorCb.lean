/- Texts of one seat laid together: SynthCheck SynthRest SynthModel SynthAwake StartMath OrdKit StartIn ModeMath ModeIn ScheduleCheck StartCalls ModeSo ModeCalls ModeNext ModeAllowed ModeAwake ScheduleRef TabRef4 SynthRCheck. -/
import Derived.Test.YtodilljomjhohaaDoorCa
import Derived.OwnWalk
import Derived.ChangeKeysEq
import Derived.Lib.MinMax
import Derived.WalkMore
import Derived.RangeFuncNested
import Derived.Deep.DeepCutAuto

/- synth.Check: whether an engine may be. -/
namespace Go.Proofs.YtodilljomjhohaaDoor
namespace Ew
open Go.RowKit TabC Lk

theorem rising_w (e : Eg) (w : World) (hE : EngIn w e) {b : Bool} (hb : Em.tabs (en e) = b) : Calls Tryd.prog 50 #[.agg (ec e), .slice (some ⟨w.heap.size + 1, 0, none⟩) 4 4] ((w.alloc (eo e)).alloc po).drew fun r w' => r = .returned (.bool b) ∧ Hv w w' [(w.heap.size, eo e)] := by
  have h := ((one_e w e).made po).drew
  have := h.head
  rw [World.size_alloc] at this
  refine (rising_all e (w.heap.size + 1) _ (hE.below h.old) this).mono fun r w' ⟨h1, h2⟩ => ⟨by rw [h1, hb], (h.grow h2).tail⟩
theorem w1 (lo hi a : Int) {b : Bool} (hb : Em.within a lo hi = b) (W : World) : Calls Tryd.prog 55 #[.int .i64 lo, .int .i64 hi, .slice (some ⟨W.heap.size, 0, none⟩) 1 1] (W.alloc (.cells #[.int .i64 a] 3 (0, 0))) fun r w' => r = .returned (.bool b) ∧ Below W.heap.size W w' :=
  (within1 lo hi a W.heap.size _ (heap_alloc_last W _)).mono fun r w' ⟨h1, h2⟩ => ⟨by rw [h1, hb], h2 ▸ (Below.refl W.heap.size W).alloc (Nat.le_refl _) _⟩
theorem w2 (lo hi a a' : Int) {b : Bool} (hb : (Em.within a lo hi && Em.within a' lo hi) = b) (W : World) : Calls Tryd.prog 55 #[.int .i64 lo, .int .i64 hi, .slice (some ⟨W.heap.size, 0, none⟩) 2 2] (W.alloc (.cells #[.int .i64 a, .int .i64 a'] 3 (0, 0))) fun r w' => r = .returned (.bool b) ∧ Below W.heap.size W w' :=
  (within2 lo hi a a' W.heap.size _ (heap_alloc_last W _)).mono fun r w' ⟨h1, h2⟩ => ⟨by rw [h1, hb], h2 ▸ (Below.refl W.heap.size W).alloc (Nat.le_refl _) _⟩
theorem w3 (lo hi a a' a'' : Int) {b : Bool} (hb : (Em.within a lo hi && Em.within a' lo hi && Em.within a'' lo hi) = b) (W : World) : Calls Tryd.prog 55 #[.int .i64 lo, .int .i64 hi, .slice (some ⟨W.heap.size, 0, none⟩) 3 3] (W.alloc (.cells #[.int .i64 a, .int .i64 a', .int .i64 a''] 3 (0, 0))) fun r w' => r = .returned (.bool b) ∧ Below W.heap.size W w' :=
  (within3 lo hi a a' a'' W.heap.size _ (heap_alloc_last W _)).mono fun r w' ⟨h1, h2⟩ => ⟨by rw [h1, hb], h2 ▸ (Below.refl W.heap.size W).alloc (Nat.le_refl _) _⟩

/-- The six things that are asked, in order. -/
theorem six (e : Em.En) : Em.okB e = (Em.tabs e && (Em.within e.lag2 1 64 && Em.within e.lag1 1 64 && Em.within e.lagE 1 64) && Em.within e.slew 1 1048576 && (Em.within e.starter 0 1048576 && Em.within e.disturb 0 1048576) && Em.within e.light 0 e.starter && Em.within e.lean 1 (Tb.g e.fy 0)) := by
  cases h : Em.tabs e with
  | false => simp [Em.okB, h]
  | true =>
    have hf : Em.Ri e.fx e.fy := by
      simp only [Em.tabs, Bool.and_eq_true, Em.ri_iff] at h
      exact h.1.1.1
    have h2 := hf.ok.two
    have hy := hf.ok.yb 0 (by omega)
    rw [Bool.eq_iff_iff]
    simp only [Em.okB, h, Em.lags, Em.nums, Em.rest3, Em.within, Bool.and_eq_true, decide_eq_true_eq, true_and]
    omega

theorem ord_check : Lk.mixedB (Lk.opsOf Tryd.f44 1) [false, true, true, false, false, false, false, false, false, false, true, true, false, false, false, false, true, true, false, false, false, false, false, false, true, true, false, false, false, false, false, false, true, true, false, false, false, false, false, false, false, false, false, true, true, false, false] = true := by kernel_rfl

set_option maxRecDepth 100000 in
set_option maxHeartbeats 8000000 in
theorem check_0 (e : Eg) (w : World) (hE : EngIn w e) (h0 : Em.tabs (en e) = false) : Calls Tryd.prog 44 #[.agg (ec e)] w fun r w' => r = .returned (.int .i64 100) ∧ Below w.heap.size w w' := by
  have HV := Lib.hid (one_e w e)
  have C0 := Lib.hid (rising_w e w hE h0)
  clear hE h0
  go_enter Tryd.func44, Tryd.ntmps44
  go_wp2_with fail
  refine wp_region_noPanic (Lk.wp_region_mix ord_check (fun V => EFld V w.heap.size e) (by kernel_rfl) (by kernel_rfl) (fun _ _ _ _ _ h => h) (by first | exact efld HV.out.head | exact efld HV.out.drew.head | exact efld (HV.out.alloc _).head | exact efld (HV.out.alloc _).drew.head) ?_)
  replace HV := Lib.hid HV.out.drew
  iterate 1 (refine Lk.mix_take ?_ rfl ?_ ?_; rotate_left; (focus (intro w' hS; (try dsimp only at hS); go_simp; try with_reducible rfl)); simp only [Act.put, List.setIfInBounds_toArray, List.set_cons_zero, List.set_cons_succ])
  refine Lk.mix_step rfl (fun K hK => ?_)
  go_simp
  refine hK.out _ _ (by first | exact efld HV.out.head | exact efld HV.out.drew.head | exact efld (HV.out.alloc _).head | exact efld (HV.out.alloc _).drew.head) ?_
  clear hK K
  try simp only [Act.put, List.setIfInBounds_toArray, List.set_cons_zero, List.set_cons_succ]
  refine Lk.mix_step rfl (fun K hK => ?_)
  go_simp
  (with_reducible refine C0.out.mono ?_)
  rintro r W1 ⟨rfl, hv⟩
  replace HV := Lib.hid hv
  clear hv C0
  refine hK.out _ _ (by first | exact efld HV.out.head | exact efld HV.out.drew.head | exact efld (HV.out.alloc _).head | exact efld (HV.out.alloc _).drew.head) ?_
  clear hK K
  try simp only [Act.put, List.setIfInBounds_toArray, List.set_cons_zero, List.set_cons_succ]
  iterate 1 (refine Lk.mix_take ?_ rfl ?_ ?_; rotate_left; (focus (intro w' hS; (try dsimp only at hS); go_simp; try with_reducible rfl)); simp only [Act.put, List.setIfInBounds_toArray, List.set_cons_zero, List.set_cons_succ])
  iterate 6 (refine Lk.mix_skip rfl ?_; simp only [Act.put, List.setIfInBounds_toArray, List.set_cons_zero, List.set_cons_succ])
  iterate 2 (refine Lk.mix_skip' rfl ?_; simp only [Act.put, List.setIfInBounds_toArray, List.set_cons_zero, List.set_cons_succ])
  iterate 2 (refine Lk.mix_take ?_ rfl ?_ ?_; rotate_left; (focus (intro w' hS; (try dsimp only at hS); go_simp; try with_reducible rfl)); simp only [Act.put, List.setIfInBounds_toArray, List.set_cons_zero, List.set_cons_succ])
  iterate 2 (refine Lk.mix_skip rfl ?_; simp only [Act.put, List.setIfInBounds_toArray, List.set_cons_zero, List.set_cons_succ])
  iterate 2 (refine Lk.mix_skip' rfl ?_; simp only [Act.put, List.setIfInBounds_toArray, List.set_cons_zero, List.set_cons_succ])
  iterate 2 (refine Lk.mix_take ?_ rfl ?_ ?_; rotate_left; (focus (intro w' hS; (try dsimp only at hS); go_simp; try with_reducible rfl)); simp only [Act.put, List.setIfInBounds_toArray, List.set_cons_zero, List.set_cons_succ])
  iterate 4 (refine Lk.mix_skip rfl ?_; simp only [Act.put, List.setIfInBounds_toArray, List.set_cons_zero, List.set_cons_succ])
  iterate 2 (refine Lk.mix_skip' rfl ?_; simp only [Act.put, List.setIfInBounds_toArray, List.set_cons_zero, List.set_cons_succ])
  iterate 2 (refine Lk.mix_take ?_ rfl ?_ ?_; rotate_left; (focus (intro w' hS; (try dsimp only at hS); go_simp; try with_reducible rfl)); simp only [Act.put, List.setIfInBounds_toArray, List.set_cons_zero, List.set_cons_succ])
  iterate 4 (refine Lk.mix_skip rfl ?_; simp only [Act.put, List.setIfInBounds_toArray, List.set_cons_zero, List.set_cons_succ])
  iterate 2 (refine Lk.mix_skip' rfl ?_; simp only [Act.put, List.setIfInBounds_toArray, List.set_cons_zero, List.set_cons_succ])
  iterate 2 (refine Lk.mix_take ?_ rfl ?_ ?_; rotate_left; (focus (intro w' hS; (try dsimp only at hS); go_simp; try with_reducible rfl)); simp only [Act.put, List.setIfInBounds_toArray, List.set_cons_zero, List.set_cons_succ])
  iterate 7 (refine Lk.mix_skip rfl ?_; simp only [Act.put, List.setIfInBounds_toArray, List.set_cons_zero, List.set_cons_succ])
  iterate 2 (refine Lk.mix_skip' rfl ?_; simp only [Act.put, List.setIfInBounds_toArray, List.set_cons_zero, List.set_cons_succ])
  iterate 2 (refine Lk.mix_take ?_ rfl ?_ ?_; rotate_left; (focus (intro w' hS; (try dsimp only at hS); go_simp; try with_reducible rfl)); simp only [Act.put, List.setIfInBounds_toArray, List.set_cons_zero, List.set_cons_succ])
  refine Lk.mix_nil (NoPanic.normal ?_)
  go_wp2_with fail
  go_ret
  exact ⟨rfl, HV.out.old⟩

set_option maxRecDepth 100000 in
set_option maxHeartbeats 8000000 in
theorem check_1 (e : Eg) (w : World) (hE : EngIn w e) (h0 : Em.tabs (en e) = true) (h1 : (Em.within e.lag2 1 64 && Em.within e.lag1 1 64 && Em.within e.lagE 1 64) = false) : Calls Tryd.prog 44 #[.agg (ec e)] w fun r w' => r = .returned (.int .i64 100) ∧ Below w.heap.size w w' := by
  have HV := Lib.hid (one_e w e)
  have C0 := Lib.hid (rising_w e w hE h0)
  have C1 := Lib.hid (w3 1 64 e.lag2 e.lag1 e.lagE h1)
  clear hE h0 h1
  go_enter Tryd.func44, Tryd.ntmps44
  go_wp2_with fail
  refine wp_region_noPanic (Lk.wp_region_mix ord_check (fun V => EFld V w.heap.size e) (by kernel_rfl) (by kernel_rfl) (fun _ _ _ _ _ h => h) (by first | exact efld HV.out.head | exact efld HV.out.drew.head | exact efld (HV.out.alloc _).head | exact efld (HV.out.alloc _).drew.head) ?_)
  replace HV := Lib.hid HV.out.drew
  iterate 1 (refine Lk.mix_take ?_ rfl ?_ ?_; rotate_left; (focus (intro w' hS; (try dsimp only at hS); go_simp; try with_reducible rfl)); simp only [Act.put, List.setIfInBounds_toArray, List.set_cons_zero, List.set_cons_succ])
  refine Lk.mix_step rfl (fun K hK => ?_)
  go_simp
  refine hK.out _ _ (by first | exact efld HV.out.head | exact efld HV.out.drew.head | exact efld (HV.out.alloc _).head | exact efld (HV.out.alloc _).drew.head) ?_
  clear hK K
  try simp only [Act.put, List.setIfInBounds_toArray, List.set_cons_zero, List.set_cons_succ]
  refine Lk.mix_step rfl (fun K hK => ?_)
  go_simp
  (with_reducible refine C0.out.mono ?_)
  rintro r W1 ⟨rfl, hv⟩
  replace HV := Lib.hid hv
  clear hv C0
  refine hK.out _ _ (by first | exact efld HV.out.head | exact efld HV.out.drew.head | exact efld (HV.out.alloc _).head | exact efld (HV.out.alloc _).drew.head) ?_
  clear hK K
  try simp only [Act.put, List.setIfInBounds_toArray, List.set_cons_zero, List.set_cons_succ]
  iterate 7 (refine Lk.mix_take ?_ rfl ?_ ?_; rotate_left; (focus (intro w' hS; (try dsimp only at hS); go_simp; try with_reducible rfl)); simp only [Act.put, List.setIfInBounds_toArray, List.set_cons_zero, List.set_cons_succ])
  refine Lk.mix_step rfl (fun K hK => ?_)
  go_simp
  refine hK.out _ _ (by first | exact efld HV.out.head | exact efld HV.out.drew.head | exact efld (HV.out.alloc _).head | exact efld (HV.out.alloc _).drew.head) ?_
  clear hK K
  try simp only [Act.put, List.setIfInBounds_toArray, List.set_cons_zero, List.set_cons_succ]
  refine Lk.mix_step rfl (fun K hK => ?_)
  go_simp
  (with_reducible refine (C1.out _).mono ?_)
  rintro r W1 ⟨rfl, hb⟩
  replace HV := Lib.hid (HV.out.grow hb)
  clear hb C1
  refine hK.out _ _ (by first | exact efld HV.out.head | exact efld HV.out.drew.head | exact efld (HV.out.alloc _).head | exact efld (HV.out.alloc _).drew.head) ?_
  clear hK K
  try simp only [Act.put, List.setIfInBounds_toArray, List.set_cons_zero, List.set_cons_succ]
  iterate 2 (refine Lk.mix_take ?_ rfl ?_ ?_; rotate_left; (focus (intro w' hS; (try dsimp only at hS); go_simp; try with_reducible rfl)); simp only [Act.put, List.setIfInBounds_toArray, List.set_cons_zero, List.set_cons_succ])
  iterate 2 (refine Lk.mix_skip rfl ?_; simp only [Act.put, List.setIfInBounds_toArray, List.set_cons_zero, List.set_cons_succ])
  iterate 2 (refine Lk.mix_skip' rfl ?_; simp only [Act.put, List.setIfInBounds_toArray, List.set_cons_zero, List.set_cons_succ])
  iterate 2 (refine Lk.mix_take ?_ rfl ?_ ?_; rotate_left; (focus (intro w' hS; (try dsimp only at hS); go_simp; try with_reducible rfl)); simp only [Act.put, List.setIfInBounds_toArray, List.set_cons_zero, List.set_cons_succ])
  iterate 4 (refine Lk.mix_skip rfl ?_; simp only [Act.put, List.setIfInBounds_toArray, List.set_cons_zero, List.set_cons_succ])
  iterate 2 (refine Lk.mix_skip' rfl ?_; simp only [Act.put, List.setIfInBounds_toArray, List.set_cons_zero, List.set_cons_succ])
  iterate 2 (refine Lk.mix_take ?_ rfl ?_ ?_; rotate_left; (focus (intro w' hS; (try dsimp only at hS); go_simp; try with_reducible rfl)); simp only [Act.put, List.setIfInBounds_toArray, List.set_cons_zero, List.set_cons_succ])
  iterate 4 (refine Lk.mix_skip rfl ?_; simp only [Act.put, List.setIfInBounds_toArray, List.set_cons_zero, List.set_cons_succ])
  iterate 2 (refine Lk.mix_skip' rfl ?_; simp only [Act.put, List.setIfInBounds_toArray, List.set_cons_zero, List.set_cons_succ])
  iterate 2 (refine Lk.mix_take ?_ rfl ?_ ?_; rotate_left; (focus (intro w' hS; (try dsimp only at hS); go_simp; try with_reducible rfl)); simp only [Act.put, List.setIfInBounds_toArray, List.set_cons_zero, List.set_cons_succ])
  iterate 7 (refine Lk.mix_skip rfl ?_; simp only [Act.put, List.setIfInBounds_toArray, List.set_cons_zero, List.set_cons_succ])
  iterate 2 (refine Lk.mix_skip' rfl ?_; simp only [Act.put, List.setIfInBounds_toArray, List.set_cons_zero, List.set_cons_succ])
  iterate 2 (refine Lk.mix_take ?_ rfl ?_ ?_; rotate_left; (focus (intro w' hS; (try dsimp only at hS); go_simp; try with_reducible rfl)); simp only [Act.put, List.setIfInBounds_toArray, List.set_cons_zero, List.set_cons_succ])
  refine Lk.mix_nil (NoPanic.normal ?_)
  go_wp2_with fail
  go_ret
  exact ⟨rfl, HV.out.old⟩

set_option maxRecDepth 100000 in
set_option maxHeartbeats 8000000 in
theorem check_2 (e : Eg) (w : World) (hE : EngIn w e) (h0 : Em.tabs (en e) = true) (h1 : (Em.within e.lag2 1 64 && Em.within e.lag1 1 64 && Em.within e.lagE 1 64) = true) (h2 : Em.within e.slew 1 1048576 = false) : Calls Tryd.prog 44 #[.agg (ec e)] w fun r w' => r = .returned (.int .i64 100) ∧ Below w.heap.size w w' := by
  have HV := Lib.hid (one_e w e)
  have C0 := Lib.hid (rising_w e w hE h0)
  have C1 := Lib.hid (w3 1 64 e.lag2 e.lag1 e.lagE h1)
  have C2 := Lib.hid (w1 1 1048576 e.slew h2)
  clear hE h0 h1 h2
  go_enter Tryd.func44, Tryd.ntmps44
  go_wp2_with fail
  refine wp_region_noPanic (Lk.wp_region_mix ord_check (fun V => EFld V w.heap.size e) (by kernel_rfl) (by kernel_rfl) (fun _ _ _ _ _ h => h) (by first | exact efld HV.out.head | exact efld HV.out.drew.head | exact efld (HV.out.alloc _).head | exact efld (HV.out.alloc _).drew.head) ?_)
  replace HV := Lib.hid HV.out.drew
  iterate 1 (refine Lk.mix_take ?_ rfl ?_ ?_; rotate_left; (focus (intro w' hS; (try dsimp only at hS); go_simp; try with_reducible rfl)); simp only [Act.put, List.setIfInBounds_toArray, List.set_cons_zero, List.set_cons_succ])
  refine Lk.mix_step rfl (fun K hK => ?_)
  go_simp
  refine hK.out _ _ (by first | exact efld HV.out.head | exact efld HV.out.drew.head | exact efld (HV.out.alloc _).head | exact efld (HV.out.alloc _).drew.head) ?_
  clear hK K
  try simp only [Act.put, List.setIfInBounds_toArray, List.set_cons_zero, List.set_cons_succ]
  refine Lk.mix_step rfl (fun K hK => ?_)
  go_simp
  (with_reducible refine C0.out.mono ?_)
  rintro r W1 ⟨rfl, hv⟩
  replace HV := Lib.hid hv
  clear hv C0
  refine hK.out _ _ (by first | exact efld HV.out.head | exact efld HV.out.drew.head | exact efld (HV.out.alloc _).head | exact efld (HV.out.alloc _).drew.head) ?_
  clear hK K
  try simp only [Act.put, List.setIfInBounds_toArray, List.set_cons_zero, List.set_cons_succ]
  iterate 7 (refine Lk.mix_take ?_ rfl ?_ ?_; rotate_left; (focus (intro w' hS; (try dsimp only at hS); go_simp; try with_reducible rfl)); simp only [Act.put, List.setIfInBounds_toArray, List.set_cons_zero, List.set_cons_succ])
  refine Lk.mix_step rfl (fun K hK => ?_)
  go_simp
  refine hK.out _ _ (by first | exact efld HV.out.head | exact efld HV.out.drew.head | exact efld (HV.out.alloc _).head | exact efld (HV.out.alloc _).drew.head) ?_
  clear hK K
  try simp only [Act.put, List.setIfInBounds_toArray, List.set_cons_zero, List.set_cons_succ]
  refine Lk.mix_step rfl (fun K hK => ?_)
  go_simp
  (with_reducible refine (C1.out _).mono ?_)
  rintro r W1 ⟨rfl, hb⟩
  replace HV := Lib.hid (HV.out.grow hb)
  clear hb C1
  refine hK.out _ _ (by first | exact efld HV.out.head | exact efld HV.out.drew.head | exact efld (HV.out.alloc _).head | exact efld (HV.out.alloc _).drew.head) ?_
  clear hK K
  try simp only [Act.put, List.setIfInBounds_toArray, List.set_cons_zero, List.set_cons_succ]
  iterate 4 (refine Lk.mix_take ?_ rfl ?_ ?_; rotate_left; (focus (intro w' hS; (try dsimp only at hS); go_simp; try with_reducible rfl)); simp only [Act.put, List.setIfInBounds_toArray, List.set_cons_zero, List.set_cons_succ])
  refine Lk.mix_step rfl (fun K hK => ?_)
  go_simp
  refine hK.out _ _ (by first | exact efld HV.out.head | exact efld HV.out.drew.head | exact efld (HV.out.alloc _).head | exact efld (HV.out.alloc _).drew.head) ?_
  clear hK K
  try simp only [Act.put, List.setIfInBounds_toArray, List.set_cons_zero, List.set_cons_succ]
  refine Lk.mix_step rfl (fun K hK => ?_)
  go_simp
  (with_reducible refine (C2.out _).mono ?_)
  rintro r W1 ⟨rfl, hb⟩
  replace HV := Lib.hid (HV.out.grow hb)
  clear hb C2
  refine hK.out _ _ (by first | exact efld HV.out.head | exact efld HV.out.drew.head | exact efld (HV.out.alloc _).head | exact efld (HV.out.alloc _).drew.head) ?_
  clear hK K
  try simp only [Act.put, List.setIfInBounds_toArray, List.set_cons_zero, List.set_cons_succ]
  iterate 2 (refine Lk.mix_take ?_ rfl ?_ ?_; rotate_left; (focus (intro w' hS; (try dsimp only at hS); go_simp; try with_reducible rfl)); simp only [Act.put, List.setIfInBounds_toArray, List.set_cons_zero, List.set_cons_succ])
  iterate 4 (refine Lk.mix_skip rfl ?_; simp only [Act.put, List.setIfInBounds_toArray, List.set_cons_zero, List.set_cons_succ])
  iterate 2 (refine Lk.mix_skip' rfl ?_; simp only [Act.put, List.setIfInBounds_toArray, List.set_cons_zero, List.set_cons_succ])
  iterate 2 (refine Lk.mix_take ?_ rfl ?_ ?_; rotate_left; (focus (intro w' hS; (try dsimp only at hS); go_simp; try with_reducible rfl)); simp only [Act.put, List.setIfInBounds_toArray, List.set_cons_zero, List.set_cons_succ])
  iterate 4 (refine Lk.mix_skip rfl ?_; simp only [Act.put, List.setIfInBounds_toArray, List.set_cons_zero, List.set_cons_succ])
  iterate 2 (refine Lk.mix_skip' rfl ?_; simp only [Act.put, List.setIfInBounds_toArray, List.set_cons_zero, List.set_cons_succ])
  iterate 2 (refine Lk.mix_take ?_ rfl ?_ ?_; rotate_left; (focus (intro w' hS; (try dsimp only at hS); go_simp; try with_reducible rfl)); simp only [Act.put, List.setIfInBounds_toArray, List.set_cons_zero, List.set_cons_succ])
  iterate 7 (refine Lk.mix_skip rfl ?_; simp only [Act.put, List.setIfInBounds_toArray, List.set_cons_zero, List.set_cons_succ])
  iterate 2 (refine Lk.mix_skip' rfl ?_; simp only [Act.put, List.setIfInBounds_toArray, List.set_cons_zero, List.set_cons_succ])
  iterate 2 (refine Lk.mix_take ?_ rfl ?_ ?_; rotate_left; (focus (intro w' hS; (try dsimp only at hS); go_simp; try with_reducible rfl)); simp only [Act.put, List.setIfInBounds_toArray, List.set_cons_zero, List.set_cons_succ])
  refine Lk.mix_nil (NoPanic.normal ?_)
  go_wp2_with fail
  go_ret
  exact ⟨rfl, HV.out.old⟩

set_option maxRecDepth 100000 in
set_option maxHeartbeats 8000000 in
theorem check_3 (e : Eg) (w : World) (hE : EngIn w e) (h0 : Em.tabs (en e) = true) (h1 : (Em.within e.lag2 1 64 && Em.within e.lag1 1 64 && Em.within e.lagE 1 64) = true) (h2 : Em.within e.slew 1 1048576 = true) (h3 : (Em.within e.starter 0 1048576 && Em.within e.disturb 0 1048576) = false) : Calls Tryd.prog 44 #[.agg (ec e)] w fun r w' => r = .returned (.int .i64 100) ∧ Below w.heap.size w w' := by
  have HV := Lib.hid (one_e w e)
  have C0 := Lib.hid (rising_w e w hE h0)
  have C1 := Lib.hid (w3 1 64 e.lag2 e.lag1 e.lagE h1)
  have C2 := Lib.hid (w1 1 1048576 e.slew h2)
  have C3 := Lib.hid (w2 0 1048576 e.starter e.disturb h3)
  clear hE h0 h1 h2 h3
  go_enter Tryd.func44, Tryd.ntmps44
  go_wp2_with fail
  refine wp_region_noPanic (Lk.wp_region_mix ord_check (fun V => EFld V w.heap.size e) (by kernel_rfl) (by kernel_rfl) (fun _ _ _ _ _ h => h) (by first | exact efld HV.out.head | exact efld HV.out.drew.head | exact efld (HV.out.alloc _).head | exact efld (HV.out.alloc _).drew.head) ?_)
  replace HV := Lib.hid HV.out.drew
  iterate 1 (refine Lk.mix_take ?_ rfl ?_ ?_; rotate_left; (focus (intro w' hS; (try dsimp only at hS); go_simp; try with_reducible rfl)); simp only [Act.put, List.setIfInBounds_toArray, List.set_cons_zero, List.set_cons_succ])
  refine Lk.mix_step rfl (fun K hK => ?_)
  go_simp
  refine hK.out _ _ (by first | exact efld HV.out.head | exact efld HV.out.drew.head | exact efld (HV.out.alloc _).head | exact efld (HV.out.alloc _).drew.head) ?_
  clear hK K
  try simp only [Act.put, List.setIfInBounds_toArray, List.set_cons_zero, List.set_cons_succ]
  refine Lk.mix_step rfl (fun K hK => ?_)
  go_simp
  (with_reducible refine C0.out.mono ?_)
  rintro r W1 ⟨rfl, hv⟩
  replace HV := Lib.hid hv
  clear hv C0
  refine hK.out _ _ (by first | exact efld HV.out.head | exact efld HV.out.drew.head | exact efld (HV.out.alloc _).head | exact efld (HV.out.alloc _).drew.head) ?_
  clear hK K
  try simp only [Act.put, List.setIfInBounds_toArray, List.set_cons_zero, List.set_cons_succ]
  iterate 7 (refine Lk.mix_take ?_ rfl ?_ ?_; rotate_left; (focus (intro w' hS; (try dsimp only at hS); go_simp; try with_reducible rfl)); simp only [Act.put, List.setIfInBounds_toArray, List.set_cons_zero, List.set_cons_succ])
  refine Lk.mix_step rfl (fun K hK => ?_)
  go_simp
  refine hK.out _ _ (by first | exact efld HV.out.head | exact efld HV.out.drew.head | exact efld (HV.out.alloc _).head | exact efld (HV.out.alloc _).drew.head) ?_
  clear hK K
  try simp only [Act.put, List.setIfInBounds_toArray, List.set_cons_zero, List.set_cons_succ]
  refine Lk.mix_step rfl (fun K hK => ?_)
  go_simp
  (with_reducible refine (C1.out _).mono ?_)
  rintro r W1 ⟨rfl, hb⟩
  replace HV := Lib.hid (HV.out.grow hb)
  clear hb C1
  refine hK.out _ _ (by first | exact efld HV.out.head | exact efld HV.out.drew.head | exact efld (HV.out.alloc _).head | exact efld (HV.out.alloc _).drew.head) ?_
  clear hK K
  try simp only [Act.put, List.setIfInBounds_toArray, List.set_cons_zero, List.set_cons_succ]
  iterate 4 (refine Lk.mix_take ?_ rfl ?_ ?_; rotate_left; (focus (intro w' hS; (try dsimp only at hS); go_simp; try with_reducible rfl)); simp only [Act.put, List.setIfInBounds_toArray, List.set_cons_zero, List.set_cons_succ])
  refine Lk.mix_step rfl (fun K hK => ?_)
  go_simp
  refine hK.out _ _ (by first | exact efld HV.out.head | exact efld HV.out.drew.head | exact efld (HV.out.alloc _).head | exact efld (HV.out.alloc _).drew.head) ?_
  clear hK K
  try simp only [Act.put, List.setIfInBounds_toArray, List.set_cons_zero, List.set_cons_succ]
  refine Lk.mix_step rfl (fun K hK => ?_)
  go_simp
  (with_reducible refine (C2.out _).mono ?_)
  rintro r W1 ⟨rfl, hb⟩
  replace HV := Lib.hid (HV.out.grow hb)
  clear hb C2
  refine hK.out _ _ (by first | exact efld HV.out.head | exact efld HV.out.drew.head | exact efld (HV.out.alloc _).head | exact efld (HV.out.alloc _).drew.head) ?_
  clear hK K
  try simp only [Act.put, List.setIfInBounds_toArray, List.set_cons_zero, List.set_cons_succ]
  iterate 6 (refine Lk.mix_take ?_ rfl ?_ ?_; rotate_left; (focus (intro w' hS; (try dsimp only at hS); go_simp; try with_reducible rfl)); simp only [Act.put, List.setIfInBounds_toArray, List.set_cons_zero, List.set_cons_succ])
  refine Lk.mix_step rfl (fun K hK => ?_)
  go_simp
  refine hK.out _ _ (by first | exact efld HV.out.head | exact efld HV.out.drew.head | exact efld (HV.out.alloc _).head | exact efld (HV.out.alloc _).drew.head) ?_
  clear hK K
  try simp only [Act.put, List.setIfInBounds_toArray, List.set_cons_zero, List.set_cons_succ]
  refine Lk.mix_step rfl (fun K hK => ?_)
  go_simp
  (with_reducible refine (C3.out _).mono ?_)
  rintro r W1 ⟨rfl, hb⟩
  replace HV := Lib.hid (HV.out.grow hb)
  clear hb C3
  refine hK.out _ _ (by first | exact efld HV.out.head | exact efld HV.out.drew.head | exact efld (HV.out.alloc _).head | exact efld (HV.out.alloc _).drew.head) ?_
  clear hK K
  try simp only [Act.put, List.setIfInBounds_toArray, List.set_cons_zero, List.set_cons_succ]
  iterate 2 (refine Lk.mix_take ?_ rfl ?_ ?_; rotate_left; (focus (intro w' hS; (try dsimp only at hS); go_simp; try with_reducible rfl)); simp only [Act.put, List.setIfInBounds_toArray, List.set_cons_zero, List.set_cons_succ])
  iterate 4 (refine Lk.mix_skip rfl ?_; simp only [Act.put, List.setIfInBounds_toArray, List.set_cons_zero, List.set_cons_succ])
  iterate 2 (refine Lk.mix_skip' rfl ?_; simp only [Act.put, List.setIfInBounds_toArray, List.set_cons_zero, List.set_cons_succ])
  iterate 2 (refine Lk.mix_take ?_ rfl ?_ ?_; rotate_left; (focus (intro w' hS; (try dsimp only at hS); go_simp; try with_reducible rfl)); simp only [Act.put, List.setIfInBounds_toArray, List.set_cons_zero, List.set_cons_succ])
  iterate 7 (refine Lk.mix_skip rfl ?_; simp only [Act.put, List.setIfInBounds_toArray, List.set_cons_zero, List.set_cons_succ])
  iterate 2 (refine Lk.mix_skip' rfl ?_; simp only [Act.put, List.setIfInBounds_toArray, List.set_cons_zero, List.set_cons_succ])
  iterate 2 (refine Lk.mix_take ?_ rfl ?_ ?_; rotate_left; (focus (intro w' hS; (try dsimp only at hS); go_simp; try with_reducible rfl)); simp only [Act.put, List.setIfInBounds_toArray, List.set_cons_zero, List.set_cons_succ])
  refine Lk.mix_nil (NoPanic.normal ?_)
  go_wp2_with fail
  go_ret
  exact ⟨rfl, HV.out.old⟩

set_option maxRecDepth 100000 in
set_option maxHeartbeats 8000000 in
theorem check_4 (e : Eg) (w : World) (hE : EngIn w e) (h0 : Em.tabs (en e) = true) (h1 : (Em.within e.lag2 1 64 && Em.within e.lag1 1 64 && Em.within e.lagE 1 64) = true) (h2 : Em.within e.slew 1 1048576 = true) (h3 : (Em.within e.starter 0 1048576 && Em.within e.disturb 0 1048576) = true) (h4 : Em.within e.light 0 e.starter = false) : Calls Tryd.prog 44 #[.agg (ec e)] w fun r w' => r = .returned (.int .i64 100) ∧ Below w.heap.size w w' := by
  have HV := Lib.hid (one_e w e)
  have C0 := Lib.hid (rising_w e w hE h0)
  have C1 := Lib.hid (w3 1 64 e.lag2 e.lag1 e.lagE h1)
  have C2 := Lib.hid (w1 1 1048576 e.slew h2)
  have C3 := Lib.hid (w2 0 1048576 e.starter e.disturb h3)
  have C4 := Lib.hid (w1 0 e.starter e.light h4)
  clear hE h0 h1 h2 h3 h4
  go_enter Tryd.func44, Tryd.ntmps44
  go_wp2_with fail
  refine wp_region_noPanic (Lk.wp_region_mix ord_check (fun V => EFld V w.heap.size e) (by kernel_rfl) (by kernel_rfl) (fun _ _ _ _ _ h => h) (by first | exact efld HV.out.head | exact efld HV.out.drew.head | exact efld (HV.out.alloc _).head | exact efld (HV.out.alloc _).drew.head) ?_)
  replace HV := Lib.hid HV.out.drew
  iterate 1 (refine Lk.mix_take ?_ rfl ?_ ?_; rotate_left; (focus (intro w' hS; (try dsimp only at hS); go_simp; try with_reducible rfl)); simp only [Act.put, List.setIfInBounds_toArray, List.set_cons_zero, List.set_cons_succ])
  refine Lk.mix_step rfl (fun K hK => ?_)
  go_simp
  refine hK.out _ _ (by first | exact efld HV.out.head | exact efld HV.out.drew.head | exact efld (HV.out.alloc _).head | exact efld (HV.out.alloc _).drew.head) ?_
  clear hK K
  try simp only [Act.put, List.setIfInBounds_toArray, List.set_cons_zero, List.set_cons_succ]
  refine Lk.mix_step rfl (fun K hK => ?_)
  go_simp
  (with_reducible refine C0.out.mono ?_)
  rintro r W1 ⟨rfl, hv⟩
  replace HV := Lib.hid hv
  clear hv C0
  refine hK.out _ _ (by first | exact efld HV.out.head | exact efld HV.out.drew.head | exact efld (HV.out.alloc _).head | exact efld (HV.out.alloc _).drew.head) ?_
  clear hK K
  try simp only [Act.put, List.setIfInBounds_toArray, List.set_cons_zero, List.set_cons_succ]
  iterate 7 (refine Lk.mix_take ?_ rfl ?_ ?_; rotate_left; (focus (intro w' hS; (try dsimp only at hS); go_simp; try with_reducible rfl)); simp only [Act.put, List.setIfInBounds_toArray, List.set_cons_zero, List.set_cons_succ])
  refine Lk.mix_step rfl (fun K hK => ?_)
  go_simp
  refine hK.out _ _ (by first | exact efld HV.out.head | exact efld HV.out.drew.head | exact efld (HV.out.alloc _).head | exact efld (HV.out.alloc _).drew.head) ?_
  clear hK K
  try simp only [Act.put, List.setIfInBounds_toArray, List.set_cons_zero, List.set_cons_succ]
  refine Lk.mix_step rfl (fun K hK => ?_)
  go_simp
  (with_reducible refine (C1.out _).mono ?_)
  rintro r W1 ⟨rfl, hb⟩
  replace HV := Lib.hid (HV.out.grow hb)
  clear hb C1
  refine hK.out _ _ (by first | exact efld HV.out.head | exact efld HV.out.drew.head | exact efld (HV.out.alloc _).head | exact efld (HV.out.alloc _).drew.head) ?_
  clear hK K
  try simp only [Act.put, List.setIfInBounds_toArray, List.set_cons_zero, List.set_cons_succ]
  iterate 4 (refine Lk.mix_take ?_ rfl ?_ ?_; rotate_left; (focus (intro w' hS; (try dsimp only at hS); go_simp; try with_reducible rfl)); simp only [Act.put, List.setIfInBounds_toArray, List.set_cons_zero, List.set_cons_succ])
  refine Lk.mix_step rfl (fun K hK => ?_)
  go_simp
  refine hK.out _ _ (by first | exact efld HV.out.head | exact efld HV.out.drew.head | exact efld (HV.out.alloc _).head | exact efld (HV.out.alloc _).drew.head) ?_
  clear hK K
  try simp only [Act.put, List.setIfInBounds_toArray, List.set_cons_zero, List.set_cons_succ]
  refine Lk.mix_step rfl (fun K hK => ?_)
  go_simp
  (with_reducible refine (C2.out _).mono ?_)
  rintro r W1 ⟨rfl, hb⟩
  replace HV := Lib.hid (HV.out.grow hb)
  clear hb C2
  refine hK.out _ _ (by first | exact efld HV.out.head | exact efld HV.out.drew.head | exact efld (HV.out.alloc _).head | exact efld (HV.out.alloc _).drew.head) ?_
  clear hK K
  try simp only [Act.put, List.setIfInBounds_toArray, List.set_cons_zero, List.set_cons_succ]
  iterate 6 (refine Lk.mix_take ?_ rfl ?_ ?_; rotate_left; (focus (intro w' hS; (try dsimp only at hS); go_simp; try with_reducible rfl)); simp only [Act.put, List.setIfInBounds_toArray, List.set_cons_zero, List.set_cons_succ])
  refine Lk.mix_step rfl (fun K hK => ?_)
  go_simp
  refine hK.out _ _ (by first | exact efld HV.out.head | exact efld HV.out.drew.head | exact efld (HV.out.alloc _).head | exact efld (HV.out.alloc _).drew.head) ?_
  clear hK K
  try simp only [Act.put, List.setIfInBounds_toArray, List.set_cons_zero, List.set_cons_succ]
  refine Lk.mix_step rfl (fun K hK => ?_)
  go_simp
  (with_reducible refine (C3.out _).mono ?_)
  rintro r W1 ⟨rfl, hb⟩
  replace HV := Lib.hid (HV.out.grow hb)
  clear hb C3
  refine hK.out _ _ (by first | exact efld HV.out.head | exact efld HV.out.drew.head | exact efld (HV.out.alloc _).head | exact efld (HV.out.alloc _).drew.head) ?_
  clear hK K
  try simp only [Act.put, List.setIfInBounds_toArray, List.set_cons_zero, List.set_cons_succ]
  iterate 6 (refine Lk.mix_take ?_ rfl ?_ ?_; rotate_left; (focus (intro w' hS; (try dsimp only at hS); go_simp; try with_reducible rfl)); simp only [Act.put, List.setIfInBounds_toArray, List.set_cons_zero, List.set_cons_succ])
  refine Lk.mix_step rfl (fun K hK => ?_)
  go_simp
  refine hK.out _ _ (by first | exact efld HV.out.head | exact efld HV.out.drew.head | exact efld (HV.out.alloc _).head | exact efld (HV.out.alloc _).drew.head) ?_
  clear hK K
  try simp only [Act.put, List.setIfInBounds_toArray, List.set_cons_zero, List.set_cons_succ]
  refine Lk.mix_step rfl (fun K hK => ?_)
  go_simp
  (with_reducible refine (C4.out _).mono ?_)
  rintro r W1 ⟨rfl, hb⟩
  replace HV := Lib.hid (HV.out.grow hb)
  clear hb C4
  refine hK.out _ _ (by first | exact efld HV.out.head | exact efld HV.out.drew.head | exact efld (HV.out.alloc _).head | exact efld (HV.out.alloc _).drew.head) ?_
  clear hK K
  try simp only [Act.put, List.setIfInBounds_toArray, List.set_cons_zero, List.set_cons_succ]
  iterate 2 (refine Lk.mix_take ?_ rfl ?_ ?_; rotate_left; (focus (intro w' hS; (try dsimp only at hS); go_simp; try with_reducible rfl)); simp only [Act.put, List.setIfInBounds_toArray, List.set_cons_zero, List.set_cons_succ])
  iterate 7 (refine Lk.mix_skip rfl ?_; simp only [Act.put, List.setIfInBounds_toArray, List.set_cons_zero, List.set_cons_succ])
  iterate 2 (refine Lk.mix_skip' rfl ?_; simp only [Act.put, List.setIfInBounds_toArray, List.set_cons_zero, List.set_cons_succ])
  iterate 2 (refine Lk.mix_take ?_ rfl ?_ ?_; rotate_left; (focus (intro w' hS; (try dsimp only at hS); go_simp; try with_reducible rfl)); simp only [Act.put, List.setIfInBounds_toArray, List.set_cons_zero, List.set_cons_succ])
  refine Lk.mix_nil (NoPanic.normal ?_)
  go_wp2_with fail
  go_ret
  exact ⟨rfl, HV.out.old⟩

set_option maxRecDepth 100000 in
set_option maxHeartbeats 8000000 in
theorem check_5 (e : Eg) (w : World) (hE : EngIn w e) (h0 : Em.tabs (en e) = true) (h1 : (Em.within e.lag2 1 64 && Em.within e.lag1 1 64 && Em.within e.lagE 1 64) = true) (h2 : Em.within e.slew 1 1048576 = true) (h3 : (Em.within e.starter 0 1048576 && Em.within e.disturb 0 1048576) = true) (h4 : Em.within e.light 0 e.starter = true) (h5 : Em.within e.lean 1 (Tb.g e.f.ys 0) = false) : Calls Tryd.prog 44 #[.agg (ec e)] w fun r w' => r = .returned (.int .i64 100) ∧ Below w.heap.size w w' := by
  have h2 : 2 ≤ e.f.ys.length := by
    have hf : Em.Ri e.f.xs e.f.ys := by
      have := h0
      simp only [Em.tabs, en, Bool.and_eq_true, Em.ri_iff] at this
      exact this.1.1.1
    have := hf.ok.two
    have := hf.ok.same
    omega
  obtain ⟨bf, of, ef, hc⟩ := cellG hE.f.ya (show 0 < e.f.ys.length by omega)
  obtain ⟨⟨fA, fB, fca, fcb, fxs, fys⟩, tp, tq, th, l2, l1, lE, sl, st, li, le, di⟩ := e
  simp only at ef hc h2 h0 h1 h2 h3 h4 h5
  subst ef
  have i1 : 0 < fys.length := by omega
  have HC : Hid (∀ V L, Hv w V L → V.cell? ⟨bf, of, none⟩ = some (.int .i64 (Tb.g fys 0))) := fun V L h => (h.old.cell (World.block_lt_of_cell? _ _ hc)).trans hc
  have HV := Lib.hid (one_e w ⟨⟨fA, some ⟨bf, of, none⟩, fca, fcb, fxs, fys⟩, tp, tq, th, l2, l1, lE, sl, st, li, le, di⟩)
  have C0 := Lib.hid (rising_w ⟨⟨fA, some ⟨bf, of, none⟩, fca, fcb, fxs, fys⟩, tp, tq, th, l2, l1, lE, sl, st, li, le, di⟩ w hE h0)
  have C1 := Lib.hid (w3 1 64 l2 l1 lE h1)
  have C2 := Lib.hid (w1 1 1048576 sl h2)
  have C3 := Lib.hid (w2 0 1048576 st di h3)
  have C4 := Lib.hid (w1 0 st li h4)
  have C5 := Lib.hid (w1 1 (Tb.g fys 0) le h5)
  generalize Tb.g fys 0 = y0 at HC C5
  clear hE h0 h1 h2 h3 h4 h5 hc
  go_enter Tryd.func44, Tryd.ntmps44
  go_wp2_with fail
  refine wp_region_noPanic (Lk.wp_region_mix ord_check (fun V => EFld V w.heap.size ⟨⟨fA, some ⟨bf, of, none⟩, fca, fcb, fxs, fys⟩, tp, tq, th, l2, l1, lE, sl, st, li, le, di⟩ ∧ V.cell? ⟨bf, of, none⟩ = some (.int .i64 y0)) (by kernel_rfl) (by kernel_rfl) (fun _ _ _ _ _ h => h) (by first | exact ⟨efld HV.out.head, HC.out _ _ HV.out⟩ | exact ⟨efld HV.out.drew.head, HC.out _ _ HV.out.drew⟩ | exact ⟨efld (HV.out.alloc _).head, HC.out _ _ (HV.out.alloc _)⟩ | exact ⟨efld (HV.out.alloc _).drew.head, HC.out _ _ (HV.out.alloc _).drew⟩) ?_)
  replace HV := Lib.hid HV.out.drew
  iterate 1 (refine Lk.mix_take ?_ rfl ?_ ?_; rotate_left; (focus (intro w' hS; (try dsimp only at hS); go_simp; try with_reducible rfl)); simp only [Act.put, List.setIfInBounds_toArray, List.set_cons_zero, List.set_cons_succ])
  refine Lk.mix_step rfl (fun K hK => ?_)
  go_simp
  refine hK.out _ _ (by first | exact ⟨efld HV.out.head, HC.out _ _ HV.out⟩ | exact ⟨efld HV.out.drew.head, HC.out _ _ HV.out.drew⟩ | exact ⟨efld (HV.out.alloc _).head, HC.out _ _ (HV.out.alloc _)⟩ | exact ⟨efld (HV.out.alloc _).drew.head, HC.out _ _ (HV.out.alloc _).drew⟩) ?_
  clear hK K
  try simp only [Act.put, List.setIfInBounds_toArray, List.set_cons_zero, List.set_cons_succ]
  refine Lk.mix_step rfl (fun K hK => ?_)
  go_simp
  (with_reducible refine C0.out.mono ?_)
  rintro r W1 ⟨rfl, hv⟩
  replace HV := Lib.hid hv
  clear hv C0
  refine hK.out _ _ (by first | exact ⟨efld HV.out.head, HC.out _ _ HV.out⟩ | exact ⟨efld HV.out.drew.head, HC.out _ _ HV.out.drew⟩ | exact ⟨efld (HV.out.alloc _).head, HC.out _ _ (HV.out.alloc _)⟩ | exact ⟨efld (HV.out.alloc _).drew.head, HC.out _ _ (HV.out.alloc _).drew⟩) ?_
  clear hK K
  try simp only [Act.put, List.setIfInBounds_toArray, List.set_cons_zero, List.set_cons_succ]
  iterate 7 (refine Lk.mix_take ?_ rfl ?_ ?_; rotate_left; (focus (intro w' hS; (try dsimp only at hS); go_simp; try with_reducible rfl)); simp only [Act.put, List.setIfInBounds_toArray, List.set_cons_zero, List.set_cons_succ])
  refine Lk.mix_step rfl (fun K hK => ?_)
  go_simp
  refine hK.out _ _ (by first | exact ⟨efld HV.out.head, HC.out _ _ HV.out⟩ | exact ⟨efld HV.out.drew.head, HC.out _ _ HV.out.drew⟩ | exact ⟨efld (HV.out.alloc _).head, HC.out _ _ (HV.out.alloc _)⟩ | exact ⟨efld (HV.out.alloc _).drew.head, HC.out _ _ (HV.out.alloc _).drew⟩) ?_
  clear hK K
  try simp only [Act.put, List.setIfInBounds_toArray, List.set_cons_zero, List.set_cons_succ]
  refine Lk.mix_step rfl (fun K hK => ?_)
  go_simp
  (with_reducible refine (C1.out _).mono ?_)
  rintro r W1 ⟨rfl, hb⟩
  replace HV := Lib.hid (HV.out.grow hb)
  clear hb C1
  refine hK.out _ _ (by first | exact ⟨efld HV.out.head, HC.out _ _ HV.out⟩ | exact ⟨efld HV.out.drew.head, HC.out _ _ HV.out.drew⟩ | exact ⟨efld (HV.out.alloc _).head, HC.out _ _ (HV.out.alloc _)⟩ | exact ⟨efld (HV.out.alloc _).drew.head, HC.out _ _ (HV.out.alloc _).drew⟩) ?_
  clear hK K
  try simp only [Act.put, List.setIfInBounds_toArray, List.set_cons_zero, List.set_cons_succ]
  iterate 4 (refine Lk.mix_take ?_ rfl ?_ ?_; rotate_left; (focus (intro w' hS; (try dsimp only at hS); go_simp; try with_reducible rfl)); simp only [Act.put, List.setIfInBounds_toArray, List.set_cons_zero, List.set_cons_succ])
  refine Lk.mix_step rfl (fun K hK => ?_)
  go_simp
  refine hK.out _ _ (by first | exact ⟨efld HV.out.head, HC.out _ _ HV.out⟩ | exact ⟨efld HV.out.drew.head, HC.out _ _ HV.out.drew⟩ | exact ⟨efld (HV.out.alloc _).head, HC.out _ _ (HV.out.alloc _)⟩ | exact ⟨efld (HV.out.alloc _).drew.head, HC.out _ _ (HV.out.alloc _).drew⟩) ?_
  clear hK K
  try simp only [Act.put, List.setIfInBounds_toArray, List.set_cons_zero, List.set_cons_succ]
  refine Lk.mix_step rfl (fun K hK => ?_)
  go_simp
  (with_reducible refine (C2.out _).mono ?_)
  rintro r W1 ⟨rfl, hb⟩
  replace HV := Lib.hid (HV.out.grow hb)
  clear hb C2
  refine hK.out _ _ (by first | exact ⟨efld HV.out.head, HC.out _ _ HV.out⟩ | exact ⟨efld HV.out.drew.head, HC.out _ _ HV.out.drew⟩ | exact ⟨efld (HV.out.alloc _).head, HC.out _ _ (HV.out.alloc _)⟩ | exact ⟨efld (HV.out.alloc _).drew.head, HC.out _ _ (HV.out.alloc _).drew⟩) ?_
  clear hK K
  try simp only [Act.put, List.setIfInBounds_toArray, List.set_cons_zero, List.set_cons_succ]
  iterate 6 (refine Lk.mix_take ?_ rfl ?_ ?_; rotate_left; (focus (intro w' hS; (try dsimp only at hS); go_simp; try with_reducible rfl)); simp only [Act.put, List.setIfInBounds_toArray, List.set_cons_zero, List.set_cons_succ])
  refine Lk.mix_step rfl (fun K hK => ?_)
  go_simp
  refine hK.out _ _ (by first | exact ⟨efld HV.out.head, HC.out _ _ HV.out⟩ | exact ⟨efld HV.out.drew.head, HC.out _ _ HV.out.drew⟩ | exact ⟨efld (HV.out.alloc _).head, HC.out _ _ (HV.out.alloc _)⟩ | exact ⟨efld (HV.out.alloc _).drew.head, HC.out _ _ (HV.out.alloc _).drew⟩) ?_
  clear hK K
  try simp only [Act.put, List.setIfInBounds_toArray, List.set_cons_zero, List.set_cons_succ]
  refine Lk.mix_step rfl (fun K hK => ?_)
  go_simp
  (with_reducible refine (C3.out _).mono ?_)
  rintro r W1 ⟨rfl, hb⟩
  replace HV := Lib.hid (HV.out.grow hb)
  clear hb C3
  refine hK.out _ _ (by first | exact ⟨efld HV.out.head, HC.out _ _ HV.out⟩ | exact ⟨efld HV.out.drew.head, HC.out _ _ HV.out.drew⟩ | exact ⟨efld (HV.out.alloc _).head, HC.out _ _ (HV.out.alloc _)⟩ | exact ⟨efld (HV.out.alloc _).drew.head, HC.out _ _ (HV.out.alloc _).drew⟩) ?_
  clear hK K
  try simp only [Act.put, List.setIfInBounds_toArray, List.set_cons_zero, List.set_cons_succ]
  iterate 6 (refine Lk.mix_take ?_ rfl ?_ ?_; rotate_left; (focus (intro w' hS; (try dsimp only at hS); go_simp; try with_reducible rfl)); simp only [Act.put, List.setIfInBounds_toArray, List.set_cons_zero, List.set_cons_succ])
  refine Lk.mix_step rfl (fun K hK => ?_)
  go_simp
  refine hK.out _ _ (by first | exact ⟨efld HV.out.head, HC.out _ _ HV.out⟩ | exact ⟨efld HV.out.drew.head, HC.out _ _ HV.out.drew⟩ | exact ⟨efld (HV.out.alloc _).head, HC.out _ _ (HV.out.alloc _)⟩ | exact ⟨efld (HV.out.alloc _).drew.head, HC.out _ _ (HV.out.alloc _).drew⟩) ?_
  clear hK K
  try simp only [Act.put, List.setIfInBounds_toArray, List.set_cons_zero, List.set_cons_succ]
  refine Lk.mix_step rfl (fun K hK => ?_)
  go_simp
  (with_reducible refine (C4.out _).mono ?_)
  rintro r W1 ⟨rfl, hb⟩
  replace HV := Lib.hid (HV.out.grow hb)
  clear hb C4
  refine hK.out _ _ (by first | exact ⟨efld HV.out.head, HC.out _ _ HV.out⟩ | exact ⟨efld HV.out.drew.head, HC.out _ _ HV.out.drew⟩ | exact ⟨efld (HV.out.alloc _).head, HC.out _ _ (HV.out.alloc _)⟩ | exact ⟨efld (HV.out.alloc _).drew.head, HC.out _ _ (HV.out.alloc _).drew⟩) ?_
  clear hK K
  try simp only [Act.put, List.setIfInBounds_toArray, List.set_cons_zero, List.set_cons_succ]
  iterate 9 (refine Lk.mix_take ?_ rfl ?_ ?_; rotate_left; (focus (intro w' hS; (try dsimp only at hS); go_simp; try with_reducible rfl)); simp only [Act.put, List.setIfInBounds_toArray, List.set_cons_zero, List.set_cons_succ])
  refine Lk.mix_step rfl (fun K hK => ?_)
  go_simp
  refine hK.out _ _ (by first | exact ⟨efld HV.out.head, HC.out _ _ HV.out⟩ | exact ⟨efld HV.out.drew.head, HC.out _ _ HV.out.drew⟩ | exact ⟨efld (HV.out.alloc _).head, HC.out _ _ (HV.out.alloc _)⟩ | exact ⟨efld (HV.out.alloc _).drew.head, HC.out _ _ (HV.out.alloc _).drew⟩) ?_
  clear hK K
  try simp only [Act.put, List.setIfInBounds_toArray, List.set_cons_zero, List.set_cons_succ]
  refine Lk.mix_step rfl (fun K hK => ?_)
  go_simp
  (with_reducible refine (C5.out _).mono ?_)
  rintro r W1 ⟨rfl, hb⟩
  replace HV := Lib.hid (HV.out.grow hb)
  clear hb C5
  refine hK.out _ _ (by first | exact ⟨efld HV.out.head, HC.out _ _ HV.out⟩ | exact ⟨efld HV.out.drew.head, HC.out _ _ HV.out.drew⟩ | exact ⟨efld (HV.out.alloc _).head, HC.out _ _ (HV.out.alloc _)⟩ | exact ⟨efld (HV.out.alloc _).drew.head, HC.out _ _ (HV.out.alloc _).drew⟩) ?_
  clear hK K
  try simp only [Act.put, List.setIfInBounds_toArray, List.set_cons_zero, List.set_cons_succ]
  iterate 2 (refine Lk.mix_take ?_ rfl ?_ ?_; rotate_left; (focus (intro w' hS; (try dsimp only at hS); go_simp; try with_reducible rfl)); simp only [Act.put, List.setIfInBounds_toArray, List.set_cons_zero, List.set_cons_succ])
  refine Lk.mix_nil (NoPanic.normal ?_)
  go_wp2_with fail
  go_ret
  exact ⟨rfl, HV.out.old⟩

set_option maxRecDepth 100000 in
set_option maxHeartbeats 8000000 in
theorem check_6 (e : Eg) (w : World) (hE : EngIn w e) (h0 : Em.tabs (en e) = true) (h1 : (Em.within e.lag2 1 64 && Em.within e.lag1 1 64 && Em.within e.lagE 1 64) = true) (h2 : Em.within e.slew 1 1048576 = true) (h3 : (Em.within e.starter 0 1048576 && Em.within e.disturb 0 1048576) = true) (h4 : Em.within e.light 0 e.starter = true) (h5 : Em.within e.lean 1 (Tb.g e.f.ys 0) = true) : Calls Tryd.prog 44 #[.agg (ec e)] w fun r w' => r = .returned (.int .i64 0) ∧ Below w.heap.size w w' := by
  have h2 : 2 ≤ e.f.ys.length := by
    have hf : Em.Ri e.f.xs e.f.ys := by
      have := h0
      simp only [Em.tabs, en, Bool.and_eq_true, Em.ri_iff] at this
      exact this.1.1.1
    have := hf.ok.two
    have := hf.ok.same
    omega
  obtain ⟨bf, of, ef, hc⟩ := cellG hE.f.ya (show 0 < e.f.ys.length by omega)
  obtain ⟨⟨fA, fB, fca, fcb, fxs, fys⟩, tp, tq, th, l2, l1, lE, sl, st, li, le, di⟩ := e
  simp only at ef hc h2 h0 h1 h2 h3 h4 h5
  subst ef
  have i1 : 0 < fys.length := by omega
  have HC : Hid (∀ V L, Hv w V L → V.cell? ⟨bf, of, none⟩ = some (.int .i64 (Tb.g fys 0))) := fun V L h => (h.old.cell (World.block_lt_of_cell? _ _ hc)).trans hc
  have HV := Lib.hid (one_e w ⟨⟨fA, some ⟨bf, of, none⟩, fca, fcb, fxs, fys⟩, tp, tq, th, l2, l1, lE, sl, st, li, le, di⟩)
  have C0 := Lib.hid (rising_w ⟨⟨fA, some ⟨bf, of, none⟩, fca, fcb, fxs, fys⟩, tp, tq, th, l2, l1, lE, sl, st, li, le, di⟩ w hE h0)
  have C1 := Lib.hid (w3 1 64 l2 l1 lE h1)
  have C2 := Lib.hid (w1 1 1048576 sl h2)
  have C3 := Lib.hid (w2 0 1048576 st di h3)
  have C4 := Lib.hid (w1 0 st li h4)
  have C5 := Lib.hid (w1 1 (Tb.g fys 0) le h5)
  generalize Tb.g fys 0 = y0 at HC C5
  clear hE h0 h1 h2 h3 h4 h5 hc
  go_enter Tryd.func44, Tryd.ntmps44
  go_wp2_with fail
  refine wp_region_noPanic (Lk.wp_region_mix ord_check (fun V => EFld V w.heap.size ⟨⟨fA, some ⟨bf, of, none⟩, fca, fcb, fxs, fys⟩, tp, tq, th, l2, l1, lE, sl, st, li, le, di⟩ ∧ V.cell? ⟨bf, of, none⟩ = some (.int .i64 y0)) (by kernel_rfl) (by kernel_rfl) (fun _ _ _ _ _ h => h) (by first | exact ⟨efld HV.out.head, HC.out _ _ HV.out⟩ | exact ⟨efld HV.out.drew.head, HC.out _ _ HV.out.drew⟩ | exact ⟨efld (HV.out.alloc _).head, HC.out _ _ (HV.out.alloc _)⟩ | exact ⟨efld (HV.out.alloc _).drew.head, HC.out _ _ (HV.out.alloc _).drew⟩) ?_)
  replace HV := Lib.hid HV.out.drew
  iterate 1 (refine Lk.mix_take ?_ rfl ?_ ?_; rotate_left; (focus (intro w' hS; (try dsimp only at hS); go_simp; try with_reducible rfl)); simp only [Act.put, List.setIfInBounds_toArray, List.set_cons_zero, List.set_cons_succ])
  refine Lk.mix_step rfl (fun K hK => ?_)
  go_simp
  refine hK.out _ _ (by first | exact ⟨efld HV.out.head, HC.out _ _ HV.out⟩ | exact ⟨efld HV.out.drew.head, HC.out _ _ HV.out.drew⟩ | exact ⟨efld (HV.out.alloc _).head, HC.out _ _ (HV.out.alloc _)⟩ | exact ⟨efld (HV.out.alloc _).drew.head, HC.out _ _ (HV.out.alloc _).drew⟩) ?_
  clear hK K
  try simp only [Act.put, List.setIfInBounds_toArray, List.set_cons_zero, List.set_cons_succ]
  refine Lk.mix_step rfl (fun K hK => ?_)
  go_simp
  (with_reducible refine C0.out.mono ?_)
  rintro r W1 ⟨rfl, hv⟩
  replace HV := Lib.hid hv
  clear hv C0
  refine hK.out _ _ (by first | exact ⟨efld HV.out.head, HC.out _ _ HV.out⟩ | exact ⟨efld HV.out.drew.head, HC.out _ _ HV.out.drew⟩ | exact ⟨efld (HV.out.alloc _).head, HC.out _ _ (HV.out.alloc _)⟩ | exact ⟨efld (HV.out.alloc _).drew.head, HC.out _ _ (HV.out.alloc _).drew⟩) ?_
  clear hK K
  try simp only [Act.put, List.setIfInBounds_toArray, List.set_cons_zero, List.set_cons_succ]
  iterate 7 (refine Lk.mix_take ?_ rfl ?_ ?_; rotate_left; (focus (intro w' hS; (try dsimp only at hS); go_simp; try with_reducible rfl)); simp only [Act.put, List.setIfInBounds_toArray, List.set_cons_zero, List.set_cons_succ])
  refine Lk.mix_step rfl (fun K hK => ?_)
  go_simp
  refine hK.out _ _ (by first | exact ⟨efld HV.out.head, HC.out _ _ HV.out⟩ | exact ⟨efld HV.out.drew.head, HC.out _ _ HV.out.drew⟩ | exact ⟨efld (HV.out.alloc _).head, HC.out _ _ (HV.out.alloc _)⟩ | exact ⟨efld (HV.out.alloc _).drew.head, HC.out _ _ (HV.out.alloc _).drew⟩) ?_
  clear hK K
  try simp only [Act.put, List.setIfInBounds_toArray, List.set_cons_zero, List.set_cons_succ]
  refine Lk.mix_step rfl (fun K hK => ?_)
  go_simp
  (with_reducible refine (C1.out _).mono ?_)
  rintro r W1 ⟨rfl, hb⟩
  replace HV := Lib.hid (HV.out.grow hb)
  clear hb C1
  refine hK.out _ _ (by first | exact ⟨efld HV.out.head, HC.out _ _ HV.out⟩ | exact ⟨efld HV.out.drew.head, HC.out _ _ HV.out.drew⟩ | exact ⟨efld (HV.out.alloc _).head, HC.out _ _ (HV.out.alloc _)⟩ | exact ⟨efld (HV.out.alloc _).drew.head, HC.out _ _ (HV.out.alloc _).drew⟩) ?_
  clear hK K
  try simp only [Act.put, List.setIfInBounds_toArray, List.set_cons_zero, List.set_cons_succ]
  iterate 4 (refine Lk.mix_take ?_ rfl ?_ ?_; rotate_left; (focus (intro w' hS; (try dsimp only at hS); go_simp; try with_reducible rfl)); simp only [Act.put, List.setIfInBounds_toArray, List.set_cons_zero, List.set_cons_succ])
  refine Lk.mix_step rfl (fun K hK => ?_)
  go_simp
  refine hK.out _ _ (by first | exact ⟨efld HV.out.head, HC.out _ _ HV.out⟩ | exact ⟨efld HV.out.drew.head, HC.out _ _ HV.out.drew⟩ | exact ⟨efld (HV.out.alloc _).head, HC.out _ _ (HV.out.alloc _)⟩ | exact ⟨efld (HV.out.alloc _).drew.head, HC.out _ _ (HV.out.alloc _).drew⟩) ?_
  clear hK K
  try simp only [Act.put, List.setIfInBounds_toArray, List.set_cons_zero, List.set_cons_succ]
  refine Lk.mix_step rfl (fun K hK => ?_)
  go_simp
  (with_reducible refine (C2.out _).mono ?_)
  rintro r W1 ⟨rfl, hb⟩
  replace HV := Lib.hid (HV.out.grow hb)
  clear hb C2
  refine hK.out _ _ (by first | exact ⟨efld HV.out.head, HC.out _ _ HV.out⟩ | exact ⟨efld HV.out.drew.head, HC.out _ _ HV.out.drew⟩ | exact ⟨efld (HV.out.alloc _).head, HC.out _ _ (HV.out.alloc _)⟩ | exact ⟨efld (HV.out.alloc _).drew.head, HC.out _ _ (HV.out.alloc _).drew⟩) ?_
  clear hK K
  try simp only [Act.put, List.setIfInBounds_toArray, List.set_cons_zero, List.set_cons_succ]
  iterate 6 (refine Lk.mix_take ?_ rfl ?_ ?_; rotate_left; (focus (intro w' hS; (try dsimp only at hS); go_simp; try with_reducible rfl)); simp only [Act.put, List.setIfInBounds_toArray, List.set_cons_zero, List.set_cons_succ])
  refine Lk.mix_step rfl (fun K hK => ?_)
  go_simp
  refine hK.out _ _ (by first | exact ⟨efld HV.out.head, HC.out _ _ HV.out⟩ | exact ⟨efld HV.out.drew.head, HC.out _ _ HV.out.drew⟩ | exact ⟨efld (HV.out.alloc _).head, HC.out _ _ (HV.out.alloc _)⟩ | exact ⟨efld (HV.out.alloc _).drew.head, HC.out _ _ (HV.out.alloc _).drew⟩) ?_
  clear hK K
  try simp only [Act.put, List.setIfInBounds_toArray, List.set_cons_zero, List.set_cons_succ]
  refine Lk.mix_step rfl (fun K hK => ?_)
  go_simp
  (with_reducible refine (C3.out _).mono ?_)
  rintro r W1 ⟨rfl, hb⟩
  replace HV := Lib.hid (HV.out.grow hb)
  clear hb C3
  refine hK.out _ _ (by first | exact ⟨efld HV.out.head, HC.out _ _ HV.out⟩ | exact ⟨efld HV.out.drew.head, HC.out _ _ HV.out.drew⟩ | exact ⟨efld (HV.out.alloc _).head, HC.out _ _ (HV.out.alloc _)⟩ | exact ⟨efld (HV.out.alloc _).drew.head, HC.out _ _ (HV.out.alloc _).drew⟩) ?_
  clear hK K
  try simp only [Act.put, List.setIfInBounds_toArray, List.set_cons_zero, List.set_cons_succ]
  iterate 6 (refine Lk.mix_take ?_ rfl ?_ ?_; rotate_left; (focus (intro w' hS; (try dsimp only at hS); go_simp; try with_reducible rfl)); simp only [Act.put, List.setIfInBounds_toArray, List.set_cons_zero, List.set_cons_succ])
  refine Lk.mix_step rfl (fun K hK => ?_)
  go_simp
  refine hK.out _ _ (by first | exact ⟨efld HV.out.head, HC.out _ _ HV.out⟩ | exact ⟨efld HV.out.drew.head, HC.out _ _ HV.out.drew⟩ | exact ⟨efld (HV.out.alloc _).head, HC.out _ _ (HV.out.alloc _)⟩ | exact ⟨efld (HV.out.alloc _).drew.head, HC.out _ _ (HV.out.alloc _).drew⟩) ?_
  clear hK K
  try simp only [Act.put, List.setIfInBounds_toArray, List.set_cons_zero, List.set_cons_succ]
  refine Lk.mix_step rfl (fun K hK => ?_)
  go_simp
  (with_reducible refine (C4.out _).mono ?_)
  rintro r W1 ⟨rfl, hb⟩
  replace HV := Lib.hid (HV.out.grow hb)
  clear hb C4
  refine hK.out _ _ (by first | exact ⟨efld HV.out.head, HC.out _ _ HV.out⟩ | exact ⟨efld HV.out.drew.head, HC.out _ _ HV.out.drew⟩ | exact ⟨efld (HV.out.alloc _).head, HC.out _ _ (HV.out.alloc _)⟩ | exact ⟨efld (HV.out.alloc _).drew.head, HC.out _ _ (HV.out.alloc _).drew⟩) ?_
  clear hK K
  try simp only [Act.put, List.setIfInBounds_toArray, List.set_cons_zero, List.set_cons_succ]
  iterate 9 (refine Lk.mix_take ?_ rfl ?_ ?_; rotate_left; (focus (intro w' hS; (try dsimp only at hS); go_simp; try with_reducible rfl)); simp only [Act.put, List.setIfInBounds_toArray, List.set_cons_zero, List.set_cons_succ])
  refine Lk.mix_step rfl (fun K hK => ?_)
  go_simp
  refine hK.out _ _ (by first | exact ⟨efld HV.out.head, HC.out _ _ HV.out⟩ | exact ⟨efld HV.out.drew.head, HC.out _ _ HV.out.drew⟩ | exact ⟨efld (HV.out.alloc _).head, HC.out _ _ (HV.out.alloc _)⟩ | exact ⟨efld (HV.out.alloc _).drew.head, HC.out _ _ (HV.out.alloc _).drew⟩) ?_
  clear hK K
  try simp only [Act.put, List.setIfInBounds_toArray, List.set_cons_zero, List.set_cons_succ]
  refine Lk.mix_step rfl (fun K hK => ?_)
  go_simp
  (with_reducible refine (C5.out _).mono ?_)
  rintro r W1 ⟨rfl, hb⟩
  replace HV := Lib.hid (HV.out.grow hb)
  clear hb C5
  refine hK.out _ _ (by first | exact ⟨efld HV.out.head, HC.out _ _ HV.out⟩ | exact ⟨efld HV.out.drew.head, HC.out _ _ HV.out.drew⟩ | exact ⟨efld (HV.out.alloc _).head, HC.out _ _ (HV.out.alloc _)⟩ | exact ⟨efld (HV.out.alloc _).drew.head, HC.out _ _ (HV.out.alloc _).drew⟩) ?_
  clear hK K
  try simp only [Act.put, List.setIfInBounds_toArray, List.set_cons_zero, List.set_cons_succ]
  iterate 2 (refine Lk.mix_take ?_ rfl ?_ ?_; rotate_left; (focus (intro w' hS; (try dsimp only at hS); go_simp; try with_reducible rfl)); simp only [Act.put, List.setIfInBounds_toArray, List.set_cons_zero, List.set_cons_succ])
  refine Lk.mix_nil (NoPanic.normal ?_)
  go_wp2_with fail
  go_ret
  exact ⟨rfl, HV.out.old⟩

/-- **Check**, of any engine. -/
theorem check_c (e : Eg) (w : World) (hE : EngIn w e) : Calls Tryd.prog 44 #[.agg (ec e)] w fun r w' => r = .returned (.int .i64 (Em.err (en e))) ∧ Below w.heap.size w w' := by
  have E := six (en e)
  unfold Em.err
  cases h0 : Em.tabs (en e) with
  | false => rw [E, h0]; exact check_0 e w hE h0
  | true =>
    rw [E, h0]
    show Calls Tryd.prog _ _ _ fun r w' => r = .returned (.int .i64 (if (true && (Em.within e.lag2 1 64 && Em.within e.lag1 1 64 && Em.within e.lagE 1 64) && Em.within e.slew 1 1048576 && (Em.within e.starter 0 1048576 && Em.within e.disturb 0 1048576) && Em.within e.light 0 e.starter && Em.within e.lean 1 (Tb.g e.f.ys 0)) = true then 0 else 100)) ∧ Below w.heap.size w w'
    cases h1 : (Em.within e.lag2 1 64 && Em.within e.lag1 1 64 && Em.within e.lagE 1 64) with
    | false => exact check_1 e w hE h0 h1
    | true =>
      cases h2 : Em.within e.slew 1 1048576 with
      | false => exact check_2 e w hE h0 h1 h2
      | true =>
        cases h3 : (Em.within e.starter 0 1048576 && Em.within e.disturb 0 1048576) with
        | false => exact check_3 e w hE h0 h1 h2 h3
        | true =>
          cases h4 : Em.within e.light 0 e.starter with
          | false => exact check_4 e w hE h0 h1 h2 h3 h4
          | true =>
            cases h5 : Em.within e.lean 1 (Tb.g e.f.ys 0) with
            | false => exact check_5 e w hE h0 h1 h2 h3 h4 h5
            | true => exact check_6 e w hE h0 h1 h2 h3 h4 h5

end Ew
end Go.Proofs.YtodilljomjhohaaDoor

/- synth.Rest: where an engine comes to. -/
namespace Go.Proofs.YtodilljomjhohaaDoor
namespace Ew
open Go.RowKit TabC Lk

theorem check_ok (e : Eg) (w : World) (hE : EngIn w e) (h : Em.okB (en e) = true) : Calls Tryd.prog 44 #[.agg (ec e)] w fun r w' => r = .returned (.int .i64 0) ∧ Below w.heap.size w w' := by
  have := check_c e w hE
  rwa [show Em.err (en e) = 0 from by simp [Em.err, h]] at this
theorem check_no (e : Eg) (w : World) (hE : EngIn w e) (h : Em.okB (en e) = false) : Calls Tryd.prog 44 #[.agg (ec e)] w fun r w' => r = .returned (.int .i64 100) ∧ Below w.heap.size w w' := by
  have := check_c e w hE
  rwa [show Em.err (en e) = 100 from by simp [Em.err, h]] at this
theorem atv_of {xs ys : List Int} (h : Tb.Ok xs ys) (x : Int) : Tb.atv xs ys x = Tb.atO xs ys x := by simp [Tb.atv, (Tb.ok_iff xs ys).2 h]
theorem bk_of {xs ys : List Int} (h : Tb.Ok xs ys) (x : Int) : Tb.bk xs ys x = Tb.bkO xs ys x := by simp [Tb.bk, (Tb.ok_iff xs ys).2 h]

end Ew
end Go.Proofs.YtodilljomjhohaaDoor

/- synth.Model: what each signal should be, by the others. -/
namespace Go.Proofs.YtodilljomjhohaaDoor
namespace Ew
open Go.RowKit TabC Lk


end Ew
end Go.Proofs.YtodilljomjhohaaDoor

/- 'awake' of layer 10's statements answers true, and leaves all that lay; SynthNames. -/
namespace Go.Proofs.YtodilljomjhohaaDoor
namespace Ew
open Go.RowKit TabC Lk

/-- The statements' own engine; its lists lie in the blocks behind N. -/
def K0 : Em.En := ⟨[0, 1000], [200, 900], [0, 1000], [0, 10000], [0, 10000], [0, 8000], [0, 1000], [0, 900], 8, 8, 4, 50, 1500, 1000, 100, 0⟩
def E0 (N : Nat) : Eg := ⟨⟨some ⟨N + 1, 0, none⟩, some ⟨N + 1 + 1, 0, none⟩, 2, 2, [0, 1000], [200, 900]⟩, ⟨some ⟨N + 1 + 1 + 1, 0, none⟩, some ⟨N + 1 + 1 + 1 + 1, 0, none⟩, 2, 2, [0, 1000], [0, 10000]⟩, ⟨some ⟨N + 1 + 1 + 1 + 1 + 1, 0, none⟩, some ⟨N + 1 + 1 + 1 + 1 + 1 + 1, 0, none⟩, 2, 2, [0, 10000], [0, 8000]⟩, ⟨some ⟨N + 1 + 1 + 1 + 1 + 1 + 1 + 1, 0, none⟩, some ⟨N + 1 + 1 + 1 + 1 + 1 + 1 + 1 + 1, 0, none⟩, 2, 2, [0, 1000], [0, 900]⟩, 8, 8, 4, 50, 1500, 1000, 100, 0⟩
theorem en_E0 (N : Nat) : en (E0 N) = K0 := rfl
theorem made0 (w : World) : EngIn (((((((((w.alloc (eo (E0 w.heap.size))).alloc (ro [0, 1000])).alloc (ro [200, 900])).alloc (ro [0, 1000])).alloc (ro [0, 10000])).alloc (ro [0, 10000])).alloc (ro [0, 8000])).alloc (ro [0, 1000])).alloc (ro [0, 900])) (E0 w.heap.size) ∧ Below w.heap.size w (((((((((w.alloc (eo (E0 w.heap.size))).alloc (ro [0, 1000])).alloc (ro [200, 900])).alloc (ro [0, 1000])).alloc (ro [0, 10000])).alloc (ro [0, 10000])).alloc (ro [0, 8000])).alloc (ro [0, 1000])).alloc (ro [0, 900])) ∧ (((((((((w.alloc (eo (E0 w.heap.size))).alloc (ro [0, 1000])).alloc (ro [200, 900])).alloc (ro [0, 1000])).alloc (ro [0, 10000])).alloc (ro [0, 10000])).alloc (ro [0, 8000])).alloc (ro [0, 1000])).alloc (ro [0, 900])).heap[w.heap.size]? = some (eo (E0 w.heap.size)) := by
  have h := (((((((((Hv.nil w).made (eo (E0 w.heap.size))).made (ro [0, 1000])).made (ro [200, 900])).made (ro [0, 1000])).made (ro [0, 10000])).made (ro [0, 10000])).made (ro [0, 8000])).made (ro [0, 1000])).made (ro [0, 900])
  simp only [World.size_alloc] at h
  have g : ∀ (n : Nat) (l : List Int), (n, ro l) ∈ _ → Lk.IntsAt _ .i64 (some ⟨n, 0, none⟩) l := fun n l hm => ints_row (h.has (n, ro l) hm)
  refine ⟨⟨⟨by show 2 ≤ _; decide, by show 2 ≤ _; decide, ?_, ?_⟩, ⟨by show 2 ≤ _; decide, by show 2 ≤ _; decide, ?_, ?_⟩, ⟨by show 2 ≤ _; decide, by show 2 ≤ _; decide, ?_, ?_⟩, ⟨by show 2 ≤ _; decide, by show 2 ≤ _; decide, ?_, ?_⟩⟩, h.old, h.has (w.heap.size, _) (by simp)⟩
  all_goals exact g _ _ (by simp [E0])

/-- A result that is an engine, in a cell. -/
theorem res_e {fn : Func} {p : Tmp} (h : fn.results = #[.cell p 27]) (tmps : Array Value) (w : World) (g : Nat) (e : Eg) (hp : tmps.getD p undef = .pointer (some ⟨g, 0, none⟩)) (hP : w.heap[g]? = some (eo e)) :
    (results fn tmps).run Tryd.prog w = .ok (.agg (ec e)) w := by
  have hp' : tmps[p]?.getD undef = .pointer (some ⟨g, 0, none⟩) := by simpa using hp
  simp [results, h, hp', asAddr, run_loadVar_row (P := Tryd.prog) w g 27 27 (ec e) (0, 0) _ hP Tryd.underlying27 rfl info_e]

set_option maxHeartbeats 4000000 in
theorem engine_c (w : World) : Calls Tryd.prog 19 #[] w fun r w' => ∃ e, en e = K0 ∧ r = .returned (.agg (ec e)) ∧ EngIn w' e ∧ Below w.heap.size w w' := by
  have HM := Lib.hid (made0 w)
  go_enter Tryd.func19, Tryd.ntmps19
  go_wp2_with fail
  refine bodyPost_ret (res_e rfl _ _ _ (E0 w.heap.size) rfl HM.out.2.2) rfl ?_
  exact ⟨E0 w.heap.size, rfl, rfl, HM.out.1, HM.out.2.1⟩

theorem cells_int : Tryd.prog.cellsOf 3 = 1 := by kernel_rfl
theorem info_int : ∃ i, Tryd.prog.info? 3 = some i := Option.isSome_iff_exists.1 (by kernel_rfl)
theorem range5 : List.range 5 = [0, 1, 2, 3, 4] := rfl

/-- No engine. -/
def Z0 : Eg := ⟨⟨none, none, 0, 0, [], []⟩, ⟨none, none, 0, 0, [], []⟩, ⟨none, none, 0, 0, [], []⟩, ⟨none, none, 0, 0, [], []⟩, 0, 0, 0, 0, 0, 0, 0, 0⟩
abbrev zc : Array Value := #[.slice none 0 0, .slice none 0 0, .slice none 0 0, .slice none 0 0, .slice none 0 0, .slice none 0 0, .slice none 0 0, .slice none 0 0, .int .i64 0, .int .i64 0, .int .i64 0, .int .i64 0, .int .i64 0, .int .i64 0, .int .i64 0, .int .i64 0]
abbrev zoe : Obj := .cells zc 27 (0, 0)
theorem none_in (W : World) : EngIn W Z0 := by
  have t : TabIn W none none [] [] := ⟨by decide, by decide, fun i hi => by simp at hi, fun i hi => by simp at hi⟩
  exact ⟨t, t, t, t⟩
theorem k_none (W : World) : Calls Tryd.prog 44 #[.agg zc] W fun r w' => r = .returned (.int .i64 100) ∧ Below W.heap.size W w' := check_no Z0 W (none_in W) (by decide +kernel)
theorem k_check {e : Eg} (h : en e = K0) (W : World) (hE : EngIn W e) : Calls Tryd.prog 44 #[.agg (ec e)] W fun r w' => r = .returned (.int .i64 0) ∧ Below W.heap.size W w' := check_ok e W hE (by rw [h]; decide +kernel)

section
variable {ops : Array Oper} {rest : List Oper} {op : Oper} {a : Act} {w : World} {Q : Exit → Act → World → Prop}
/-- An engine stored as a whole into a new block. -/
theorem stz (hgd : op.guard = none) (x y : Operand) (ho : op.op = .store 27 x y) (hd : op.dst = none)
    (g : Nat) (p : Eg) (hx : a.eval x = .pointer (some ⟨g, 0, none⟩)) (hy : a.eval y = .agg (ec p)) (hP : w.heap[g]? = some zoe)
    (h : ∀ w', w'.heap[g]? = some (eo p) → Off g w w' → wpList Tryd.prog ops Q rest a w') : wpList Tryd.prog ops Q (op :: rest) a w :=
  ste hgd x y ho hd g Z0 p hx hy hP h
end

end Ew
end Go.Proofs.YtodilljomjhohaaDoor

/- The fuel to start with, and when a start goes on, as plain functions. No program is named here. -/
namespace Sb

def fuel (e : Em.En) (l : Sd.Ls) (n : Int) : Int := if (Em.okB e && Sd.okB l) = true then max (Tb.atv l.sx l.sy n) e.lean else 0
def ready (e : Em.En) (n : Int) : Bool := Em.okB e && decide (e.light ≤ n)
def away (l : Sd.Ls) (lit : Bool) (n : Int) : Bool := lit && (Sd.okB l && decide (l.idle ≤ n))
def hot (l : Sd.Ls) (n : Int) : Bool := Sd.okB l && decide (l.redE ≤ n)
def hung (l : Sd.Ls) (n : Int) : Bool := Sd.okB l && decide (l.patience ≤ n)

theorem ready_more {e : Em.En} {n m : Int} (h : n ≤ m) : (!ready e n || (ready e m && decide (Em.err e = 0))) = true := by
  unfold ready Em.err
  cases Em.okB e <;> simp
  by_cases h1 : e.light ≤ n
  · right; omega
  · left; omega
theorem away_more {l : Sd.Ls} {n m : Int} (h : n ≤ m) : (!away l true n || away l true m) = true := by
  unfold away
  cases Sd.okB l <;> simp
  by_cases h1 : l.idle ≤ n
  · right; omega
  · left; omega
theorem hot_more {l : Sd.Ls} {n m : Int} (h : n ≤ m) : (!hot l n || hot l m) = true := by
  unfold hot
  cases Sd.okB l <;> simp
  by_cases h1 : l.redE ≤ n
  · right; omega
  · left; omega
theorem hung_more {l : Sd.Ls} {n m : Int} (h : n ≤ m) : (!hung l n || hung l m) = true := by
  unfold hung
  cases Sd.okB l <;> simp
  by_cases h1 : l.patience ≤ n
  · right; omega
  · left; omega
theorem fuel_mono {e : Em.En} {l : Sd.Ls} (h : Sd.okB l = true) {n m : Int} (hn : n ≤ m) : fuel e l n ≤ fuel e l m := by
  unfold fuel
  split
  · have hs := (Sd.ok_of h).s
    have := Tb.at_mono hs.ok hs.up hn
    simp only [Tb.atv, (Tb.ok_iff _ _).2 hs.ok, if_true]
    omega
  · exact Int.le_refl _
theorem fuel_lean {e : Em.En} {l : Sd.Ls} (he : Em.okB e = true) (h : Sd.okB l = true) (n : Int) : e.lean ≤ fuel e l n := by
  unfold fuel
  rw [he, h]
  simp only [Bool.and_self, if_true]
  omega

end Sb

/- General, over any program: a region that draws its order, gone through in an order that is given: each operation has one value in every world that meets S, or is left out, or is the only one that may come. -/
namespace Go.Proofs.YtodilljomjhohaaDoor
namespace Lk
open Go

section
variable {P : Program} {Q : Exit → Act → World → Prop} {md : Region.Mode} {S : World → Prop} {o : Oper} {a : Act} {w : World}
def nth : List Oper → Nat → Option Oper
  | [], _ => none
  | o :: _, 0 => some o
  | _ :: l, k + 1 => nth l k
theorem nth_eq : ∀ (l : List Oper) (k : Nat), nth l k = l[k]?
  | [], _ => by simp [nth]
  | _ :: _, 0 => by simp [nth]
  | _ :: l, k + 1 => by simp [nth, nth_eq l k]
def wpOrd (P : Program) (l : List Oper) (Q : Exit → Act → World → Prop) (S : World → Prop) : List (Nat × Bool) → Act → World → Prop
  | [], a, w => Q .normal a w
  | (k, false) :: r, a, w => ∃ o v, nth l k = some o ∧ YieldsIf P l.toArray S o v a ∧ wpOrd P l Q S r (a.put o.dst v) w
  | (k, true) :: r, a, w => ∃ o, nth l k = some o ∧ ((Region.wanted o (yielded l.toArray a.tmps) = true ∧ o.wp P a w (fun a' w' => S w' ∧ wpOrd P l Q S r a' w') Q) ∨ (Region.wanted o (yielded l.toArray a.tmps) = false ∧ wpOrd P l Q S r (a.put o.dst undef) w))
def ordB (md : Region.Mode) (ops : Array Oper) : List (Nat × Bool) → Array Bool → Bool
  | [], listed => (Region.ready md ops listed).isEmpty
  | (k, false) :: r, listed => (Region.ready md ops listed).contains k && Region.free md ops listed k && ordB md ops r (listed.setIfInBounds k true)
  | (k, true) :: r, listed => decide (Region.ready md ops listed = [k]) && ordB md ops r (listed.setIfInBounds k true)
def orderedB (ops : Array Oper) (fs : List (Nat × Bool)) : Bool := decide (fs.length = ops.size) && Region.noSelect ops && ordB .any ops fs (Array.replicate ops.size false)
theorem anyH_ord {l : List Oper} (hsel : Region.noSelect l.toArray = true) (hQ : ∀ c (o : Option Tmp) v a w, Q (.panic c) (a.put o v) w → Q (.panic c) a w) :
    ∀ (fs : List (Nat × Bool)) (listed : Array Bool) (a : Act) (w : World), S w → ordB md l.toArray fs listed = true → wpOrd P l Q S fs a w → wpAnyH P md l.toArray Q S fs.length listed a w
  | [], listed, a, w, _, hB, h => ⟨by simpa [ordB] using hB, h⟩
  | (k, false) :: r, listed, a, w, hS, hB, h => by
    obtain ⟨o, v, h0, hy, hK⟩ := h
    have h0' : l.toArray[k]? = some o := by rw [← h0, nth_eq]; simp
    simp only [ordB, Bool.and_eq_true] at hB
    obtain ⟨⟨hr, hf⟩, hB'⟩ := hB
    exact wpAnyH_take h0' hsel hf hr (fun c a w => hQ c o.dst v a w) hy hS (anyH_ord hsel hQ r _ _ w hS hB' hK)
  | (k, true) :: r, listed, a, w, hS, hB, h => by
    obtain ⟨o, h0, h⟩ := h
    have h0' : l.toArray[k]? = some o := by rw [← h0, nth_eq]; simp
    simp only [ordB, Bool.and_eq_true, decide_eq_true_eq] at hB
    refine wpAnyH_all (rs := [k]) hB.1 (by simp) fun i hi => ?_
    have hik : i = k := by simpa using hi
    subst hik
    have hw : wpOp P l.toArray Q i (fun a' w' => S w' ∧ wpOrd P l Q S r a' w') a w := by
      unfold wpOp
      rcases h with ⟨h1, h2⟩ | ⟨h1, h2⟩
      · simp only [h0', h1, if_true]
        exact .inl h2
      · simp only [h0', h1]
        exact ⟨hS, h2⟩
    exact wpOp_mono (fun a' w' h' => ⟨h'.1, anyH_ord hsel hQ r _ a' w' h'.1 hB.2 h'.2⟩) hw
theorem wp_region_ordered {id : Nat} {a : Act} {w : World} {ops' : Array Oper} {l : List Oper} {fs : List (Nat × Bool)} (hB : orderedB ops' fs = true) (S : World → Prop) (hm : P.follows .mixedOrders = true) (he : ops' = l.toArray)
    (hQ : ∀ c (o : Option Tmp) v a w, Q (.panic c) (a.put o v) w → Q (.panic c) a w) (hS : S w.drew)
    (h : wpOrd P l Q S fs a w.drew) : (Code.region id l.toArray true).wp P Q a w := by
  subst he
  simp only [orderedB, Bool.and_eq_true, decide_eq_true_eq] at hB
  obtain ⟨⟨hn, hsel⟩, hB⟩ := hB
  refine wp_region_held_drew (S := S) hm hS fun _ => ?_
  have H := anyH_ord (P := P) (md := .any) hsel hQ fs (Array.replicate l.toArray.size false) a _ hS hB h
  rw [hn] at H
  exact H
variable {l : List Oper} {k : Nat} {r : List (Nat × Bool)}
theorem ord_take (v : Value) (ho : nth l k = some o) (hw : Region.wanted o (yielded l.toArray a.tmps) = true) (h : ∀ w, S w → (execOp a.eval o).run P w = .ok (.value v) w)
    (c : wpOrd P l Q S r (a.put o.dst v) w) : wpOrd P l Q S ((k, false) :: r) a w := ⟨o, v, ho, .inl ⟨hw, h⟩, c⟩
theorem ord_skip (ho : nth l k = some o) (hw : Region.wanted o (yielded l.toArray a.tmps) = false)
    (c : wpOrd P l Q S r (a.put o.dst undef) w) : wpOrd P l Q S ((k, false) :: r) a w := ⟨o, undef, ho, .inr ⟨hw, rfl⟩, c⟩
theorem ord_skip' (ho : nth l k = some o) (hw : Region.wanted o (yielded l.toArray a.tmps) = false)
    (c : wpOrd P l Q S r (a.put o.dst undef) w) : wpOrd P l Q S ((k, true) :: r) a w := ⟨o, ho, .inr ⟨hw, c⟩⟩
theorem ord_step (ho : nth l k = some o) (hw : Region.wanted o (yielded l.toArray a.tmps) = true)
    (h : ∀ K : Act → World → Prop, Shut (∀ a' w', S w' → wpOrd P l Q S r a' w' → K a' w') → o.wp P a w K Q) : wpOrd P l Q S ((k, true) :: r) a w :=
  ⟨o, ho, .inl ⟨hw, h _ fun _ _ h1 h2 => ⟨h1, h2⟩⟩⟩
theorem ord_nil (h : Q .normal a w) : wpOrd P l Q S [] a w := h
end
end Lk
end Go.Proofs.YtodilljomjhohaaDoor

/- What a start goes by: an engine and laws as one value; the five things that are asked of it; tell, over one or two closures. Printed by gen_in.py. -/
namespace Go.Proofs.YtodilljomjhohaaDoor
namespace Bw
open Go.RowKit TabC Lk Ew Hw

/-- An engine and laws in one value, and its block. -/
abbrev qc (e : Eg) (l : Lg) : Array Value := #[.slice e.f.A e.f.xs.length e.f.ca, .slice e.f.B e.f.ys.length e.f.cb, .slice e.p.A e.p.xs.length e.p.ca, .slice e.p.B e.p.ys.length e.p.cb, .slice e.q.A e.q.xs.length e.q.ca, .slice e.q.B e.q.ys.length e.q.cb, .slice e.h.A e.h.xs.length e.h.ca, .slice e.h.B e.h.ys.length e.h.cb, .int .i64 e.lag2, .int .i64 e.lag1, .int .i64 e.lagE, .int .i64 e.slew, .int .i64 e.starter, .int .i64 e.light, .int .i64 e.lean, .int .i64 e.disturb,
  .slice l.a.A l.a.xs.length l.a.ca, .slice l.a.B l.a.ys.length l.a.cb, .slice l.d.A l.d.xs.length l.d.ca, .slice l.d.B l.d.ys.length l.d.cb, .slice l.s.A l.s.xs.length l.s.ca, .slice l.s.B l.s.ys.length l.s.cb, .int .i64 l.red1, .int .i64 l.red2, .int .i64 l.redE, .int .i64 l.margin, .int .i64 l.idle, .int .i64 l.patience]
abbrev qo (e : Eg) (l : Lg) : Obj := .cells (qc e l) 64 (0, 0)
theorem one_q (w : World) (e : Eg) (l : Lg) : Hv w (w.alloc (qo e l)) [(w.heap.size, qo e l)] := (Hv.nil w).made (qo e l)

/-- An engine, or laws, that a call leaves empty. -/
def tz : Tv := ⟨none, none, 0, 0, [], []⟩
def ez : Eg := ⟨tz, tz, tz, tz, 0, 0, 0, 0, 0, 0, 0, 0⟩
def lz : Lg := ⟨tz, tz, tz, 0, 0, 0, 0, 0, 0⟩

theorem lights_c (e : Eg) (l : Lg) (n : Int) (w : World) : Calls Tryd.prog 33 #[.agg (qc e l), .int .i64 n] w fun r w' => r = .returned (.bool (decide (e.light ≤ n))) ∧ Below w.heap.size w w' := by
  have HV := Lib.hid (one_q w e l)
  have c0 := Joins.cell_of_block HV.out.head 13
  simp only [List.getElem?_toArray, List.getElem?_cons_zero, List.getElem?_cons_succ] at c0
  have HB := Lib.hid HV.out.old
  clear HV
  go_enter Tryd.func33, Tryd.ntmps33
  go_wp2
  go_ret
  exact ⟨rfl, HB.out⟩

theorem idles_c (e : Eg) (l : Lg) (n : Int) (w : World) : Calls Tryd.prog 37 #[.agg (qc e l), .int .i64 n] w fun r w' => r = .returned (.bool (decide (l.idle ≤ n))) ∧ Below w.heap.size w w' := by
  have HV := Lib.hid (one_q w e l)
  have c0 := Joins.cell_of_block HV.out.head 26
  simp only [List.getElem?_toArray, List.getElem?_cons_zero, List.getElem?_cons_succ] at c0
  have HB := Lib.hid HV.out.old
  clear HV
  go_enter Tryd.func37, Tryd.ntmps37
  go_wp2
  go_ret
  exact ⟨rfl, HB.out⟩

theorem glows_c (e : Eg) (l : Lg) (n : Int) (w : World) : Calls Tryd.prog 35 #[.agg (qc e l), .int .i64 n] w fun r w' => r = .returned (.bool (decide (l.redE ≤ n))) ∧ Below w.heap.size w w' := by
  have HV := Lib.hid (one_q w e l)
  have c0 := Joins.cell_of_block HV.out.head 24
  simp only [List.getElem?_toArray, List.getElem?_cons_zero, List.getElem?_cons_succ] at c0
  have HB := Lib.hid HV.out.old
  clear HV
  go_enter Tryd.func35, Tryd.ntmps35
  go_wp2
  go_ret
  exact ⟨rfl, HB.out⟩

theorem waits_c (e : Eg) (l : Lg) (n : Int) (w : World) : Calls Tryd.prog 38 #[.agg (qc e l), .int .i64 n] w fun r w' => r = .returned (.bool (decide (l.patience ≤ n))) ∧ Below w.heap.size w w' := by
  have HV := Lib.hid (one_q w e l)
  have c0 := Joins.cell_of_block HV.out.head 27
  simp only [List.getElem?_toArray, List.getElem?_cons_zero, List.getElem?_cons_succ] at c0
  have HB := Lib.hid HV.out.old
  clear HV
  go_enter Tryd.func38, Tryd.ntmps38
  go_wp2
  go_ret
  exact ⟨rfl, HB.out⟩

/-- A closure over an engine, or over laws; a row of one, or two. -/
abbrev fe (b : Nat) : Value := .func (.func 43) #[] #[.pointer (some ⟨b, 0, none⟩)]
abbrev fl (b : Nat) : Value := .func (.func 45) #[] #[.pointer (some ⟨b, 0, none⟩)]
abbrev ro1 (f : Value) : Obj := .cells #[f] 22 (0, 0)
abbrev ro2 (f g : Value) : Obj := .cells #[f, g] 22 (0, 0)
theorem mk_e (e : Eg) (W : World) : Calls Tryd.prog 34 #[.agg (ec e)] W fun r w' => r = .returned (fe W.heap.size) ∧ w' = W.alloc (eo e) := by
  go_enter Tryd.func34, Tryd.ntmps34
  go_wp2
  go_ret
  exact ⟨rfl, rfl⟩
theorem mk_l (l : Lg) (W : World) : Calls Tryd.prog 36 #[.agg (lc l)] W fun r w' => r = .returned (fl W.heap.size) ∧ w' = W.alloc (lo l) := by
  go_enter Tryd.func36, Tryd.ntmps36
  go_wp2
  go_ret
  exact ⟨rfl, rfl⟩

theorem tell_lights (q : Array Value) (n : Int) (g b : Nat) (s a : Bool) (w : World) (hg : w.heap[g]? = some (ro1 (fe b)))
    (CS : ∀ V, Below w.heap.size w V → Calls Tryd.prog 43 #[.pointer (some ⟨b, 0, none⟩)] V fun r V' => r = .returned (.bool s) ∧ Below V.heap.size V V')
    (CA : ∀ V, Below w.heap.size w V → Calls Tryd.prog 33 #[.agg q, .int .i64 n] V fun r V' => r = .returned (.bool a) ∧ Below V.heap.size V V') :
    Calls Tryd.prog 32 #[.func (.func 33) #[.agg q] #[], .int .i64 n, .slice (some ⟨g, 0, none⟩) 1 1] w fun r w' => r = .returned (.bool (s && a)) ∧ Below w.heap.size w w' := by
  have HV := Lib.hid ((Hv.nil w).add (g, ro1 (fe b)) hg)
  replace CS := Lib.hid CS
  replace CA := Lib.hid CA
  clear hg
  go_enter Tryd.func32, Tryd.ntmps32
  go_wp2_with fail
  go_loopw [12] (fun i wr => ∃ k : Nat, k ≤ 1 ∧ i = .int .i64 k ∧ (k = 1 → s = true) ∧ Hv w wr [(g, ro1 (fe b))]) (fun i _ => 1 - (intOf i).toNat)
  case atStart => exact ⟨0, by decide, rfl, (fun h => by omega), HV.out⟩
  case round =>
    clear HV
    obtain ⟨k, hk, rfl, hs, hv⟩ := hrel
    have HV := Lib.hid hv
    clear hv
    obtain rfl | rfl : k = 0 ∨ k = 1 := by omega
    · clear hs
      have c0 := Joins.cell_of_block HV.out.head 0
      simp only [List.getElem?_toArray, List.getElem?_cons_zero] at c0
      cases s
      · go_wp2_with (first | (go_at_call 43; (with_reducible refine (CS.out _ HV.out.old).mono ?_); rintro r W ⟨rfl, hb⟩; replace HV := Lib.hid (HV.out.grow hb); clear hb) | fail)
        go_ret
        exact ⟨rfl, HV.out.old⟩
      · go_wp2_with (first | (go_at_call 43; (with_reducible refine (CS.out _ HV.out.old).mono ?_); rintro r W ⟨rfl, hb⟩; replace HV := Lib.hid (HV.out.grow hb); clear hb) | fail)
        go_roundw
        case rel => exact ⟨1, by omega, by go_num, fun _ => by first | rfl | trivial, HV.out⟩
        case measure => simp [intOf]
    · obtain rfl := hs rfl
      clear hs
      go_wp2_with (first | (go_at_call 33; (with_reducible refine (CA.out _ HV.out.old).mono ?_); rintro r W ⟨rfl, hb⟩; replace HV := Lib.hid (HV.out.grow hb); clear hb) | fail)
      go_ret
      exact ⟨ret_bool (Bool.true_and a).symm, HV.out.old⟩

theorem tell_idles (q : Array Value) (n : Int) (g b : Nat) (s a : Bool) (w : World) (hg : w.heap[g]? = some (ro1 (fl b)))
    (CS : ∀ V, Below w.heap.size w V → Calls Tryd.prog 45 #[.pointer (some ⟨b, 0, none⟩)] V fun r V' => r = .returned (.bool s) ∧ Below V.heap.size V V')
    (CA : ∀ V, Below w.heap.size w V → Calls Tryd.prog 37 #[.agg q, .int .i64 n] V fun r V' => r = .returned (.bool a) ∧ Below V.heap.size V V') :
    Calls Tryd.prog 32 #[.func (.func 37) #[.agg q] #[], .int .i64 n, .slice (some ⟨g, 0, none⟩) 1 1] w fun r w' => r = .returned (.bool (s && a)) ∧ Below w.heap.size w w' := by
  have HV := Lib.hid ((Hv.nil w).add (g, ro1 (fl b)) hg)
  replace CS := Lib.hid CS
  replace CA := Lib.hid CA
  clear hg
  go_enter Tryd.func32, Tryd.ntmps32
  go_wp2_with fail
  go_loopw [12] (fun i wr => ∃ k : Nat, k ≤ 1 ∧ i = .int .i64 k ∧ (k = 1 → s = true) ∧ Hv w wr [(g, ro1 (fl b))]) (fun i _ => 1 - (intOf i).toNat)
  case atStart => exact ⟨0, by decide, rfl, (fun h => by omega), HV.out⟩
  case round =>
    clear HV
    obtain ⟨k, hk, rfl, hs, hv⟩ := hrel
    have HV := Lib.hid hv
    clear hv
    obtain rfl | rfl : k = 0 ∨ k = 1 := by omega
    · clear hs
      have c0 := Joins.cell_of_block HV.out.head 0
      simp only [List.getElem?_toArray, List.getElem?_cons_zero] at c0
      cases s
      · go_wp2_with (first | (go_at_call 45; (with_reducible refine (CS.out _ HV.out.old).mono ?_); rintro r W ⟨rfl, hb⟩; replace HV := Lib.hid (HV.out.grow hb); clear hb) | fail)
        go_ret
        exact ⟨rfl, HV.out.old⟩
      · go_wp2_with (first | (go_at_call 45; (with_reducible refine (CS.out _ HV.out.old).mono ?_); rintro r W ⟨rfl, hb⟩; replace HV := Lib.hid (HV.out.grow hb); clear hb) | fail)
        go_roundw
        case rel => exact ⟨1, by omega, by go_num, fun _ => by first | rfl | trivial, HV.out⟩
        case measure => simp [intOf]
    · obtain rfl := hs rfl
      clear hs
      go_wp2_with (first | (go_at_call 37; (with_reducible refine (CA.out _ HV.out.old).mono ?_); rintro r W ⟨rfl, hb⟩; replace HV := Lib.hid (HV.out.grow hb); clear hb) | fail)
      go_ret
      exact ⟨ret_bool (Bool.true_and a).symm, HV.out.old⟩

theorem tell_glows (q : Array Value) (n : Int) (g b : Nat) (s a : Bool) (w : World) (hg : w.heap[g]? = some (ro1 (fl b)))
    (CS : ∀ V, Below w.heap.size w V → Calls Tryd.prog 45 #[.pointer (some ⟨b, 0, none⟩)] V fun r V' => r = .returned (.bool s) ∧ Below V.heap.size V V')
    (CA : ∀ V, Below w.heap.size w V → Calls Tryd.prog 35 #[.agg q, .int .i64 n] V fun r V' => r = .returned (.bool a) ∧ Below V.heap.size V V') :
    Calls Tryd.prog 32 #[.func (.func 35) #[.agg q] #[], .int .i64 n, .slice (some ⟨g, 0, none⟩) 1 1] w fun r w' => r = .returned (.bool (s && a)) ∧ Below w.heap.size w w' := by
  have HV := Lib.hid ((Hv.nil w).add (g, ro1 (fl b)) hg)
  replace CS := Lib.hid CS
  replace CA := Lib.hid CA
  clear hg
  go_enter Tryd.func32, Tryd.ntmps32
  go_wp2_with fail
  go_loopw [12] (fun i wr => ∃ k : Nat, k ≤ 1 ∧ i = .int .i64 k ∧ (k = 1 → s = true) ∧ Hv w wr [(g, ro1 (fl b))]) (fun i _ => 1 - (intOf i).toNat)
  case atStart => exact ⟨0, by decide, rfl, (fun h => by omega), HV.out⟩
  case round =>
    clear HV
    obtain ⟨k, hk, rfl, hs, hv⟩ := hrel
    have HV := Lib.hid hv
    clear hv
    obtain rfl | rfl : k = 0 ∨ k = 1 := by omega
    · clear hs
      have c0 := Joins.cell_of_block HV.out.head 0
      simp only [List.getElem?_toArray, List.getElem?_cons_zero] at c0
      cases s
      · go_wp2_with (first | (go_at_call 45; (with_reducible refine (CS.out _ HV.out.old).mono ?_); rintro r W ⟨rfl, hb⟩; replace HV := Lib.hid (HV.out.grow hb); clear hb) | fail)
        go_ret
        exact ⟨rfl, HV.out.old⟩
      · go_wp2_with (first | (go_at_call 45; (with_reducible refine (CS.out _ HV.out.old).mono ?_); rintro r W ⟨rfl, hb⟩; replace HV := Lib.hid (HV.out.grow hb); clear hb) | fail)
        go_roundw
        case rel => exact ⟨1, by omega, by go_num, fun _ => by first | rfl | trivial, HV.out⟩
        case measure => simp [intOf]
    · obtain rfl := hs rfl
      clear hs
      go_wp2_with (first | (go_at_call 35; (with_reducible refine (CA.out _ HV.out.old).mono ?_); rintro r W ⟨rfl, hb⟩; replace HV := Lib.hid (HV.out.grow hb); clear hb) | fail)
      go_ret
      exact ⟨ret_bool (Bool.true_and a).symm, HV.out.old⟩

theorem tell_waits (q : Array Value) (n : Int) (g b : Nat) (s a : Bool) (w : World) (hg : w.heap[g]? = some (ro1 (fl b)))
    (CS : ∀ V, Below w.heap.size w V → Calls Tryd.prog 45 #[.pointer (some ⟨b, 0, none⟩)] V fun r V' => r = .returned (.bool s) ∧ Below V.heap.size V V')
    (CA : ∀ V, Below w.heap.size w V → Calls Tryd.prog 38 #[.agg q, .int .i64 n] V fun r V' => r = .returned (.bool a) ∧ Below V.heap.size V V') :
    Calls Tryd.prog 32 #[.func (.func 38) #[.agg q] #[], .int .i64 n, .slice (some ⟨g, 0, none⟩) 1 1] w fun r w' => r = .returned (.bool (s && a)) ∧ Below w.heap.size w w' := by
  have HV := Lib.hid ((Hv.nil w).add (g, ro1 (fl b)) hg)
  replace CS := Lib.hid CS
  replace CA := Lib.hid CA
  clear hg
  go_enter Tryd.func32, Tryd.ntmps32
  go_wp2_with fail
  go_loopw [12] (fun i wr => ∃ k : Nat, k ≤ 1 ∧ i = .int .i64 k ∧ (k = 1 → s = true) ∧ Hv w wr [(g, ro1 (fl b))]) (fun i _ => 1 - (intOf i).toNat)
  case atStart => exact ⟨0, by decide, rfl, (fun h => by omega), HV.out⟩
  case round =>
    clear HV
    obtain ⟨k, hk, rfl, hs, hv⟩ := hrel
    have HV := Lib.hid hv
    clear hv
    obtain rfl | rfl : k = 0 ∨ k = 1 := by omega
    · clear hs
      have c0 := Joins.cell_of_block HV.out.head 0
      simp only [List.getElem?_toArray, List.getElem?_cons_zero] at c0
      cases s
      · go_wp2_with (first | (go_at_call 45; (with_reducible refine (CS.out _ HV.out.old).mono ?_); rintro r W ⟨rfl, hb⟩; replace HV := Lib.hid (HV.out.grow hb); clear hb) | fail)
        go_ret
        exact ⟨rfl, HV.out.old⟩
      · go_wp2_with (first | (go_at_call 45; (with_reducible refine (CS.out _ HV.out.old).mono ?_); rintro r W ⟨rfl, hb⟩; replace HV := Lib.hid (HV.out.grow hb); clear hb) | fail)
        go_roundw
        case rel => exact ⟨1, by omega, by go_num, fun _ => by first | rfl | trivial, HV.out⟩
        case measure => simp [intOf]
    · obtain rfl := hs rfl
      clear hs
      go_wp2_with (first | (go_at_call 38; (with_reducible refine (CA.out _ HV.out.old).mono ?_); rintro r W ⟨rfl, hb⟩; replace HV := Lib.hid (HV.out.grow hb); clear hb) | fail)
      go_ret
      exact ⟨ret_bool (Bool.true_and a).symm, HV.out.old⟩

end Bw
end Go.Proofs.YtodilljomjhohaaDoor

/- Modes as plain functions: rows, what may be so, the phase behind a frame, what a mode orders, which may follow which. No program is named here. -/
namespace Mm

structure Pan where
  master : Bool
  start : Bool
  crank : Bool
  revert : Bool
  lever : Int

/-- What is seen in a frame, and what is asked of a start. -/
structure See where
  s : Pan
  lit : Bool
  rd : Bool
  aw : Bool
  ht : Bool
  hg : Bool

def so (z : See) : Nat → Bool
  | 0 => z.s.master && z.s.start
  | 1 => z.s.crank && !z.s.master
  | 2 => z.s.master || !z.s.crank
  | 3 => !z.s.master
  | 4 => z.rd
  | 5 => z.ht
  | 6 => z.aw
  | 7 => z.hg
  | 8 => !z.lit
  | 9 => decide (50 ≤ z.s.lever)
  | 10 => decide (z.s.lever < 50)
  | 11 => !z.s.master && !z.rd
  | _ => false

structure R where
  f : Nat
  w : Nat
  t : Nat
  deriving DecidableEq

def rows : List R := [⟨0, 0, 2⟩, ⟨0, 1, 1⟩, ⟨1, 2, 0⟩, ⟨2, 3, 6⟩, ⟨2, 4, 3⟩, ⟨2, 7, 8⟩, ⟨3, 3, 6⟩, ⟨3, 5, 8⟩, ⟨3, 6, 4⟩, ⟨3, 7, 8⟩, ⟨7, 3, 6⟩, ⟨7, 5, 8⟩, ⟨7, 6, 4⟩, ⟨7, 7, 8⟩, ⟨4, 3, 6⟩, ⟨4, 8, 7⟩, ⟨4, 9, 5⟩, ⟨5, 3, 6⟩, ⟨5, 8, 7⟩, ⟨5, 10, 4⟩, ⟨6, 11, 0⟩, ⟨8, 3, 6⟩]
def row (k : Nat) : R := rows.getD k ⟨0, 0, 0⟩

def hit (z : See) (m : Int) : List R → Option Nat
  | [] => none
  | r :: rs => if (decide ((r.f : Int) = m) && so z r.w) = true then some r.t else hit z m rs

def exist (m : Int) : Bool := decide (0 ≤ m) && decide (m < 9)
def longer (c : Int) : Int := min (max c 0) 1073741823 + 1
def fol (z : See) (m : Int) : Int := if exist m = true then (match hit z m rows with | some t => (t : Int) | none => -1) else 0
def nm (z : See) (m : Int) : Int := if 0 ≤ fol z m then fol z m else m
def nc (z : See) (m c : Int) : Int := if 0 ≤ fol z m then 0 else longer c

/-- The end of a walk over the rows. -/
theorem hit_drop (z : See) (m : Int) {k : Nat} (hk : k < 22) : hit z m (rows.drop k) = if (decide (((row k).f : Int) = m) && so z (row k).w) = true then some (row k).t else hit z m (rows.drop (k + 1)) := by
  have hl : k < rows.length := hk
  rw [List.drop_eq_getElem_cons hl]
  have : row k = rows[k] := by simp [row, hl]
  rw [this]; rfl
theorem when_lt {k : Nat} (hk : k < 22) : (row k).w < 12 := by
  have : ∀ k, k < 22 → (row k).w < 12 := by decide
  exact this k hk
theorem fol_some {z : See} {m : Int} {t : Nat} (hm : exist m = true) (h : hit z m rows = some t) : fol z m = t := by simp [fol, hm, h]
theorem fol_none {z : See} {m : Int} (hm : exist m = true) (h : hit z m rows = none) : fol z m = -1 := by simp [fol, hm, h]
theorem next_out {z : See} {m : Int} (hm : exist m = false) (c : Int) : nm z m = 0 ∧ nc z m c = 0 := by simp [nm, nc, fol, hm]
theorem next_some {z : See} {m : Int} {t : Nat} (hm : exist m = true) (h : hit z m rows = some t) (c : Int) : nm z m = t ∧ nc z m c = 0 := by
  have := fol_some hm h
  simp [nm, nc, this]
theorem next_none {z : See} {m : Int} (hm : exist m = true) (h : hit z m rows = none) (c : Int) : nm z m = m ∧ nc z m c = longer c := by
  have := fol_none hm h
  simp [nm, nc, this]
theorem hit_mem {z : See} {m : Int} {t : Nat} : ∀ {l : List R}, hit z m l = some t → ∃ r ∈ l, (r.f : Int) = m ∧ so z r.w = true ∧ r.t = t
  | [], h => by simp [hit] at h
  | r :: rs, h => by
    unfold hit at h
    split at h
    · rename_i hc
      simp only [Bool.and_eq_true, decide_eq_true_eq] at hc
      exact ⟨r, List.mem_cons_self, hc.1, hc.2, Option.some.inj h⟩
    · obtain ⟨r', hr, h'⟩ := hit_mem h
      exact ⟨r', List.mem_cons_of_mem _ hr, h'⟩
theorem hit_not {z : See} {m : Int} : ∀ {l : List R}, hit z m l = none → ∀ r ∈ l, (r.f : Int) = m → so z r.w = false
  | [], _, r, hr, _ => by simp at hr
  | r :: rs, h, r', hr, hf => by
    unfold hit at h
    split at h
    · cases h
    · rename_i hc
      rcases List.mem_cons.1 hr with rfl | hr
      · simp only [Bool.and_eq_true, decide_eq_true_eq, not_and, Bool.not_eq_true] at hc
        exact hc hf
      · exact hit_not h r' hr hf

theorem exist_iff {m : Int} : exist m = true ↔ m = 0 ∨ m = 1 ∨ m = 2 ∨ m = 3 ∨ m = 4 ∨ m = 5 ∨ m = 6 ∨ m = 7 ∨ m = 8 := by
  unfold exist
  simp only [Bool.and_eq_true, decide_eq_true_eq]
  omega
theorem exist_to {t : Nat} (h : t ≤ 8) : exist (t : Int) = true := by
  unfold exist
  simp only [Bool.and_eq_true, decide_eq_true_eq]
  omega

/-- The rows of a mode, and what follows, one by one. -/
theorem fol0 (z : See) : fol z 0 = if (z.s.master && z.s.start) = true then 2 else if (z.s.crank && !z.s.master) = true then 1 else -1 := by
  simp [fol, exist, hit, rows, so]
  try ((repeat' split) <;> simp_all <;> omega)
theorem fol1 (z : See) : fol z 1 = if (z.s.master || !z.s.crank) = true then 0 else -1 := by
  simp [fol, exist, hit, rows, so]
  try ((repeat' split) <;> simp_all <;> omega)
theorem fol2 (z : See) : fol z 2 = if (!z.s.master) = true then 6 else if z.rd = true then 3 else if z.hg = true then 8 else -1 := by
  simp [fol, exist, hit, rows, so]
  try ((repeat' split) <;> simp_all <;> omega)
theorem fol3 (z : See) : fol z 3 = if (!z.s.master) = true then 6 else if z.ht = true then 8 else if z.aw = true then 4 else if z.hg = true then 8 else -1 := by
  simp [fol, exist, hit, rows, so]
  try ((repeat' split) <;> simp_all <;> omega)
theorem fol7 (z : See) : fol z 7 = if (!z.s.master) = true then 6 else if z.ht = true then 8 else if z.aw = true then 4 else if z.hg = true then 8 else -1 := by
  simp [fol, exist, hit, rows, so]
  try ((repeat' split) <;> simp_all <;> omega)
theorem fol4 (z : See) : fol z 4 = if (!z.s.master) = true then 6 else if (!z.lit) = true then 7 else if decide (50 ≤ z.s.lever) = true then 5 else -1 := by
  simp [fol, exist, hit, rows, so]
  try ((repeat' split) <;> simp_all <;> omega)
theorem fol5 (z : See) : fol z 5 = if (!z.s.master) = true then 6 else if (!z.lit) = true then 7 else if decide (z.s.lever < 50) = true then 4 else -1 := by
  simp [fol, exist, hit, rows, so]
  try ((repeat' split) <;> simp_all <;> omega)
theorem fol6 (z : See) : fol z 6 = if (!z.s.master && !z.rd) = true then 0 else -1 := by
  simp [fol, exist, hit, rows, so]
  try ((repeat' split) <;> simp_all <;> omega)
theorem fol8 (z : See) : fol z 8 = if (!z.s.master) = true then 6 else -1 := by
  simp [fol, exist, hit, rows, so]
  try ((repeat' split) <;> simp_all <;> omega)

/-- What a mode orders, and whether an engine should burn in it. -/
def starter (rd : Bool) (m : Int) : Bool := decide (m = 1) || decide (m = 2) || decide (m = 3) || (decide (m = 7) && !rd)
def spark (m : Int) : Bool := decide (m = 3) || decide (m = 7)
def opn (m : Int) : Bool := decide (m = 3) || decide (m = 4) || decide (m = 5) || decide (m = 7)
def burns (m : Int) : Bool := decide (m = 4) || decide (m = 5)
/-- Whether a mode may follow another one. -/
def pair (f t : Int) : List R → Bool
  | [] => false
  | r :: rs => (decide ((r.f : Int) = f) && decide ((r.t : Int) = t)) || pair f t rs
def allowed (f t : Int) : Bool := pair f t rows || (decide (f = t) && exist f)

theorem pair_drop (f t : Int) {k : Nat} (hk : k < 22) : pair f t (rows.drop k) = ((decide (((row k).f : Int) = f) && decide (((row k).t : Int) = t)) || pair f t (rows.drop (k + 1))) := by
  have hl : k < rows.length := hk
  rw [List.drop_eq_getElem_cons hl]
  have : row k = rows[k] := by simp [row, hl]
  rw [this]; rfl
theorem pair_of {f t : Int} {r : R} : ∀ {l : List R}, r ∈ l → (r.f : Int) = f → (r.t : Int) = t → pair f t l = true
  | [], h, _, _ => by simp at h
  | x :: l, h, hf, ht => by
    unfold pair
    rcases List.mem_cons.1 h with rfl | h
    · simp [hf, ht]
    · simp [pair_of h hf ht]

theorem pair_in {f t : Int} : ∀ {l : List R}, pair f t l = true → ∃ r ∈ l, (r.f : Int) = f ∧ (r.t : Int) = t
  | [], h => by simp [pair] at h
  | x :: l, h => by
    unfold pair at h
    simp only [Bool.or_eq_true, Bool.and_eq_true, decide_eq_true_eq] at h
    rcases h with h | h
    · exact ⟨x, List.mem_cons_self, h⟩
    · obtain ⟨r, hr, h'⟩ := pair_in h
      exact ⟨r, List.mem_cons_of_mem _ hr, h'⟩
theorem rows_both : ∀ r ∈ rows, r.f ≤ 8 ∧ r.t ≤ 8 := by decide
theorem allowed_out {f t : Int} (h : ¬ (exist f = true ∧ exist t = true)) : allowed f t = false := by
  cases ha : allowed f t with
  | false => rfl
  | true =>
    exfalso
    apply h
    unfold allowed at ha
    simp only [Bool.or_eq_true, Bool.and_eq_true, decide_eq_true_eq] at ha
    rcases ha with hp | ⟨rfl, he⟩
    · obtain ⟨r, hr, rfl, rfl⟩ := pair_in hp
      have := rows_both r hr
      exact ⟨exist_to this.1, exist_to this.2⟩
    · exact ⟨he, he⟩
theorem rows_to : ∀ r ∈ rows, r.t ≤ 8 := by decide
theorem rows_ne : ∀ r ∈ rows, r.f ≠ r.t := by decide
theorem nm_in (z : See) (m : Int) : 0 ≤ nm z m ∧ nm z m ≤ 8 := by
  cases he : exist m with
  | false => simp [(next_out (z := z) he 0).1]
  | true =>
    cases hh : hit z m rows with
    | none =>
      rw [(next_none he hh 0).1]
      simp only [exist, Bool.and_eq_true, decide_eq_true_eq] at he
      omega
    | some t =>
      rw [(next_some he hh 0).1]
      obtain ⟨r, hr, _, _, rfl⟩ := hit_mem hh
      have := rows_to r hr
      omega
theorem nm_allowed (z : See) {m : Int} (he : exist m = true) : allowed m (nm z m) = true := by
  unfold allowed
  cases hh : hit z m rows with
  | none => simp [(next_none he hh 0).1, he]
  | some t =>
    rw [(next_some he hh 0).1]
    obtain ⟨r, hr, hf, _, rfl⟩ := hit_mem hh
    simp [pair_of hr hf rfl]

/-- Which mode is there behind a frame, said by membership: for what follows. -/
theorem step_of (z : See) {m : Int} (he : exist m = true) (c : Int) : (∃ r ∈ rows, (r.f : Int) = m ∧ so z r.w = true ∧ nm z m = r.t ∧ nc z m c = 0) ∨ ((∀ r ∈ rows, (r.f : Int) = m → so z r.w = false) ∧ nm z m = m ∧ nc z m c = longer c) := by
  cases hh : hit z m rows with
  | none => exact Or.inr ⟨hit_not hh, next_none he hh c⟩
  | some t =>
    obtain ⟨r, hr, hf, hs, rfl⟩ := hit_mem hh
    exact Or.inl ⟨r, hr, hf, hs, next_some he hh c⟩

theorem shuts (z : See) (hz : z.s.master = false) (m : Int) : opn (nm z m) = false ∧ spark (nm z m) = false := by
  cases he : exist m with
  | false => simp [(next_out (z := z) he 0).1, opn, spark]
  | true =>
    have h := exist_iff.1 he
    rcases h with rfl | rfl | rfl | rfl | rfl | rfl | rfl | rfl | rfl <;> simp only [nm, fol0, fol1, fol2, fol3, fol4, fol5, fol6, fol7, fol8, hz] <;> (repeat' split) <;> simp_all [opn, spark]
theorem burns_opn (m : Int) : (burns m && !opn m) = false := by
  unfold burns opn
  by_cases h4 : m = 4
  · simp [h4]
  · by_cases h5 : m = 5 <;> simp [h4, h5]
theorem spark_opn (m : Int) : (spark m && !opn m) = false := by
  unfold spark opn
  by_cases h3 : m = 3
  · simp [h3]
  · by_cases h7 : m = 7 <;> simp [h3, h7]

/-- Three frames at rest. -/
def still (rd aw ht hg lit : Bool) : See := ⟨⟨false, false, false, false, 0⟩, lit, rd, aw, ht, hg⟩
theorem rest1 (aw ht hg lit : Bool) (m : Int) : nm (still false aw ht hg lit) m = 0 ∨ nm (still false aw ht hg lit) m = 6 := by
  cases he : exist m with
  | false => simp [(next_out (z := still false aw ht hg lit) he 0).1]
  | true =>
    rcases exist_iff.1 he with rfl | rfl | rfl | rfl | rfl | rfl | rfl | rfl | rfl <;> simp [nm, fol0, fol1, fol2, fol3, fol4, fol5, fol6, fol7, fol8, still]
theorem rest0 (aw ht hg lit : Bool) : nm (still false aw ht hg lit) 0 = 0 := by simp [nm, fol0, still]
theorem rest6 (aw ht hg lit : Bool) : nm (still false aw ht hg lit) 6 = 0 := by simp [nm, fol6, still]
end Mm

/- Phases, panels, orders, rows: as values, as objects; the rows of the package, loaded as a letter, and asked by an index. -/
namespace Go.Proofs.YtodilljomjhohaaDoor
namespace Mw
open Go.RowKit TabC Lk Ew Hw

abbrev ph (m c : Int) : Array Value := #[.int .i64 m, .int .i64 c]
abbrev po (m c : Int) : Obj := .cells (ph m c) 31 (0, 0)
abbrev pn (s : Mm.Pan) : Array Value := #[.bool s.master, .bool s.start, .bool s.crank, .bool s.revert, .int .i64 s.lever]
abbrev no (s : Mm.Pan) : Obj := .cells (pn s) 33 (0, 0)
abbrev od (a b c d : Bool) : Array Value := #[.bool a, .bool b, .bool c, .bool d]
abbrev oo (a b c d : Bool) : Obj := .cells (od a b c d) 38 (0, 0)
abbrev bob (b : Bool) : Obj := .cells #[.bool b] 4 (0, 0)
abbrev rv (r : Mm.R) : Array Value := #[.int .i64 r.f, .int .i64 r.w, .int .i64 r.t]
abbrev rob (r : Mm.R) : Obj := .cells (rv r) 57 (0, 0)
def rc : Array Value := (Mm.rows.flatMap fun r => [Value.int .i64 r.f, .int .i64 r.w, .int .i64 r.t]).toArray

theorem info_p : (Tryd.prog.info? 31).map (·.size) = some 2 := by kernel_rfl
theorem info_n : (Tryd.prog.info? 33).map (·.size) = some 5 := by kernel_rfl
theorem info_o : (Tryd.prog.info? 38).map (·.size) = some 4 := by kernel_rfl
theorem info_rows : (Tryd.prog.info? 58).map (·.size) = some rc.size := by kernel_rfl

theorem run_ix (k : Nat) (hk : k < 22) (w : World) : (Instr.index 58 (.agg rc) (.int .i64 k)).run Tryd.prog w = .ok (.agg (rv (Mm.row k))) w := by
  obtain rfl | rfl | rfl | rfl | rfl | rfl | rfl | rfl | rfl | rfl | rfl | rfl | rfl | rfl | rfl | rfl | rfl | rfl | rfl | rfl | rfl | rfl : k = 0 ∨ k = 1 ∨ k = 2 ∨ k = 3 ∨ k = 4 ∨ k = 5 ∨ k = 6 ∨ k = 7 ∨ k = 8 ∨ k = 9 ∨ k = 10 ∨ k = 11 ∨ k = 12 ∨ k = 13 ∨ k = 14 ∨ k = 15 ∨ k = 16 ∨ k = 17 ∨ k = 18 ∨ k = 19 ∨ k = 20 ∨ k = 21 := by omega
  all_goals kernel_rfl

section
variable {ops : Array Oper} {rest : List Oper} {op : Oper} {a : Act} {w : World} {Q : Exit → Act → World → Prop}
/-- The rows, loaded as a letter; and one of them. -/
theorem ldR {R : Value} (hR : Value.agg rc = R) (hw : Region.wanted op (yielded ops a.tmps) = true) (x : Operand) (ho : op.op = .load 58 x)
    (hx : a.eval x = .pointer (some ⟨0, 0, none⟩)) (t : TypeId) (hP : w.heap[0]? = some (.cells rc t (0, 0)))
    (c : wpList Tryd.prog ops Q rest (a.put op.dst R) w) : wpList Tryd.prog ops Q (op :: rest) a w := by
  subst hR
  exact Lk.wanted hw fun _ hK => wp_load_row 58 x ho 0 hx t rc (0, 0) _ hP Tryd.underlying58 rfl info_rows (hK _ _ c)
theorem wp_ix {K : Act → World → Prop} {R : Value} (hR : Value.agg rc = R) (x y : Operand) (ho : op.op = .index 58 x y) (hx : a.eval x = R) (k : Nat) (hk : k < 22) (hy : a.eval y = .int .i64 k)
    (h : K (a.put op.dst (.agg (rv (Mm.row k)))) w) : op.wp Tryd.prog a w K Q := by
  subst hR
  unfold Oper.wp execOp
  simp only [ho, hx, hy, Sem.run_bind, run_ix k hk, Sem.run_pure, Result.andThen_ok]
  exact h
theorem ixR {R : Value} (hR : Value.agg rc = R) (hw : Region.wanted op (yielded ops a.tmps) = true) (x y : Operand) (ho : op.op = .index 58 x y) (hx : a.eval x = R) (k : Nat) (hk : k < 22) (hy : a.eval y = .int .i64 k)
    (c : wpList Tryd.prog ops Q rest (a.put op.dst (.agg (rv (Mm.row k)))) w) : wpList Tryd.prog ops Q (op :: rest) a w :=
  Lk.wanted hw fun _ hK => wp_ix hR x y ho hx k hk hy (hK _ _ c)
/-- An engine, and laws, loaded as a letter. -/
theorem ldE' {e : Eg} {E : Value} (hE : Value.agg (ec e) = E) (hw : Region.wanted op (yielded ops a.tmps) = true) (x : Operand) (ho : op.op = .load 27 x)
    (b : Nat) (hx : a.eval x = .pointer (some ⟨b, 0, none⟩)) (hP : w.heap[b]? = some (eo e)) (c : wpList Tryd.prog ops Q rest (a.put op.dst E) w) : wpList Tryd.prog ops Q (op :: rest) a w := by
  subst hE; exact lde hw x ho b e hx hP c
theorem ldL' {l : Lg} {L : Value} (hL : Value.agg (lc l) = L) (hw : Region.wanted op (yielded ops a.tmps) = true) (x : Operand) (ho : op.op = .load 29 x)
    (b : Nat) (hx : a.eval x = .pointer (some ⟨b, 0, none⟩)) (hP : w.heap[b]? = some (lo l)) (c : wpList Tryd.prog ops Q rest (a.put op.dst L) w) : wpList Tryd.prog ops Q (op :: rest) a w := by
  subst hL; exact ldl hw x ho b l hx hP c
/-- A phase, a panel, orders: loaded as a whole; a phase, orders: stored as a whole. -/
theorem ldp (hw : Region.wanted op (yielded ops a.tmps) = true) (x : Operand) (ho : op.op = .load 31 x) (b : Nat) (m n : Int) (hx : a.eval x = .pointer (some ⟨b, 0, none⟩)) (hP : w.heap[b]? = some (po m n))
    (c : wpList Tryd.prog ops Q rest (a.put op.dst (.agg (ph m n))) w) : wpList Tryd.prog ops Q (op :: rest) a w :=
  Lk.wanted hw fun _ hK => wp_load_row 31 x ho b hx 31 (ph m n) (0, 0) _ hP Tryd.underlying31 rfl info_p (hK _ _ c)
theorem ldn (hw : Region.wanted op (yielded ops a.tmps) = true) (x : Operand) (ho : op.op = .load 33 x) (b : Nat) (s : Mm.Pan) (hx : a.eval x = .pointer (some ⟨b, 0, none⟩)) (hP : w.heap[b]? = some (no s))
    (c : wpList Tryd.prog ops Q rest (a.put op.dst (.agg (pn s))) w) : wpList Tryd.prog ops Q (op :: rest) a w :=
  Lk.wanted hw fun _ hK => wp_load_row 33 x ho b hx 33 (pn s) (0, 0) _ hP Tryd.underlying33 rfl info_n (hK _ _ c)
theorem ldo (hw : Region.wanted op (yielded ops a.tmps) = true) (x : Operand) (ho : op.op = .load 38 x) (b : Nat) (p q r s : Bool) (hx : a.eval x = .pointer (some ⟨b, 0, none⟩)) (hP : w.heap[b]? = some (oo p q r s))
    (c : wpList Tryd.prog ops Q rest (a.put op.dst (.agg (od p q r s))) w) : wpList Tryd.prog ops Q (op :: rest) a w :=
  Lk.wanted hw fun _ hK => wp_load_row 38 x ho b hx 38 (od p q r s) (0, 0) _ hP Tryd.underlying38 rfl info_o (hK _ _ c)
theorem stp (hgd : op.guard = none) (x y : Operand) (ho : op.op = .store 31 x y) (hd : op.dst = none)
    (g : Nat) (m n m' n' : Int) (hx : a.eval x = .pointer (some ⟨g, 0, none⟩)) (hy : a.eval y = .agg (ph m' n')) (hP : w.heap[g]? = some (po m n))
    (h : ∀ w', w'.heap[g]? = some (po m' n') → Off g w w' → wpList Tryd.prog ops Q rest a w') : wpList Tryd.prog ops Q (op :: rest) a w := by
  refine wpList_plain hgd fun _ hK => wp_store_row 31 x y ho g (ph m' n') hx hy 31 (ph m n) hP info_p rfl (by simp [Value.oneCell']) (hK _ _ ?_)
  rw [hd]
  exact h _ (setRow_heap w g (ph m n) (ph m' n') 31 (0, 0) hP) (Off.row w g _)
theorem sto (hgd : op.guard = none) (x y : Operand) (ho : op.op = .store 38 x y) (hd : op.dst = none)
    (g : Nat) (p q r s p' q' r' s' : Bool) (hx : a.eval x = .pointer (some ⟨g, 0, none⟩)) (hy : a.eval y = .agg (od p' q' r' s')) (hP : w.heap[g]? = some (oo p q r s))
    (h : ∀ w', w'.heap[g]? = some (oo p' q' r' s') → Off g w w' → wpList Tryd.prog ops Q rest a w') : wpList Tryd.prog ops Q (op :: rest) a w := by
  refine wpList_plain hgd fun _ hK => wp_store_row 38 x y ho g (od p' q' r' s') hx hy 38 (od p q r s) hP info_o rfl (by simp [Value.oneCell']) (hK _ _ ?_)
  rw [hd]
  exact h _ (setRow_heap w g (od p q r s) (od p' q' r' s') 38 (0, 0) hP) (Off.row w g _)
end

/-- A result that is a phase, or orders, in a cell. -/
theorem res_p {fn : Func} {p : Tmp} (h : fn.results = #[.cell p 31]) (tmps : Array Value) (w : World) (g : Nat) (m n : Int) (hp : tmps.getD p undef = .pointer (some ⟨g, 0, none⟩)) (hP : w.heap[g]? = some (po m n)) :
    (results fn tmps).run Tryd.prog w = .ok (.agg (ph m n)) w := by
  have hp' : tmps[p]?.getD undef = .pointer (some ⟨g, 0, none⟩) := by simpa using hp
  simp [results, h, hp', asAddr, run_loadVar_row (P := Tryd.prog) w g 31 31 (ph m n) (0, 0) _ hP Tryd.underlying31 rfl info_p]
theorem res_o {fn : Func} {p : Tmp} (h : fn.results = #[.cell p 38]) (tmps : Array Value) (w : World) (g : Nat) (x y z v : Bool) (hp : tmps.getD p undef = .pointer (some ⟨g, 0, none⟩)) (hP : w.heap[g]? = some (oo x y z v)) :
    (results fn tmps).run Tryd.prog w = .ok (.agg (od x y z v)) w := by
  have hp' : tmps[p]?.getD undef = .pointer (some ⟨g, 0, none⟩) := by simpa using hp
  simp [results, h, hp', asAddr, run_loadVar_row (P := Tryd.prog) w g 38 38 (od x y z v) (0, 0) _ hP Tryd.underlying38 rfl info_o]

/-- What is seen, of an engine and laws. -/
def see (e : Eg) (l : Lg) (c : Int) (s : Mm.Pan) (lit : Bool) (n h : Int) : Mm.See := ⟨s, lit, Sb.ready (en e) n, Sb.away (la l) lit n, Sb.hot (la l) h, Sb.hung (la l) c⟩

/-- What a Next lays for itself. -/
theorem eight {w : World} {t : TypeId} (h : w.heap[0]? = some (.cells rc t (0, 0))) (e : Eg) (l : Lg) (m c : Int) (s : Mm.Pan) (lit : Bool) (n k : Int) :
    Hv w ((((((((w.alloc (eo e)).alloc (lo l)).alloc (po m c)).alloc (no s)).alloc (bob lit)).alloc (nob n)).alloc (nob k)).alloc (po 0 0))
      [(w.heap.size + 1 + 1 + 1 + 1 + 1 + 1 + 1, po 0 0), (w.heap.size + 1 + 1 + 1 + 1 + 1 + 1, nob k), (w.heap.size + 1 + 1 + 1 + 1 + 1, nob n), (w.heap.size + 1 + 1 + 1 + 1, bob lit), (w.heap.size + 1 + 1 + 1, no s), (w.heap.size + 1 + 1, po m c), (w.heap.size + 1, lo l), (w.heap.size, eo e), (0, .cells rc t (0, 0))] := by
  have := ((((((((Hv.nil w).add (0, .cells rc t (0, 0)) h).made (eo e)).made (lo l)).made (po m c)).made (no s)).made (bob lit)).made (nob n)).made (nob k)
  have := this.made (po 0 0)
  simpa only [World.size_alloc] using this
end Mw
end Go.Proofs.YtodilljomjhohaaDoor

/- schedule.Check: whether laws may be. Printed by gen_check.py. -/
namespace Go.Proofs.YtodilljomjhohaaDoor
namespace Hw
open Go.RowKit TabC Lk Ew

/-- A new closure: its own blocks, behind the laws' block. -/
theorem mk_rh {w W : World} {e : Nat × Obj} {L : List (Nat × Obj)} (h : Hv w W (e :: L)) (t : Tv) : Calls Tryd.prog 56 #[.agg (tc t)] W fun r w' => ∃ g, r = .returned (fr g) ∧ Hv w w' (e :: (g, tob t) :: L) :=
  (mk_r t W).mono fun r w' ⟨h1, h2⟩ => ⟨_, h1, by subst h2; exact ((h.tail.made (tob t)).add e (h.alloc (tob t)).head)⟩
theorem mk_ih {w W : World} {e : Nat × Obj} {L : List (Nat × Obj)} (h : Hv w W (e :: L)) (x y z : Int) : Calls Tryd.prog 59 #[.int .i64 x, .int .i64 y, .int .i64 z] W fun r w' => ∃ a b c, r = .returned (fi a b c) ∧ Hv w w' (e :: (c, nob z) :: (b, nob y) :: (a, nob x) :: L) :=
  (mk_i x y z W).mono fun r w' ⟨h1, h2⟩ => ⟨_, _, _, h1, by
    subst h2
    have k := ((h.tail.made (nob x)).made (nob y)).made (nob z)
    simp only [World.size_alloc] at k
    exact k.add e (((h.alloc (nob x)).alloc (nob y)).alloc (nob z)).head⟩

/-- An array of three function values. -/
abbrev r3 (a b c : Value) : Array Value := #[a, b, c]
abbrev o3 (a b c : Value) : Obj := .cells (r3 a b c) 79 (0, 0)
theorem info_3 : (Tryd.prog.info? 79).map (·.size) = some 3 := by kernel_rfl
section
variable {ops : Array Oper} {rest : List Oper} {op : Oper} {a : Act} {w : World} {Q : Exit → Act → World → Prop}
theorem ld3 (hw : Region.wanted op (yielded ops a.tmps) = true) (x : Operand) (ho : op.op = .load 79 x)
    (b : Nat) (u v z : Value) (hx : a.eval x = .pointer (some ⟨b, 0, none⟩)) (hP : w.heap[b]? = some (o3 u v z))
    (c : wpList Tryd.prog ops Q rest (a.put op.dst (.agg (r3 u v z))) w) : wpList Tryd.prog ops Q (op :: rest) a w :=
  Lk.wanted hw fun _ hK => wp_load_row 79 x ho b hx 79 (r3 u v z) (0, 0) _ hP Tryd.underlying79 rfl info_3 (hK _ _ c)
theorem st3 (hgd : op.guard = none) (x y : Operand) (ho : op.op = .store 79 x y) (hd : op.dst = none)
    (g : Nat) (q u v z : Value) (hx : a.eval x = .pointer (some ⟨g, 0, none⟩)) (hy : a.eval y = .agg (r3 u v z)) (hu : u.oneCell' = true) (hv : v.oneCell' = true) (hz : z.oneCell' = true) (hP : w.heap[g]? = some (o3 q q q))
    (h : ∀ w', w'.heap[g]? = some (o3 u v z) → Off g w w' → wpList Tryd.prog ops Q rest a w') : wpList Tryd.prog ops Q (op :: rest) a w := by
  refine wpList_plain hgd fun _ hK => wp_store_row 79 x y ho g (r3 u v z) hx hy 79 (r3 q q q) hP info_3 rfl (by simp [r3, hu, hv, hz]) (hK _ _ ?_)
  rw [hd]
  exact h _ (setRow_heap w g (r3 q q q) (r3 u v z) 79 (0, 0) hP) (Off.row w g _)
end

/-- All that is known behind the closures. -/
abbrev L9 (l : Lg) (n g0 g1 g2 x3 y3 z3 x4 y4 z4 x5 y5 z5 x6 y6 z6 x7 y7 z7 x8 y8 z8 : Nat) : List (Nat × Obj) := [(n, lo l), (z8, nob (1048576)), (y8, nob l.redE), (x8, nob l.margin), (z7, nob (1048576)), (y7, nob l.red2), (x7, nob l.margin), (z6, nob (1048576)), (y6, nob l.red1), (x6, nob l.margin), (z5, nob (10000)), (y5, nob l.patience), (x5, nob 1), (z4, nob (1048576)), (y4, nob l.idle), (x4, nob 1), (z3, nob (1048576)), (y3, nob l.margin), (x3, nob 1), (g2, tob l.s), (g1, tob l.d), (g0, tob l.a)]
theorem q0 {w V : World} {l : Lg} {n g0 g1 g2 x3 y3 z3 x4 y4 z4 x5 y5 z5 x6 y6 z6 x7 y7 z7 x8 y8 z8 : Nat} (h : Hv w V (L9 l n g0 g1 g2 x3 y3 z3 x4 y4 z4 x5 y5 z5 x6 y6 z6 x7 y7 z7 x8 y8 z8)) (hL : LawIn w l) : Calls Tryd.prog 57 #[.pointer (some ⟨g0, 0, none⟩)] V fun r w' => r = .returned (.bool (Tb.rsB l.a.xs l.a.ys)) ∧ Hv w w' (L9 l n g0 g1 g2 x3 y3 z3 x4 y4 z4 x5 y5 z5 x6 y6 z6 x7 y7 z7 x8 y8 z8) :=
  (ask_r g0 l.a V (h.has (g0, tob l.a) (by simp [L9])) (hL.a.below h.old)).mono fun r w' ⟨h1, h2⟩ => ⟨h1, h.grow h2⟩
theorem q1 {w V : World} {l : Lg} {n g0 g1 g2 x3 y3 z3 x4 y4 z4 x5 y5 z5 x6 y6 z6 x7 y7 z7 x8 y8 z8 : Nat} (h : Hv w V (L9 l n g0 g1 g2 x3 y3 z3 x4 y4 z4 x5 y5 z5 x6 y6 z6 x7 y7 z7 x8 y8 z8)) (hL : LawIn w l) : Calls Tryd.prog 57 #[.pointer (some ⟨g1, 0, none⟩)] V fun r w' => r = .returned (.bool (Tb.rsB l.d.xs l.d.ys)) ∧ Hv w w' (L9 l n g0 g1 g2 x3 y3 z3 x4 y4 z4 x5 y5 z5 x6 y6 z6 x7 y7 z7 x8 y8 z8) :=
  (ask_r g1 l.d V (h.has (g1, tob l.d) (by simp [L9])) (hL.d.below h.old)).mono fun r w' ⟨h1, h2⟩ => ⟨h1, h.grow h2⟩
theorem q2 {w V : World} {l : Lg} {n g0 g1 g2 x3 y3 z3 x4 y4 z4 x5 y5 z5 x6 y6 z6 x7 y7 z7 x8 y8 z8 : Nat} (h : Hv w V (L9 l n g0 g1 g2 x3 y3 z3 x4 y4 z4 x5 y5 z5 x6 y6 z6 x7 y7 z7 x8 y8 z8)) (hL : LawIn w l) : Calls Tryd.prog 57 #[.pointer (some ⟨g2, 0, none⟩)] V fun r w' => r = .returned (.bool (Tb.rsB l.s.xs l.s.ys)) ∧ Hv w w' (L9 l n g0 g1 g2 x3 y3 z3 x4 y4 z4 x5 y5 z5 x6 y6 z6 x7 y7 z7 x8 y8 z8) :=
  (ask_r g2 l.s V (h.has (g2, tob l.s) (by simp [L9])) (hL.s.below h.old)).mono fun r w' ⟨h1, h2⟩ => ⟨h1, h.grow h2⟩
theorem q3 {w V : World} {l : Lg} {n g0 g1 g2 x3 y3 z3 x4 y4 z4 x5 y5 z5 x6 y6 z6 x7 y7 z7 x8 y8 z8 : Nat} (h : Hv w V (L9 l n g0 g1 g2 x3 y3 z3 x4 y4 z4 x5 y5 z5 x6 y6 z6 x7 y7 z7 x8 y8 z8)) : Calls Tryd.prog 60 #[.pointer (some ⟨x3, 0, none⟩), .pointer (some ⟨y3, 0, none⟩), .pointer (some ⟨z3, 0, none⟩)] V fun r w' => r = .returned (.bool (Em.within l.margin 1 1048576)) ∧ Hv w w' (L9 l n g0 g1 g2 x3 y3 z3 x4 y4 z4 x5 y5 z5 x6 y6 z6 x7 y7 z7 x8 y8 z8) :=
  (ask_i x3 y3 z3 1 l.margin 1048576 V (Joins.cell_of_block (h.has (x3, nob 1) (by simp [L9])) 0) (Joins.cell_of_block (h.has (y3, nob l.margin) (by simp [L9])) 0) (Joins.cell_of_block (h.has (z3, nob 1048576) (by simp [L9])) 0)).mono fun r w' ⟨h1, h2⟩ => ⟨h1, h.grow h2⟩
theorem q4 {w V : World} {l : Lg} {n g0 g1 g2 x3 y3 z3 x4 y4 z4 x5 y5 z5 x6 y6 z6 x7 y7 z7 x8 y8 z8 : Nat} (h : Hv w V (L9 l n g0 g1 g2 x3 y3 z3 x4 y4 z4 x5 y5 z5 x6 y6 z6 x7 y7 z7 x8 y8 z8)) : Calls Tryd.prog 60 #[.pointer (some ⟨x4, 0, none⟩), .pointer (some ⟨y4, 0, none⟩), .pointer (some ⟨z4, 0, none⟩)] V fun r w' => r = .returned (.bool (Em.within l.idle 1 1048576)) ∧ Hv w w' (L9 l n g0 g1 g2 x3 y3 z3 x4 y4 z4 x5 y5 z5 x6 y6 z6 x7 y7 z7 x8 y8 z8) :=
  (ask_i x4 y4 z4 1 l.idle 1048576 V (Joins.cell_of_block (h.has (x4, nob 1) (by simp [L9])) 0) (Joins.cell_of_block (h.has (y4, nob l.idle) (by simp [L9])) 0) (Joins.cell_of_block (h.has (z4, nob 1048576) (by simp [L9])) 0)).mono fun r w' ⟨h1, h2⟩ => ⟨h1, h.grow h2⟩
theorem q5 {w V : World} {l : Lg} {n g0 g1 g2 x3 y3 z3 x4 y4 z4 x5 y5 z5 x6 y6 z6 x7 y7 z7 x8 y8 z8 : Nat} (h : Hv w V (L9 l n g0 g1 g2 x3 y3 z3 x4 y4 z4 x5 y5 z5 x6 y6 z6 x7 y7 z7 x8 y8 z8)) : Calls Tryd.prog 60 #[.pointer (some ⟨x5, 0, none⟩), .pointer (some ⟨y5, 0, none⟩), .pointer (some ⟨z5, 0, none⟩)] V fun r w' => r = .returned (.bool (Em.within l.patience 1 10000)) ∧ Hv w w' (L9 l n g0 g1 g2 x3 y3 z3 x4 y4 z4 x5 y5 z5 x6 y6 z6 x7 y7 z7 x8 y8 z8) :=
  (ask_i x5 y5 z5 1 l.patience 10000 V (Joins.cell_of_block (h.has (x5, nob 1) (by simp [L9])) 0) (Joins.cell_of_block (h.has (y5, nob l.patience) (by simp [L9])) 0) (Joins.cell_of_block (h.has (z5, nob 10000) (by simp [L9])) 0)).mono fun r w' ⟨h1, h2⟩ => ⟨h1, h.grow h2⟩
theorem q6 {w V : World} {l : Lg} {n g0 g1 g2 x3 y3 z3 x4 y4 z4 x5 y5 z5 x6 y6 z6 x7 y7 z7 x8 y8 z8 : Nat} (h : Hv w V (L9 l n g0 g1 g2 x3 y3 z3 x4 y4 z4 x5 y5 z5 x6 y6 z6 x7 y7 z7 x8 y8 z8)) : Calls Tryd.prog 60 #[.pointer (some ⟨x6, 0, none⟩), .pointer (some ⟨y6, 0, none⟩), .pointer (some ⟨z6, 0, none⟩)] V fun r w' => r = .returned (.bool (Em.within l.red1 l.margin 1048576)) ∧ Hv w w' (L9 l n g0 g1 g2 x3 y3 z3 x4 y4 z4 x5 y5 z5 x6 y6 z6 x7 y7 z7 x8 y8 z8) :=
  (ask_i x6 y6 z6 l.margin l.red1 1048576 V (Joins.cell_of_block (h.has (x6, nob l.margin) (by simp [L9])) 0) (Joins.cell_of_block (h.has (y6, nob l.red1) (by simp [L9])) 0) (Joins.cell_of_block (h.has (z6, nob 1048576) (by simp [L9])) 0)).mono fun r w' ⟨h1, h2⟩ => ⟨h1, h.grow h2⟩
theorem q7 {w V : World} {l : Lg} {n g0 g1 g2 x3 y3 z3 x4 y4 z4 x5 y5 z5 x6 y6 z6 x7 y7 z7 x8 y8 z8 : Nat} (h : Hv w V (L9 l n g0 g1 g2 x3 y3 z3 x4 y4 z4 x5 y5 z5 x6 y6 z6 x7 y7 z7 x8 y8 z8)) : Calls Tryd.prog 60 #[.pointer (some ⟨x7, 0, none⟩), .pointer (some ⟨y7, 0, none⟩), .pointer (some ⟨z7, 0, none⟩)] V fun r w' => r = .returned (.bool (Em.within l.red2 l.margin 1048576)) ∧ Hv w w' (L9 l n g0 g1 g2 x3 y3 z3 x4 y4 z4 x5 y5 z5 x6 y6 z6 x7 y7 z7 x8 y8 z8) :=
  (ask_i x7 y7 z7 l.margin l.red2 1048576 V (Joins.cell_of_block (h.has (x7, nob l.margin) (by simp [L9])) 0) (Joins.cell_of_block (h.has (y7, nob l.red2) (by simp [L9])) 0) (Joins.cell_of_block (h.has (z7, nob 1048576) (by simp [L9])) 0)).mono fun r w' ⟨h1, h2⟩ => ⟨h1, h.grow h2⟩
theorem q8 {w V : World} {l : Lg} {n g0 g1 g2 x3 y3 z3 x4 y4 z4 x5 y5 z5 x6 y6 z6 x7 y7 z7 x8 y8 z8 : Nat} (h : Hv w V (L9 l n g0 g1 g2 x3 y3 z3 x4 y4 z4 x5 y5 z5 x6 y6 z6 x7 y7 z7 x8 y8 z8)) : Calls Tryd.prog 60 #[.pointer (some ⟨x8, 0, none⟩), .pointer (some ⟨y8, 0, none⟩), .pointer (some ⟨z8, 0, none⟩)] V fun r w' => r = .returned (.bool (Em.within l.redE l.margin 1048576)) ∧ Hv w w' (L9 l n g0 g1 g2 x3 y3 z3 x4 y4 z4 x5 y5 z5 x6 y6 z6 x7 y7 z7 x8 y8 z8) :=
  (ask_i x8 y8 z8 l.margin l.redE 1048576 V (Joins.cell_of_block (h.has (x8, nob l.margin) (by simp [L9])) 0) (Joins.cell_of_block (h.has (y8, nob l.redE) (by simp [L9])) 0) (Joins.cell_of_block (h.has (z8, nob 1048576) (by simp [L9])) 0)).mono fun r w' ⟨h1, h2⟩ => ⟨h1, h.grow h2⟩

/-- The nine answers, in order. -/
def an (l : Lg) : Nat → Bool
  | 0 => Tb.rsB l.a.xs l.a.ys
  | 1 => Tb.rsB l.d.xs l.d.ys
  | 2 => Tb.rsB l.s.xs l.s.ys
  | 3 => Em.within l.margin 1 1048576
  | 4 => Em.within l.idle 1 1048576
  | 5 => Em.within l.patience 1 10000
  | 6 => Em.within l.red1 l.margin 1048576
  | 7 => Em.within l.red2 l.margin 1048576
  | 8 => Em.within l.redE l.margin 1048576
  | _ => true
def Said (l : Lg) (k : Nat) : Prop := ∀ j, j < k → an l j = true
theorem Said.next {l : Lg} {k : Nat} (h : Said l k) (hk : an l k = true) : Said l (k + 1) := fun j hj => by
  by_cases e : j = k
  · rw [e]; exact hk
  · exact h j (by omega)
theorem ok_nine (l : Lg) : Sd.okB (la l) = (an l 0 && an l 1 && an l 2 && (an l 3 && an l 4 && an l 5) && (an l 6 && an l 7 && an l 8)) := rfl
theorem err_no {l : Lg} {k : Nat} (hk : k < 9) (h : an l k = false) : Sd.err (la l) = 140 := by
  have : Sd.okB (la l) = false := by
    rw [ok_nine]
    obtain rfl | rfl | rfl | rfl | rfl | rfl | rfl | rfl | rfl : k = 0 ∨ k = 1 ∨ k = 2 ∨ k = 3 ∨ k = 4 ∨ k = 5 ∨ k = 6 ∨ k = 7 ∨ k = 8 := by omega
    all_goals simp [h]
  rw [Sd.err, this]; rfl
theorem err_yes {l : Lg} (h : Said l 9) : Sd.err (la l) = 0 := by
  have : Sd.okB (la l) = true := by
    rw [ok_nine]
    simp [h 0 (by omega), h 1 (by omega), h 2 (by omega), h 3 (by omega), h 4 (by omega), h 5 (by omega), h 6 (by omega), h 7 (by omega), h 8 (by omega)]
  rw [Sd.err, this]; rfl

theorem ord_check : Lk.orderedB (Lk.opsOf Tryd.f46 4) [(0, false), (1, false), (2, false), (4, false), (5, false), (6, false), (8, false), (9, false), (10, false), (13, false), (14, false), (15, false), (17, false), (18, false), (19, false), (21, false), (22, false), (23, false), (26, false), (27, false), (28, false), (29, false), (30, false), (32, false), (33, false), (34, false), (35, false), (36, false), (38, false), (39, false), (40, false), (41, false), (42, false), (46, false), (3, true), (7, true), (11, true), (12, false), (16, true), (20, true), (24, true), (25, false), (31, true), (37, true), (43, true), (44, false), (45, false)] = true := by kernel_rfl

set_option maxRecDepth 100000 in
set_option maxHeartbeats 8000000 in
theorem check_c (l : Lg) (w : World) (hL : LawIn w l) : Calls Tryd.prog 46 #[.agg (lc l)] w fun r w' => r = .returned (.int .i64 (Sd.err (la l))) ∧ Below w.heap.size w w' := by
  have HV := Lib.hid (one_l w l)
  have HL := Lib.hid hL
  clear hL
  go_enter Tryd.func46, Tryd.ntmps46
  go_wp2_with fail
  go_step3
  go_wp2_with fail
  go_step3
  go_wp2_with fail
  refine wp_region_noPanic (Lk.wp_region_ordered ord_check (fun V => LFld V w.heap.size l) (by kernel_rfl) (by kernel_rfl) (fun _ _ _ _ _ h => h) (by first | (with_reducible exact lfld HV.out.head) | (with_reducible exact lfld HV.out.drew.head)) ?_)
  replace HV := Lib.hid HV.out.drew
  iterate 34 (refine Lk.ord_take ?_ rfl rfl ?_ ?_; rotate_left; (focus (intro w' hS; (try dsimp only at hS); go_simp; try with_reducible rfl)); simp only [Act.put, List.setIfInBounds_toArray, List.set_cons_zero, List.set_cons_succ])
  refine Lk.ord_step rfl rfl (fun K hK => ?_)
  go_simp
  (with_reducible refine (mk_rh HV.out l.a).mono ?_)
  rintro r W ⟨g0, rfl, hv⟩
  replace HV := Lib.hid hv
  clear hv
  refine hK.out _ _ (by first | (with_reducible exact lfld HV.out.head) | (with_reducible exact lfld HV.out.drew.head)) ?_
  clear hK K
  try simp only [Act.put, List.setIfInBounds_toArray, List.set_cons_zero, List.set_cons_succ]
  refine Lk.ord_step rfl rfl (fun K hK => ?_)
  go_simp
  (with_reducible refine (mk_rh HV.out l.d).mono ?_)
  rintro r W ⟨g1, rfl, hv⟩
  replace HV := Lib.hid hv
  clear hv
  refine hK.out _ _ (by first | (with_reducible exact lfld HV.out.head) | (with_reducible exact lfld HV.out.drew.head)) ?_
  clear hK K
  try simp only [Act.put, List.setIfInBounds_toArray, List.set_cons_zero, List.set_cons_succ]
  refine Lk.ord_step rfl rfl (fun K hK => ?_)
  go_simp
  (with_reducible refine (mk_rh HV.out l.s).mono ?_)
  rintro r W ⟨g2, rfl, hv⟩
  replace HV := Lib.hid hv
  clear hv
  refine hK.out _ _ (by first | (with_reducible exact lfld HV.out.head) | (with_reducible exact lfld HV.out.drew.head)) ?_
  clear hK K
  try simp only [Act.put, List.setIfInBounds_toArray, List.set_cons_zero, List.set_cons_succ]
  iterate 1 (refine Lk.ord_take ?_ rfl rfl ?_ ?_; rotate_left; (focus (intro w' hS; (try dsimp only at hS); go_simp; try with_reducible rfl)); simp only [Act.put, List.setIfInBounds_toArray, List.set_cons_zero, List.set_cons_succ])
  refine Lk.ord_step rfl rfl (fun K hK => ?_)
  go_simp
  (with_reducible refine (mk_ih HV.out 1 l.margin 1048576).mono ?_)
  rintro r W ⟨x3, y3, z3, rfl, hv⟩
  replace HV := Lib.hid hv
  clear hv
  refine hK.out _ _ (by first | (with_reducible exact lfld HV.out.head) | (with_reducible exact lfld HV.out.drew.head)) ?_
  clear hK K
  try simp only [Act.put, List.setIfInBounds_toArray, List.set_cons_zero, List.set_cons_succ]
  refine Lk.ord_step rfl rfl (fun K hK => ?_)
  go_simp
  (with_reducible refine (mk_ih HV.out 1 l.idle 1048576).mono ?_)
  rintro r W ⟨x4, y4, z4, rfl, hv⟩
  replace HV := Lib.hid hv
  clear hv
  refine hK.out _ _ (by first | (with_reducible exact lfld HV.out.head) | (with_reducible exact lfld HV.out.drew.head)) ?_
  clear hK K
  try simp only [Act.put, List.setIfInBounds_toArray, List.set_cons_zero, List.set_cons_succ]
  refine Lk.ord_step rfl rfl (fun K hK => ?_)
  go_simp
  (with_reducible refine (mk_ih HV.out 1 l.patience 10000).mono ?_)
  rintro r W ⟨x5, y5, z5, rfl, hv⟩
  replace HV := Lib.hid hv
  clear hv
  refine hK.out _ _ (by first | (with_reducible exact lfld HV.out.head) | (with_reducible exact lfld HV.out.drew.head)) ?_
  clear hK K
  try simp only [Act.put, List.setIfInBounds_toArray, List.set_cons_zero, List.set_cons_succ]
  iterate 1 (refine Lk.ord_take ?_ rfl rfl ?_ ?_; rotate_left; (focus (intro w' hS; (try dsimp only at hS); go_simp; try with_reducible rfl)); simp only [Act.put, List.setIfInBounds_toArray, List.set_cons_zero, List.set_cons_succ])
  refine Lk.ord_step rfl rfl (fun K hK => ?_)
  go_simp
  (with_reducible refine (mk_ih HV.out l.margin l.red1 1048576).mono ?_)
  rintro r W ⟨x6, y6, z6, rfl, hv⟩
  replace HV := Lib.hid hv
  clear hv
  refine hK.out _ _ (by first | (with_reducible exact lfld HV.out.head) | (with_reducible exact lfld HV.out.drew.head)) ?_
  clear hK K
  try simp only [Act.put, List.setIfInBounds_toArray, List.set_cons_zero, List.set_cons_succ]
  refine Lk.ord_step rfl rfl (fun K hK => ?_)
  go_simp
  (with_reducible refine (mk_ih HV.out l.margin l.red2 1048576).mono ?_)
  rintro r W ⟨x7, y7, z7, rfl, hv⟩
  replace HV := Lib.hid hv
  clear hv
  refine hK.out _ _ (by first | (with_reducible exact lfld HV.out.head) | (with_reducible exact lfld HV.out.drew.head)) ?_
  clear hK K
  try simp only [Act.put, List.setIfInBounds_toArray, List.set_cons_zero, List.set_cons_succ]
  refine Lk.ord_step rfl rfl (fun K hK => ?_)
  go_simp
  (with_reducible refine (mk_ih HV.out l.margin l.redE 1048576).mono ?_)
  rintro r W ⟨x8, y8, z8, rfl, hv⟩
  replace HV := Lib.hid hv
  clear hv
  refine hK.out _ _ (by first | (with_reducible exact lfld HV.out.head) | (with_reducible exact lfld HV.out.drew.head)) ?_
  clear hK K
  try simp only [Act.put, List.setIfInBounds_toArray, List.set_cons_zero, List.set_cons_succ]
  iterate 2 (refine Lk.ord_take ?_ rfl rfl ?_ ?_; rotate_left; (focus (intro w' hS; (try dsimp only at hS); go_simp; try with_reducible rfl)); simp only [Act.put, List.setIfInBounds_toArray, List.set_cons_zero, List.set_cons_succ])
  refine Lk.ord_nil (NoPanic.normal ?_)
  go_wp2_with fail
  go_loopw [5, 56] (fun r i wr => ∃ k : Nat, k ≤ 3 ∧ i = .int .i64 k ∧ r = .int .i64 0 ∧ Hv w wr (L9 l w.heap.size g0 g1 g2 x3 y3 z3 x4 y4 z4 x5 y5 z5 x6 y6 z6 x7 y7 z7 x8 y8 z8) ∧ Said l (3 * k)) (fun _ i _ => 3 - (intOf i).toNat)
  case atStart => exact ⟨0, by omega, rfl, rfl, HV.out, fun j hj => by omega⟩
  case round =>
    clear HV
    obtain ⟨k, hk, rfl, rfl, hv, hsd⟩ := hrel
    have HV := Lib.hid hv
    have HS := Lib.hid hsd
    clear hv hsd
    obtain rfl | rfl | rfl | rfl : k = 0 ∨ k = 1 ∨ k = 2 ∨ k = 3 := by omega
    · have i0 : ∀ W, (Instr.index 80 (.agg #[fr g0, fr g1, fr g2, fi x3 y3 z3, fi x4 y4 z4, fi x5 y5 z5, fi x6 y6 z6, fi x7 y7 z7, fi x8 y8 z8]) (.int .i64 0)).run Tryd.prog W = .ok (.agg #[fr g0, fr g1, fr g2]) W := fun _ => by kernel_rfl
      have j0 : ∀ W, (Instr.index 79 (.agg #[fr g0, fr g1, fr g2]) (.int .i64 0)).run Tryd.prog W = .ok (fr g0) W := fun _ => by kernel_rfl
      have j1 : ∀ W, (Instr.index 79 (.agg #[fr g0, fr g1, fr g2]) (.int .i64 1)).run Tryd.prog W = .ok (fr g1) W := fun _ => by kernel_rfl
      have j2 : ∀ W, (Instr.index 79 (.agg #[fr g0, fr g1, fr g2]) (.int .i64 2)).run Tryd.prog W = .ok (fr g2) W := fun _ => by kernel_rfl
      have HN := Lib.hid (HV.out.made (o3 Value.nilFunc Value.nilFunc Value.nilFunc))
      rw [show ((0 : Nat) : Int) = 0 from rfl]
      go_wp2_with (first | (refine st3 rfl _ _ rfl rfl _ Value.nilFunc _ _ _ rfl rfl rfl rfl rfl HN.out.head ?_; intro W hP hO; replace HN := Lib.hid (HN.out.change hO hP (fun e he => by have := HV.out.lt he; omega) HV.out.old.size); clear hP hO) | (refine ld3 rfl _ rfl _ _ _ _ rfl HN.out.head ?_) | fail)
      replace HV := Lib.hid HN.out.tail
      clear HN i0
      go_loopw [5, 60] (fun r i wr => ∃ m : Nat, m ≤ 3 ∧ i = .int .i64 m ∧ r = .int .i64 0 ∧ Hv w wr (L9 l w.heap.size g0 g1 g2 x3 y3 z3 x4 y4 z4 x5 y5 z5 x6 y6 z6 x7 y7 z7 x8 y8 z8) ∧ Said l (0 + m)) (fun _ i _ => 3 - (intOf i).toNat)
      case atStart => exact ⟨0, by omega, rfl, rfl, HV.out, HS.out⟩
      case round =>
        clear HV HS
        obtain ⟨m, hm, rfl, rfl, hv, hsd⟩ := hrel
        have HV := Lib.hid hv
        have HS := Lib.hid hsd
        clear hv hsd
        obtain rfl | rfl | rfl | rfl : m = 0 ∨ m = 1 ∨ m = 2 ∨ m = 3 := by omega
        · cases hb : Tb.rsB l.a.xs l.a.ys with
          | false =>
            have CQ := Lib.hid (q0 HV.out HL.out)
            rw [hb] at CQ
            rw [show ((0 : Nat) : Int) = 0 from rfl]
            have HE := Lib.hid (err_no (l := l) (k := 0) (by omega) hb)
            clear hb
            go_wp2_with (first | (go_at_call 57; (with_reducible refine CQ.out.mono ?_); rintro r W ⟨rfl, hv⟩; replace HV := Lib.hid hv; clear hv CQ) | fail)
            try rw [Exit.noGoto_ret]
            go_ret
            exact ⟨ret_int HE.out.symm, HV.out.old⟩
          | true =>
            have CQ := Lib.hid (q0 HV.out HL.out)
            rw [hb] at CQ
            rw [show ((0 : Nat) : Int) = 0 from rfl]
            have HS2 := Lib.hid (HS.out.next (k := 0) hb)
            clear hb
            go_wp2_with (first | (go_at_call 57; (with_reducible refine CQ.out.mono ?_); rintro r W ⟨rfl, hv⟩; replace HV := Lib.hid hv; clear hv CQ) | fail)
            go_roundw
            case rel => exact ⟨0 + 1, by omega, by go_num, rfl, HV.out, HS2.out⟩
            case measure => simp [intOf]
        · cases hb : Tb.rsB l.d.xs l.d.ys with
          | false =>
            have CQ := Lib.hid (q1 HV.out HL.out)
            rw [hb] at CQ
            rw [show ((1 : Nat) : Int) = 1 from rfl]
            have HE := Lib.hid (err_no (l := l) (k := 1) (by omega) hb)
            clear hb
            go_wp2_with (first | (go_at_call 57; (with_reducible refine CQ.out.mono ?_); rintro r W ⟨rfl, hv⟩; replace HV := Lib.hid hv; clear hv CQ) | fail)
            try rw [Exit.noGoto_ret]
            go_ret
            exact ⟨ret_int HE.out.symm, HV.out.old⟩
          | true =>
            have CQ := Lib.hid (q1 HV.out HL.out)
            rw [hb] at CQ
            rw [show ((1 : Nat) : Int) = 1 from rfl]
            have HS2 := Lib.hid (HS.out.next (k := 1) hb)
            clear hb
            go_wp2_with (first | (go_at_call 57; (with_reducible refine CQ.out.mono ?_); rintro r W ⟨rfl, hv⟩; replace HV := Lib.hid hv; clear hv CQ) | fail)
            go_roundw
            case rel => exact ⟨1 + 1, by omega, by go_num, rfl, HV.out, HS2.out⟩
            case measure => simp [intOf]
        · cases hb : Tb.rsB l.s.xs l.s.ys with
          | false =>
            have CQ := Lib.hid (q2 HV.out HL.out)
            rw [hb] at CQ
            rw [show ((2 : Nat) : Int) = 2 from rfl]
            have HE := Lib.hid (err_no (l := l) (k := 2) (by omega) hb)
            clear hb
            go_wp2_with (first | (go_at_call 57; (with_reducible refine CQ.out.mono ?_); rintro r W ⟨rfl, hv⟩; replace HV := Lib.hid hv; clear hv CQ) | fail)
            try rw [Exit.noGoto_ret]
            go_ret
            exact ⟨ret_int HE.out.symm, HV.out.old⟩
          | true =>
            have CQ := Lib.hid (q2 HV.out HL.out)
            rw [hb] at CQ
            rw [show ((2 : Nat) : Int) = 2 from rfl]
            have HS2 := Lib.hid (HS.out.next (k := 2) hb)
            clear hb
            go_wp2_with (first | (go_at_call 57; (with_reducible refine CQ.out.mono ?_); rintro r W ⟨rfl, hv⟩; replace HV := Lib.hid hv; clear hv CQ) | fail)
            go_roundw
            case rel => exact ⟨2 + 1, by omega, by go_num, rfl, HV.out, HS2.out⟩
            case measure => simp [intOf]
        · rw [show ((3 : Nat) : Int) = 3 from rfl]
          go_wp2_with fail
          go_roundw
          case rel => exact ⟨0 + 1, by omega, by go_num, rfl, HV.out, HS.out⟩
          case measure => simp [intOf]
    · have i0 : ∀ W, (Instr.index 80 (.agg #[fr g0, fr g1, fr g2, fi x3 y3 z3, fi x4 y4 z4, fi x5 y5 z5, fi x6 y6 z6, fi x7 y7 z7, fi x8 y8 z8]) (.int .i64 1)).run Tryd.prog W = .ok (.agg #[fi x3 y3 z3, fi x4 y4 z4, fi x5 y5 z5]) W := fun _ => by kernel_rfl
      have j0 : ∀ W, (Instr.index 79 (.agg #[fi x3 y3 z3, fi x4 y4 z4, fi x5 y5 z5]) (.int .i64 0)).run Tryd.prog W = .ok (fi x3 y3 z3) W := fun _ => by kernel_rfl
      have j1 : ∀ W, (Instr.index 79 (.agg #[fi x3 y3 z3, fi x4 y4 z4, fi x5 y5 z5]) (.int .i64 1)).run Tryd.prog W = .ok (fi x4 y4 z4) W := fun _ => by kernel_rfl
      have j2 : ∀ W, (Instr.index 79 (.agg #[fi x3 y3 z3, fi x4 y4 z4, fi x5 y5 z5]) (.int .i64 2)).run Tryd.prog W = .ok (fi x5 y5 z5) W := fun _ => by kernel_rfl
      have HN := Lib.hid (HV.out.made (o3 Value.nilFunc Value.nilFunc Value.nilFunc))
      rw [show ((1 : Nat) : Int) = 1 from rfl]
      go_wp2_with (first | (refine st3 rfl _ _ rfl rfl _ Value.nilFunc _ _ _ rfl rfl rfl rfl rfl HN.out.head ?_; intro W hP hO; replace HN := Lib.hid (HN.out.change hO hP (fun e he => by have := HV.out.lt he; omega) HV.out.old.size); clear hP hO) | (refine ld3 rfl _ rfl _ _ _ _ rfl HN.out.head ?_) | fail)
      replace HV := Lib.hid HN.out.tail
      clear HN i0
      go_loopw [5, 60] (fun r i wr => ∃ m : Nat, m ≤ 3 ∧ i = .int .i64 m ∧ r = .int .i64 0 ∧ Hv w wr (L9 l w.heap.size g0 g1 g2 x3 y3 z3 x4 y4 z4 x5 y5 z5 x6 y6 z6 x7 y7 z7 x8 y8 z8) ∧ Said l (3 + m)) (fun _ i _ => 3 - (intOf i).toNat)
      case atStart => exact ⟨0, by omega, rfl, rfl, HV.out, HS.out⟩
      case round =>
        clear HV HS
        obtain ⟨m, hm, rfl, rfl, hv, hsd⟩ := hrel
        have HV := Lib.hid hv
        have HS := Lib.hid hsd
        clear hv hsd
        obtain rfl | rfl | rfl | rfl : m = 0 ∨ m = 1 ∨ m = 2 ∨ m = 3 := by omega
        · cases hb : Em.within l.margin 1 1048576 with
          | false =>
            have CQ := Lib.hid (q3 HV.out)
            rw [hb] at CQ
            rw [show ((0 : Nat) : Int) = 0 from rfl]
            have HE := Lib.hid (err_no (l := l) (k := 3) (by omega) hb)
            clear hb
            go_wp2_with (first | (go_at_call 60; (with_reducible refine CQ.out.mono ?_); rintro r W ⟨rfl, hv⟩; replace HV := Lib.hid hv; clear hv CQ) | fail)
            try rw [Exit.noGoto_ret]
            go_ret
            exact ⟨ret_int HE.out.symm, HV.out.old⟩
          | true =>
            have CQ := Lib.hid (q3 HV.out)
            rw [hb] at CQ
            rw [show ((0 : Nat) : Int) = 0 from rfl]
            have HS2 := Lib.hid (HS.out.next (k := 3) hb)
            clear hb
            go_wp2_with (first | (go_at_call 60; (with_reducible refine CQ.out.mono ?_); rintro r W ⟨rfl, hv⟩; replace HV := Lib.hid hv; clear hv CQ) | fail)
            go_roundw
            case rel => exact ⟨0 + 1, by omega, by go_num, rfl, HV.out, HS2.out⟩
            case measure => simp [intOf]
        · cases hb : Em.within l.idle 1 1048576 with
          | false =>
            have CQ := Lib.hid (q4 HV.out)
            rw [hb] at CQ
            rw [show ((1 : Nat) : Int) = 1 from rfl]
            have HE := Lib.hid (err_no (l := l) (k := 4) (by omega) hb)
            clear hb
            go_wp2_with (first | (go_at_call 60; (with_reducible refine CQ.out.mono ?_); rintro r W ⟨rfl, hv⟩; replace HV := Lib.hid hv; clear hv CQ) | fail)
            try rw [Exit.noGoto_ret]
            go_ret
            exact ⟨ret_int HE.out.symm, HV.out.old⟩
          | true =>
            have CQ := Lib.hid (q4 HV.out)
            rw [hb] at CQ
            rw [show ((1 : Nat) : Int) = 1 from rfl]
            have HS2 := Lib.hid (HS.out.next (k := 4) hb)
            clear hb
            go_wp2_with (first | (go_at_call 60; (with_reducible refine CQ.out.mono ?_); rintro r W ⟨rfl, hv⟩; replace HV := Lib.hid hv; clear hv CQ) | fail)
            go_roundw
            case rel => exact ⟨1 + 1, by omega, by go_num, rfl, HV.out, HS2.out⟩
            case measure => simp [intOf]
        · cases hb : Em.within l.patience 1 10000 with
          | false =>
            have CQ := Lib.hid (q5 HV.out)
            rw [hb] at CQ
            rw [show ((2 : Nat) : Int) = 2 from rfl]
            have HE := Lib.hid (err_no (l := l) (k := 5) (by omega) hb)
            clear hb
            go_wp2_with (first | (go_at_call 60; (with_reducible refine CQ.out.mono ?_); rintro r W ⟨rfl, hv⟩; replace HV := Lib.hid hv; clear hv CQ) | fail)
            try rw [Exit.noGoto_ret]
            go_ret
            exact ⟨ret_int HE.out.symm, HV.out.old⟩
          | true =>
            have CQ := Lib.hid (q5 HV.out)
            rw [hb] at CQ
            rw [show ((2 : Nat) : Int) = 2 from rfl]
            have HS2 := Lib.hid (HS.out.next (k := 5) hb)
            clear hb
            go_wp2_with (first | (go_at_call 60; (with_reducible refine CQ.out.mono ?_); rintro r W ⟨rfl, hv⟩; replace HV := Lib.hid hv; clear hv CQ) | fail)
            go_roundw
            case rel => exact ⟨2 + 1, by omega, by go_num, rfl, HV.out, HS2.out⟩
            case measure => simp [intOf]
        · rw [show ((3 : Nat) : Int) = 3 from rfl]
          go_wp2_with fail
          go_roundw
          case rel => exact ⟨1 + 1, by omega, by go_num, rfl, HV.out, HS.out⟩
          case measure => simp [intOf]
    · have i0 : ∀ W, (Instr.index 80 (.agg #[fr g0, fr g1, fr g2, fi x3 y3 z3, fi x4 y4 z4, fi x5 y5 z5, fi x6 y6 z6, fi x7 y7 z7, fi x8 y8 z8]) (.int .i64 2)).run Tryd.prog W = .ok (.agg #[fi x6 y6 z6, fi x7 y7 z7, fi x8 y8 z8]) W := fun _ => by kernel_rfl
      have j0 : ∀ W, (Instr.index 79 (.agg #[fi x6 y6 z6, fi x7 y7 z7, fi x8 y8 z8]) (.int .i64 0)).run Tryd.prog W = .ok (fi x6 y6 z6) W := fun _ => by kernel_rfl
      have j1 : ∀ W, (Instr.index 79 (.agg #[fi x6 y6 z6, fi x7 y7 z7, fi x8 y8 z8]) (.int .i64 1)).run Tryd.prog W = .ok (fi x7 y7 z7) W := fun _ => by kernel_rfl
      have j2 : ∀ W, (Instr.index 79 (.agg #[fi x6 y6 z6, fi x7 y7 z7, fi x8 y8 z8]) (.int .i64 2)).run Tryd.prog W = .ok (fi x8 y8 z8) W := fun _ => by kernel_rfl
      have HN := Lib.hid (HV.out.made (o3 Value.nilFunc Value.nilFunc Value.nilFunc))
      rw [show ((2 : Nat) : Int) = 2 from rfl]
      go_wp2_with (first | (refine st3 rfl _ _ rfl rfl _ Value.nilFunc _ _ _ rfl rfl rfl rfl rfl HN.out.head ?_; intro W hP hO; replace HN := Lib.hid (HN.out.change hO hP (fun e he => by have := HV.out.lt he; omega) HV.out.old.size); clear hP hO) | (refine ld3 rfl _ rfl _ _ _ _ rfl HN.out.head ?_) | fail)
      replace HV := Lib.hid HN.out.tail
      clear HN i0
      go_loopw [5, 60] (fun r i wr => ∃ m : Nat, m ≤ 3 ∧ i = .int .i64 m ∧ r = .int .i64 0 ∧ Hv w wr (L9 l w.heap.size g0 g1 g2 x3 y3 z3 x4 y4 z4 x5 y5 z5 x6 y6 z6 x7 y7 z7 x8 y8 z8) ∧ Said l (6 + m)) (fun _ i _ => 3 - (intOf i).toNat)
      case atStart => exact ⟨0, by omega, rfl, rfl, HV.out, HS.out⟩
      case round =>
        clear HV HS
        obtain ⟨m, hm, rfl, rfl, hv, hsd⟩ := hrel
        have HV := Lib.hid hv
        have HS := Lib.hid hsd
        clear hv hsd
        obtain rfl | rfl | rfl | rfl : m = 0 ∨ m = 1 ∨ m = 2 ∨ m = 3 := by omega
        · cases hb : Em.within l.red1 l.margin 1048576 with
          | false =>
            have CQ := Lib.hid (q6 HV.out)
            rw [hb] at CQ
            rw [show ((0 : Nat) : Int) = 0 from rfl]
            have HE := Lib.hid (err_no (l := l) (k := 6) (by omega) hb)
            clear hb
            go_wp2_with (first | (go_at_call 60; (with_reducible refine CQ.out.mono ?_); rintro r W ⟨rfl, hv⟩; replace HV := Lib.hid hv; clear hv CQ) | fail)
            try rw [Exit.noGoto_ret]
            go_ret
            exact ⟨ret_int HE.out.symm, HV.out.old⟩
          | true =>
            have CQ := Lib.hid (q6 HV.out)
            rw [hb] at CQ
            rw [show ((0 : Nat) : Int) = 0 from rfl]
            have HS2 := Lib.hid (HS.out.next (k := 6) hb)
            clear hb
            go_wp2_with (first | (go_at_call 60; (with_reducible refine CQ.out.mono ?_); rintro r W ⟨rfl, hv⟩; replace HV := Lib.hid hv; clear hv CQ) | fail)
            go_roundw
            case rel => exact ⟨0 + 1, by omega, by go_num, rfl, HV.out, HS2.out⟩
            case measure => simp [intOf]
        · cases hb : Em.within l.red2 l.margin 1048576 with
          | false =>
            have CQ := Lib.hid (q7 HV.out)
            rw [hb] at CQ
            rw [show ((1 : Nat) : Int) = 1 from rfl]
            have HE := Lib.hid (err_no (l := l) (k := 7) (by omega) hb)
            clear hb
            go_wp2_with (first | (go_at_call 60; (with_reducible refine CQ.out.mono ?_); rintro r W ⟨rfl, hv⟩; replace HV := Lib.hid hv; clear hv CQ) | fail)
            try rw [Exit.noGoto_ret]
            go_ret
            exact ⟨ret_int HE.out.symm, HV.out.old⟩
          | true =>
            have CQ := Lib.hid (q7 HV.out)
            rw [hb] at CQ
            rw [show ((1 : Nat) : Int) = 1 from rfl]
            have HS2 := Lib.hid (HS.out.next (k := 7) hb)
            clear hb
            go_wp2_with (first | (go_at_call 60; (with_reducible refine CQ.out.mono ?_); rintro r W ⟨rfl, hv⟩; replace HV := Lib.hid hv; clear hv CQ) | fail)
            go_roundw
            case rel => exact ⟨1 + 1, by omega, by go_num, rfl, HV.out, HS2.out⟩
            case measure => simp [intOf]
        · cases hb : Em.within l.redE l.margin 1048576 with
          | false =>
            have CQ := Lib.hid (q8 HV.out)
            rw [hb] at CQ
            rw [show ((2 : Nat) : Int) = 2 from rfl]
            have HE := Lib.hid (err_no (l := l) (k := 8) (by omega) hb)
            clear hb
            go_wp2_with (first | (go_at_call 60; (with_reducible refine CQ.out.mono ?_); rintro r W ⟨rfl, hv⟩; replace HV := Lib.hid hv; clear hv CQ) | fail)
            try rw [Exit.noGoto_ret]
            go_ret
            exact ⟨ret_int HE.out.symm, HV.out.old⟩
          | true =>
            have CQ := Lib.hid (q8 HV.out)
            rw [hb] at CQ
            rw [show ((2 : Nat) : Int) = 2 from rfl]
            have HS2 := Lib.hid (HS.out.next (k := 8) hb)
            clear hb
            go_wp2_with (first | (go_at_call 60; (with_reducible refine CQ.out.mono ?_); rintro r W ⟨rfl, hv⟩; replace HV := Lib.hid hv; clear hv CQ) | fail)
            go_roundw
            case rel => exact ⟨2 + 1, by omega, by go_num, rfl, HV.out, HS2.out⟩
            case measure => simp [intOf]
        · rw [show ((3 : Nat) : Int) = 3 from rfl]
          go_wp2_with fail
          go_roundw
          case rel => exact ⟨2 + 1, by omega, by go_num, rfl, HV.out, HS.out⟩
          case measure => simp [intOf]
    · rw [show ((3 : Nat) : Int) = 3 from rfl]
      have HE := Lib.hid (err_yes HS.out)
      go_wp2_with fail
      try rw [Exit.noGoto_ret]
      go_ret
      exact ⟨ret_int HE.out.symm, HV.out.old⟩
end Hw
end Go.Proofs.YtodilljomjhohaaDoor

/- What package start answers. Printed by gen_calls.py. -/
namespace Go.Proofs.YtodilljomjhohaaDoor
namespace Bw
open Go.RowKit TabC Lk Ew Hw

theorem ask_e (b : Nat) (e : Eg) (W : World) (hb : W.heap[b]? = some (eo e)) (hE : EngIn W e) : Calls Tryd.prog 43 #[.pointer (some ⟨b, 0, none⟩)] W fun r w' => r = .returned (.bool (Em.okB (en e))) ∧ Below W.heap.size W w' := by
  have C := Lib.hid (Ew.check_c e W hE)
  have E : Hid ((Em.err (en e) == 0) = Em.okB (en e)) := by show _ = _; unfold Em.err; cases Em.okB (en e) <;> rfl
  generalize Em.err (en e) = k at *
  generalize Em.okB (en e) = s at *
  clear hE
  go_enter Tryd.func43, Tryd.ntmps43
  go_wp2_with (first | (refine lde rfl _ rfl _ _ rfl hb ?_) | (go_at_call 44; (with_reducible refine C.out.mono ?_); rintro r W1 ⟨rfl, hc⟩) | fail)
  go_ret
  exact ⟨ret_bool E.out, hc⟩
theorem ask_l (b : Nat) (l : Lg) (W : World) (hb : W.heap[b]? = some (lo l)) (hL : LawIn W l) : Calls Tryd.prog 45 #[.pointer (some ⟨b, 0, none⟩)] W fun r w' => r = .returned (.bool (Sd.okB (la l))) ∧ Below W.heap.size W w' := by
  have C := Lib.hid (Hw.check_c l W hL)
  have E : Hid ((Sd.err (la l) == 0) = Sd.okB (la l)) := by show _ = _; unfold Sd.err; cases Sd.okB (la l) <;> rfl
  generalize Sd.err (la l) = k at *
  generalize Sd.okB (la l) = s at *
  clear hL
  go_enter Tryd.func45, Tryd.ntmps45
  go_wp2_with (first | (refine ldl rfl _ rfl _ _ rfl hb ?_) | (go_at_call 46; (with_reducible refine C.out.mono ?_); rintro r W1 ⟨rfl, hc⟩) | fail)
  go_ret
  exact ⟨ret_bool E.out, hc⟩

theorem mk_eh {w W : World} {L : List (Nat × Obj)} (h : Hv w W L) (e : Eg) : Calls Tryd.prog 34 #[.agg (ec e)] W fun r w' => ∃ g, r = .returned (fe g) ∧ Hv w w' ((g, eo e) :: L) :=
  (mk_e e W).mono fun r w' ⟨h1, h2⟩ => ⟨_, h1, by subst h2; exact h.made (eo e)⟩
theorem mk_lh {w W : World} {L : List (Nat × Obj)} (h : Hv w W L) (l : Lg) : Calls Tryd.prog 36 #[.agg (lc l)] W fun r w' => ∃ g, r = .returned (fl g) ∧ Hv w w' ((g, lo l) :: L) :=
  (mk_l l W).mono fun r w' ⟨h1, h2⟩ => ⟨_, h1, by subst h2; exact h.made (lo l)⟩

section
variable {op : Oper} {a : Act} {w : World}
theorem runE' {e : Eg} {b : Nat} (hP : w.heap[b]? = some (eo e)) (x : Operand) (ho : op.op = .load 27 x) (hx : a.eval x = .pointer (some ⟨b, 0, none⟩)) : (execOp a.eval op).run Tryd.prog w = .ok (.value (.agg (ec e))) w := by
  unfold execOp
  simp only [ho, hx, Instr.loadAt, Instr.sureAddr, Sem.run_bind, Sem.run_pure, Result.andThen_ok, run_loadVar_row w b 27 27 (ec e) (0, 0) _ hP Tryd.underlying27 rfl info_e]
theorem runL' {l : Lg} {b : Nat} (hP : w.heap[b]? = some (lo l)) (x : Operand) (ho : op.op = .load 29 x) (hx : a.eval x = .pointer (some ⟨b, 0, none⟩)) : (execOp a.eval op).run Tryd.prog w = .ok (.value (.agg (lc l))) w := by
  unfold execOp
  simp only [ho, hx, Instr.loadAt, Instr.sureAddr, Sem.run_bind, Sem.run_pure, Result.andThen_ok, run_loadVar_row w b 29 29 (lc l) (0, 0) _ hP Tryd.underlying29 rfl info_l]
end

theorem ord_ready : Lk.orderedB (Lk.opsOf Tryd.f24 1) [(0, false), (1, false), (2, false), (3, false), (4, false), (5, true), (6, true), (7, true), (8, false)] = true := by kernel_rfl
set_option maxRecDepth 100000 in
set_option maxHeartbeats 4000000 in
theorem ready_c (e : Eg) (n : Int) (w : World) (h : EngIn w e) : Calls Tryd.prog 24 #[.agg (ec e), .int .i64 n] w fun r w' => r = .returned (.bool (Em.okB (en e) && decide (e.light ≤ n))) ∧ Below w.heap.size w w' := by
  have HV := Lib.hid ((Hv.nil w).made (eo e))
  have CT := Lib.hid (fun g b W (hg : W.heap[g]? = some (ro1 (fe b))) (hb : W.heap[b]? = some (eo e)) (hW : Below w.heap.size w W) => tell_lights (qc e lz) n g b _ _ W hg (fun V hV => ask_e b e V ((hV.block _ (Array.getElem?_eq_some_iff.1 hb).1).trans hb) ((h.below hW).below hV)) (fun V _ => lights_c e lz n V))
  simp only [qc, lz, tz, List.length_nil] at CT
  clear h
  go_enter Tryd.func24, Tryd.ntmps24
  go_wp2_with fail
  refine wp_region_noPanic (Lk.wp_region_ordered ord_ready (fun V => V.heap[w.heap.size]? = some (eo e)) (by kernel_rfl) (by kernel_rfl) (fun _ _ _ _ _ h => h) (by first | (with_reducible exact HV.out.head) | (with_reducible exact HV.out.drew.head)) ?_)
  replace HV := Lib.hid HV.out.drew
  iterate 5 (refine Lk.ord_take ?_ rfl rfl ?_ ?_; rotate_left; (focus (intro w' hS; (try dsimp only at hS); first | (refine (runE' hS _ rfl rfl).trans ?_; with_reducible rfl) | (go_simp; try with_reducible rfl))); simp only [Act.put, List.setIfInBounds_toArray, List.set_cons_zero, List.set_cons_succ])
  refine Lk.ord_step rfl rfl (fun K hK => ?_)
  go_simp
  (with_reducible refine (mk_eh HV.out e).mono ?_)
  rintro r W ⟨b, rfl, hv⟩
  replace HV := Lib.hid hv
  clear hv
  refine hK.out _ _ (by first | (with_reducible exact HV.out.h2) | (with_reducible exact HV.out.drew.h2)) ?_
  clear hK K
  try simp only [Act.put, List.setIfInBounds_toArray, List.set_cons_zero, List.set_cons_succ]
  refine Lk.ord_step rfl rfl (fun K hK => ?_)
  go_simp
  replace HV := Lib.hid (HV.out.made (ro1 (fe b)))
  refine hK.out _ _ (by first | (with_reducible exact HV.out.h3) | (with_reducible exact HV.out.drew.h3)) ?_
  clear hK K
  try simp only [Act.put, List.setIfInBounds_toArray, List.set_cons_zero, List.set_cons_succ]
  refine Lk.ord_step rfl rfl (fun K hK => ?_)
  go_simp
  (with_reducible refine (CT.out _ _ _ HV.out.head HV.out.h2 HV.out.old).mono ?_)
  rintro r W ⟨rfl, hb⟩
  replace HV := Lib.hid (HV.out.grow hb)
  clear hb
  refine hK.out _ _ (by first | (with_reducible exact HV.out.h3) | (with_reducible exact HV.out.drew.h3)) ?_
  clear hK K
  try simp only [Act.put, List.setIfInBounds_toArray, List.set_cons_zero, List.set_cons_succ]
  iterate 1 (refine Lk.ord_take ?_ rfl rfl ?_ ?_; rotate_left; (focus (intro w' hS; (try dsimp only at hS); first | (refine (runE' hS _ rfl rfl).trans ?_; with_reducible rfl) | (go_simp; try with_reducible rfl))); simp only [Act.put, List.setIfInBounds_toArray, List.set_cons_zero, List.set_cons_succ])
  refine Lk.ord_nil (NoPanic.normal ?_)
  go_wp2_with fail
  go_ret
  exact ⟨rfl, HV.out.old⟩

theorem ord_hot : Lk.orderedB (Lk.opsOf Tryd.f25 1) [(0, false), (1, false), (2, false), (3, false), (4, false), (5, true), (6, true), (7, true), (8, false)] = true := by kernel_rfl
set_option maxRecDepth 100000 in
set_option maxHeartbeats 4000000 in
theorem hot_c (l : Lg) (n : Int) (w : World) (h : LawIn w l) : Calls Tryd.prog 25 #[.agg (lc l), .int .i64 n] w fun r w' => r = .returned (.bool (Sd.okB (la l) && decide (l.redE ≤ n))) ∧ Below w.heap.size w w' := by
  have HV := Lib.hid ((Hv.nil w).made (lo l))
  have CT := Lib.hid (fun g b W (hg : W.heap[g]? = some (ro1 (fl b))) (hb : W.heap[b]? = some (lo l)) (hW : Below w.heap.size w W) => tell_glows (qc ez l) n g b _ _ W hg (fun V hV => ask_l b l V ((hV.block _ (Array.getElem?_eq_some_iff.1 hb).1).trans hb) ((h.below hW).below hV)) (fun V _ => glows_c ez l n V))
  simp only [qc, ez, tz, List.length_nil] at CT
  clear h
  go_enter Tryd.func25, Tryd.ntmps25
  go_wp2_with fail
  refine wp_region_noPanic (Lk.wp_region_ordered ord_hot (fun V => V.heap[w.heap.size]? = some (lo l)) (by kernel_rfl) (by kernel_rfl) (fun _ _ _ _ _ h => h) (by first | (with_reducible exact HV.out.head) | (with_reducible exact HV.out.drew.head)) ?_)
  replace HV := Lib.hid HV.out.drew
  iterate 5 (refine Lk.ord_take ?_ rfl rfl ?_ ?_; rotate_left; (focus (intro w' hS; (try dsimp only at hS); first | (refine (runL' hS _ rfl rfl).trans ?_; with_reducible rfl) | (go_simp; try with_reducible rfl))); simp only [Act.put, List.setIfInBounds_toArray, List.set_cons_zero, List.set_cons_succ])
  refine Lk.ord_step rfl rfl (fun K hK => ?_)
  go_simp
  (with_reducible refine (mk_lh HV.out l).mono ?_)
  rintro r W ⟨b, rfl, hv⟩
  replace HV := Lib.hid hv
  clear hv
  refine hK.out _ _ (by first | (with_reducible exact HV.out.h2) | (with_reducible exact HV.out.drew.h2)) ?_
  clear hK K
  try simp only [Act.put, List.setIfInBounds_toArray, List.set_cons_zero, List.set_cons_succ]
  refine Lk.ord_step rfl rfl (fun K hK => ?_)
  go_simp
  replace HV := Lib.hid (HV.out.made (ro1 (fl b)))
  refine hK.out _ _ (by first | (with_reducible exact HV.out.h3) | (with_reducible exact HV.out.drew.h3)) ?_
  clear hK K
  try simp only [Act.put, List.setIfInBounds_toArray, List.set_cons_zero, List.set_cons_succ]
  refine Lk.ord_step rfl rfl (fun K hK => ?_)
  go_simp
  (with_reducible refine (CT.out _ _ _ HV.out.head HV.out.h2 HV.out.old).mono ?_)
  rintro r W ⟨rfl, hb⟩
  replace HV := Lib.hid (HV.out.grow hb)
  clear hb
  refine hK.out _ _ (by first | (with_reducible exact HV.out.h3) | (with_reducible exact HV.out.drew.h3)) ?_
  clear hK K
  try simp only [Act.put, List.setIfInBounds_toArray, List.set_cons_zero, List.set_cons_succ]
  iterate 1 (refine Lk.ord_take ?_ rfl rfl ?_ ?_; rotate_left; (focus (intro w' hS; (try dsimp only at hS); first | (refine (runL' hS _ rfl rfl).trans ?_; with_reducible rfl) | (go_simp; try with_reducible rfl))); simp only [Act.put, List.setIfInBounds_toArray, List.set_cons_zero, List.set_cons_succ])
  refine Lk.ord_nil (NoPanic.normal ?_)
  go_wp2_with fail
  go_ret
  exact ⟨rfl, HV.out.old⟩

theorem ord_hung : Lk.orderedB (Lk.opsOf Tryd.f27 1) [(0, false), (1, false), (2, false), (3, false), (4, false), (5, true), (6, true), (7, true), (8, false)] = true := by kernel_rfl
set_option maxRecDepth 100000 in
set_option maxHeartbeats 4000000 in
theorem hung_c (l : Lg) (n : Int) (w : World) (h : LawIn w l) : Calls Tryd.prog 27 #[.agg (lc l), .int .i64 n] w fun r w' => r = .returned (.bool (Sd.okB (la l) && decide (l.patience ≤ n))) ∧ Below w.heap.size w w' := by
  have HV := Lib.hid ((Hv.nil w).made (lo l))
  have CT := Lib.hid (fun g b W (hg : W.heap[g]? = some (ro1 (fl b))) (hb : W.heap[b]? = some (lo l)) (hW : Below w.heap.size w W) => tell_waits (qc ez l) n g b _ _ W hg (fun V hV => ask_l b l V ((hV.block _ (Array.getElem?_eq_some_iff.1 hb).1).trans hb) ((h.below hW).below hV)) (fun V _ => waits_c ez l n V))
  simp only [qc, ez, tz, List.length_nil] at CT
  clear h
  go_enter Tryd.func27, Tryd.ntmps27
  go_wp2_with fail
  refine wp_region_noPanic (Lk.wp_region_ordered ord_hung (fun V => V.heap[w.heap.size]? = some (lo l)) (by kernel_rfl) (by kernel_rfl) (fun _ _ _ _ _ h => h) (by first | (with_reducible exact HV.out.head) | (with_reducible exact HV.out.drew.head)) ?_)
  replace HV := Lib.hid HV.out.drew
  iterate 5 (refine Lk.ord_take ?_ rfl rfl ?_ ?_; rotate_left; (focus (intro w' hS; (try dsimp only at hS); first | (refine (runL' hS _ rfl rfl).trans ?_; with_reducible rfl) | (go_simp; try with_reducible rfl))); simp only [Act.put, List.setIfInBounds_toArray, List.set_cons_zero, List.set_cons_succ])
  refine Lk.ord_step rfl rfl (fun K hK => ?_)
  go_simp
  (with_reducible refine (mk_lh HV.out l).mono ?_)
  rintro r W ⟨b, rfl, hv⟩
  replace HV := Lib.hid hv
  clear hv
  refine hK.out _ _ (by first | (with_reducible exact HV.out.h2) | (with_reducible exact HV.out.drew.h2)) ?_
  clear hK K
  try simp only [Act.put, List.setIfInBounds_toArray, List.set_cons_zero, List.set_cons_succ]
  refine Lk.ord_step rfl rfl (fun K hK => ?_)
  go_simp
  replace HV := Lib.hid (HV.out.made (ro1 (fl b)))
  refine hK.out _ _ (by first | (with_reducible exact HV.out.h3) | (with_reducible exact HV.out.drew.h3)) ?_
  clear hK K
  try simp only [Act.put, List.setIfInBounds_toArray, List.set_cons_zero, List.set_cons_succ]
  refine Lk.ord_step rfl rfl (fun K hK => ?_)
  go_simp
  (with_reducible refine (CT.out _ _ _ HV.out.head HV.out.h2 HV.out.old).mono ?_)
  rintro r W ⟨rfl, hb⟩
  replace HV := Lib.hid (HV.out.grow hb)
  clear hb
  refine hK.out _ _ (by first | (with_reducible exact HV.out.h3) | (with_reducible exact HV.out.drew.h3)) ?_
  clear hK K
  try simp only [Act.put, List.setIfInBounds_toArray, List.set_cons_zero, List.set_cons_succ]
  iterate 1 (refine Lk.ord_take ?_ rfl rfl ?_ ?_; rotate_left; (focus (intro w' hS; (try dsimp only at hS); first | (refine (runL' hS _ rfl rfl).trans ?_; with_reducible rfl) | (go_simp; try with_reducible rfl))); simp only [Act.put, List.setIfInBounds_toArray, List.set_cons_zero, List.set_cons_succ])
  refine Lk.ord_nil (NoPanic.normal ?_)
  go_wp2_with fail
  go_ret
  exact ⟨rfl, HV.out.old⟩

theorem ord_away : Lk.orderedB (Lk.opsOf Tryd.f26 1) [(0, false), (1, false), (2, false), (3, false), (4, false), (5, false), (6, false), (7, true), (8, true), (9, true), (10, false), (11, false)] = true := by kernel_rfl
set_option maxRecDepth 100000 in
set_option maxHeartbeats 4000000 in
theorem away_c (l : Lg) (n : Int) (w : World) (h : LawIn w l) : Calls Tryd.prog 26 #[.agg (lc l), .bool true, .int .i64 n] w fun r w' => r = .returned (.bool (Sd.okB (la l) && decide (l.idle ≤ n))) ∧ Below w.heap.size w w' := by
  have HV := Lib.hid ((Hv.nil w).made (lo l))
  have CT := Lib.hid (fun g b W (hg : W.heap[g]? = some (ro1 (fl b))) (hb : W.heap[b]? = some (lo l)) (hW : Below w.heap.size w W) => tell_idles (qc ez l) n g b _ _ W hg (fun V hV => ask_l b l V ((hV.block _ (Array.getElem?_eq_some_iff.1 hb).1).trans hb) ((h.below hW).below hV)) (fun V _ => idles_c ez l n V))
  simp only [qc, ez, tz, List.length_nil] at CT
  clear h
  go_enter Tryd.func26, Tryd.ntmps26
  go_wp2_with fail
  refine wp_region_noPanic (Lk.wp_region_ordered ord_away (fun V => V.heap[w.heap.size]? = some (lo l)) (by kernel_rfl) (by kernel_rfl) (fun _ _ _ _ _ h => h) (by first | (with_reducible exact HV.out.head) | (with_reducible exact HV.out.drew.head)) ?_)
  replace HV := Lib.hid HV.out.drew
  iterate 7 (refine Lk.ord_take ?_ rfl rfl ?_ ?_; rotate_left; (focus (intro w' hS; (try dsimp only at hS); first | (refine (runL' hS _ rfl rfl).trans ?_; with_reducible rfl) | (go_simp; try with_reducible rfl))); simp only [Act.put, List.setIfInBounds_toArray, List.set_cons_zero, List.set_cons_succ])
  refine Lk.ord_step rfl rfl (fun K hK => ?_)
  go_simp
  (with_reducible refine (mk_lh HV.out l).mono ?_)
  rintro r W ⟨b, rfl, hv⟩
  replace HV := Lib.hid hv
  clear hv
  refine hK.out _ _ (by first | (with_reducible exact HV.out.h2) | (with_reducible exact HV.out.drew.h2)) ?_
  clear hK K
  try simp only [Act.put, List.setIfInBounds_toArray, List.set_cons_zero, List.set_cons_succ]
  refine Lk.ord_step rfl rfl (fun K hK => ?_)
  go_simp
  replace HV := Lib.hid (HV.out.made (ro1 (fl b)))
  refine hK.out _ _ (by first | (with_reducible exact HV.out.h3) | (with_reducible exact HV.out.drew.h3)) ?_
  clear hK K
  try simp only [Act.put, List.setIfInBounds_toArray, List.set_cons_zero, List.set_cons_succ]
  refine Lk.ord_step rfl rfl (fun K hK => ?_)
  go_simp
  (with_reducible refine (CT.out _ _ _ HV.out.head HV.out.h2 HV.out.old).mono ?_)
  rintro r W ⟨rfl, hb⟩
  replace HV := Lib.hid (HV.out.grow hb)
  clear hb
  refine hK.out _ _ (by first | (with_reducible exact HV.out.h3) | (with_reducible exact HV.out.drew.h3)) ?_
  clear hK K
  try simp only [Act.put, List.setIfInBounds_toArray, List.set_cons_zero, List.set_cons_succ]
  iterate 2 (refine Lk.ord_take ?_ rfl rfl ?_ ?_; rotate_left; (focus (intro w' hS; (try dsimp only at hS); first | (refine (runL' hS _ rfl rfl).trans ?_; with_reducible rfl) | (go_simp; try with_reducible rfl))); simp only [Act.put, List.setIfInBounds_toArray, List.set_cons_zero, List.set_cons_succ])
  refine Lk.ord_nil (NoPanic.normal ?_)
  go_wp2_with fail
  go_ret
  exact ⟨rfl, HV.out.old⟩

theorem away_no (l : Lg) (n : Int) (w : World) : Calls Tryd.prog 26 #[.agg (lc l), .bool false, .int .i64 n] w fun r w' => r = .returned (.bool false) ∧ Below w.heap.size w w' := by
  have HB : Hid (∀ n, Below w.heap.size w ((w.alloc (Obj.cells (lc l) 29 (0, 0))).drewN n)) := fun n => ((Hv.nil w).made (lo l)).old.trans ⟨rfl, rfl, rfl, Nat.le_refl _, fun _ _ => rfl⟩
  go_enter Tryd.func26, Tryd.ntmps26
  go_wp2_with fail
  go_quiet (fail)
  go_wp2_with fail
  go_ret
  exact ⟨rfl, HB.out _⟩

end Bw
end Go.Proofs.YtodilljomjhohaaDoor

/- What is so, as the closure of Next answers it, place by place. Printed by gen_so.py. -/
namespace Go.Proofs.YtodilljomjhohaaDoor
namespace Mw
open Go.RowKit TabC Lk Ew Hw Bw

/-- start's four, with what they answer as a letter. -/
theorem ready_v {e : Eg} {w : World} (hE : EngIn w e) {n : Int} {b : Bool} (h : Sb.ready (en e) n = b) {W : World} (hW : Below w.heap.size w W) : Calls Tryd.prog 24 #[.agg (ec e), .int .i64 n] W fun r w' => r = .returned (.bool b) ∧ Below W.heap.size W w' := by
  subst h; exact ready_c e n W (hE.below hW)
theorem away_v {l : Lg} {w : World} (hL : LawIn w l) {n : Int} {lit b : Bool} (h : Sb.away (la l) lit n = b) {W : World} (hW : Below w.heap.size w W) : Calls Tryd.prog 26 #[.agg (lc l), .bool lit, .int .i64 n] W fun r w' => r = .returned (.bool b) ∧ Below W.heap.size W w' := by
  subst h
  cases lit
  · exact away_no l n W
  · exact away_c l n W (hL.below hW)
theorem hot_v {l : Lg} {w : World} (hL : LawIn w l) {n : Int} {b : Bool} (h : Sb.hot (la l) n = b) {W : World} (hW : Below w.heap.size w W) : Calls Tryd.prog 25 #[.agg (lc l), .int .i64 n] W fun r w' => r = .returned (.bool b) ∧ Below W.heap.size W w' := by
  subst h; exact hot_c l n W (hL.below hW)
theorem hung_v {l : Lg} {w : World} (hL : LawIn w l) {n : Int} {b : Bool} (h : Sb.hung (la l) n = b) {W : World} (hW : Below w.heap.size w W) : Calls Tryd.prog 27 #[.agg (lc l), .int .i64 n] W fun r w' => r = .returned (.bool b) ∧ Below W.heap.size W w' := by
  subst h; exact hung_c l n W (hL.below hW)

/-- What the closure of Next holds. -/
abbrev cap (bs be bn bl bh bt bp : Nat) : Array Value := #[.pointer (some ⟨bs, 0, none⟩), .pointer (some ⟨be, 0, none⟩), .pointer (some ⟨bn, 0, none⟩), .pointer (some ⟨bl, 0, none⟩), .pointer (some ⟨bh, 0, none⟩), .pointer (some ⟨bt, 0, none⟩), .pointer (some ⟨bp, 0, none⟩)]


theorem so0 (bs be bn bl bh bt bp : Nat) (a b c d : Bool) (v : Int) (w : World) (hs : w.heap[bs]? = some (no ⟨a, b, c, d, v⟩)) : Calls Tryd.prog 23 #[.int .i64 0, .pointer (some ⟨bs, 0, none⟩), .pointer (some ⟨be, 0, none⟩), .pointer (some ⟨bn, 0, none⟩), .pointer (some ⟨bl, 0, none⟩), .pointer (some ⟨bh, 0, none⟩), .pointer (some ⟨bt, 0, none⟩), .pointer (some ⟨bp, 0, none⟩)] w fun r w' => r = .returned (.bool (a && b)) ∧ Below w.heap.size w w' := by
  have c0 := Joins.cell_of_block hs 0
  have c1 := Joins.cell_of_block hs 1
  simp only [List.getElem?_toArray, List.getElem?_cons_zero, List.getElem?_cons_succ] at c0 c1
  clear hs
  cases a
  all_goals
    go_enter Tryd.func23, Tryd.ntmps23
    go_wp2_with fail
    all_goals
      go_ret
      exact ⟨ret_bool (by simp), Below.refl _ _⟩

theorem so1 (bs be bn bl bh bt bp : Nat) (a b c d : Bool) (v : Int) (w : World) (hs : w.heap[bs]? = some (no ⟨a, b, c, d, v⟩)) : Calls Tryd.prog 23 #[.int .i64 1, .pointer (some ⟨bs, 0, none⟩), .pointer (some ⟨be, 0, none⟩), .pointer (some ⟨bn, 0, none⟩), .pointer (some ⟨bl, 0, none⟩), .pointer (some ⟨bh, 0, none⟩), .pointer (some ⟨bt, 0, none⟩), .pointer (some ⟨bp, 0, none⟩)] w fun r w' => r = .returned (.bool (c && !a)) ∧ Below w.heap.size w w' := by
  have c0 := Joins.cell_of_block hs 0
  have c2 := Joins.cell_of_block hs 2
  simp only [List.getElem?_toArray, List.getElem?_cons_zero, List.getElem?_cons_succ] at c0 c2
  clear hs
  cases c
  all_goals
    go_enter Tryd.func23, Tryd.ntmps23
    go_wp2_with fail
    all_goals
      go_ret
      exact ⟨ret_bool (by simp), Below.refl _ _⟩

theorem so2 (bs be bn bl bh bt bp : Nat) (a b c d : Bool) (v : Int) (w : World) (hs : w.heap[bs]? = some (no ⟨a, b, c, d, v⟩)) : Calls Tryd.prog 23 #[.int .i64 2, .pointer (some ⟨bs, 0, none⟩), .pointer (some ⟨be, 0, none⟩), .pointer (some ⟨bn, 0, none⟩), .pointer (some ⟨bl, 0, none⟩), .pointer (some ⟨bh, 0, none⟩), .pointer (some ⟨bt, 0, none⟩), .pointer (some ⟨bp, 0, none⟩)] w fun r w' => r = .returned (.bool (a || !c)) ∧ Below w.heap.size w w' := by
  have c0 := Joins.cell_of_block hs 0
  have c2 := Joins.cell_of_block hs 2
  simp only [List.getElem?_toArray, List.getElem?_cons_zero, List.getElem?_cons_succ] at c0 c2
  clear hs
  cases a
  all_goals
    go_enter Tryd.func23, Tryd.ntmps23
    go_wp2_with fail
    all_goals
      go_ret
      exact ⟨ret_bool (by simp), Below.refl _ _⟩

theorem so3 (bs be bn bl bh bt bp : Nat) (a b c d : Bool) (v : Int) (w : World) (hs : w.heap[bs]? = some (no ⟨a, b, c, d, v⟩)) : Calls Tryd.prog 23 #[.int .i64 3, .pointer (some ⟨bs, 0, none⟩), .pointer (some ⟨be, 0, none⟩), .pointer (some ⟨bn, 0, none⟩), .pointer (some ⟨bl, 0, none⟩), .pointer (some ⟨bh, 0, none⟩), .pointer (some ⟨bt, 0, none⟩), .pointer (some ⟨bp, 0, none⟩)] w fun r w' => r = .returned (.bool (!a)) ∧ Below w.heap.size w w' := by
  have c0 := Joins.cell_of_block hs 0
  simp only [List.getElem?_toArray, List.getElem?_cons_zero] at c0
  clear hs
  go_enter Tryd.func23, Tryd.ntmps23
  go_wp2_with fail
  all_goals
    go_ret
    exact ⟨rfl, Below.refl _ _⟩

theorem so8 (bs be bn bl bh bt bp : Nat) (lit : Bool) (w : World) (hs : w.heap[bt]? = some (bob lit)) : Calls Tryd.prog 23 #[.int .i64 8, .pointer (some ⟨bs, 0, none⟩), .pointer (some ⟨be, 0, none⟩), .pointer (some ⟨bn, 0, none⟩), .pointer (some ⟨bl, 0, none⟩), .pointer (some ⟨bh, 0, none⟩), .pointer (some ⟨bt, 0, none⟩), .pointer (some ⟨bp, 0, none⟩)] w fun r w' => r = .returned (.bool (!lit)) ∧ Below w.heap.size w w' := by
  have c0 := Joins.cell_of_block hs 0
  simp only [List.getElem?_toArray, List.getElem?_cons_zero] at c0
  clear hs
  go_enter Tryd.func23, Tryd.ntmps23
  go_wp2_with fail
  all_goals
    go_ret
    exact ⟨rfl, Below.refl _ _⟩

theorem so9 (bs be bn bl bh bt bp : Nat) (a b c d : Bool) (v : Int) (w : World) (hs : w.heap[bs]? = some (no ⟨a, b, c, d, v⟩)) : Calls Tryd.prog 23 #[.int .i64 9, .pointer (some ⟨bs, 0, none⟩), .pointer (some ⟨be, 0, none⟩), .pointer (some ⟨bn, 0, none⟩), .pointer (some ⟨bl, 0, none⟩), .pointer (some ⟨bh, 0, none⟩), .pointer (some ⟨bt, 0, none⟩), .pointer (some ⟨bp, 0, none⟩)] w fun r w' => r = .returned (.bool (decide (50 ≤ v))) ∧ Below w.heap.size w w' := by
  have c4 := Joins.cell_of_block hs 4
  simp only [List.getElem?_toArray, List.getElem?_cons_zero, List.getElem?_cons_succ] at c4
  clear hs
  go_enter Tryd.func23, Tryd.ntmps23
  go_wp2_with fail
  all_goals
    go_ret
    exact ⟨rfl, Below.refl _ _⟩

theorem so10 (bs be bn bl bh bt bp : Nat) (a b c d : Bool) (v : Int) (w : World) (hs : w.heap[bs]? = some (no ⟨a, b, c, d, v⟩)) : Calls Tryd.prog 23 #[.int .i64 10, .pointer (some ⟨bs, 0, none⟩), .pointer (some ⟨be, 0, none⟩), .pointer (some ⟨bn, 0, none⟩), .pointer (some ⟨bl, 0, none⟩), .pointer (some ⟨bh, 0, none⟩), .pointer (some ⟨bt, 0, none⟩), .pointer (some ⟨bp, 0, none⟩)] w fun r w' => r = .returned (.bool (decide (v < 50))) ∧ Below w.heap.size w w' := by
  have c4 := Joins.cell_of_block hs 4
  simp only [List.getElem?_toArray, List.getElem?_cons_zero, List.getElem?_cons_succ] at c4
  clear hs
  go_enter Tryd.func23, Tryd.ntmps23
  go_wp2_with fail
  all_goals
    go_ret
    exact ⟨rfl, Below.refl _ _⟩

theorem so4 (bs be bn bl bh bt bp : Nat) (e : Eg) (n : Int) (b : Bool) (w : World) (he : w.heap[be]? = some (eo e)) (hn : w.heap[bn]? = some (nob n))
    (C : ∀ W, Below w.heap.size w W → Calls Tryd.prog 24 #[.agg (ec e), .int .i64 n] W fun r w' => r = .returned (.bool b) ∧ Below W.heap.size W w') : Calls Tryd.prog 23 #[.int .i64 4, .pointer (some ⟨bs, 0, none⟩), .pointer (some ⟨be, 0, none⟩), .pointer (some ⟨bn, 0, none⟩), .pointer (some ⟨bl, 0, none⟩), .pointer (some ⟨bh, 0, none⟩), .pointer (some ⟨bt, 0, none⟩), .pointer (some ⟨bp, 0, none⟩)] w fun r w' => r = .returned (.bool b) ∧ Below w.heap.size w w' := by
  have HV := Lib.hid ((Hv.nil w).add (be, eo e) he)
  replace C := Lib.hid C
  have c0 := Joins.cell_of_block hn 0
  simp only [List.getElem?_toArray, List.getElem?_cons_zero] at c0
  clear hn
  clear he
  go_enter Tryd.func23, Tryd.ntmps23
  go_wp2_with (first | (refine lde rfl _ rfl _ _ rfl HV.out.head ?_) | (go_at_call 24; (with_reducible refine (C.out _ HV.out.old).mono ?_); rintro r W ⟨rfl, hb⟩; replace HV := Lib.hid (HV.out.grow hb); clear hb) | fail)
  go_ret
  exact ⟨rfl, HV.out.old⟩

theorem so5 (bs be bn bl bh bt bp : Nat) (l : Lg) (n : Int) (b : Bool) (w : World) (he : w.heap[bl]? = some (lo l)) (hn : w.heap[bh]? = some (nob n))
    (C : ∀ W, Below w.heap.size w W → Calls Tryd.prog 25 #[.agg (lc l), .int .i64 n] W fun r w' => r = .returned (.bool b) ∧ Below W.heap.size W w') : Calls Tryd.prog 23 #[.int .i64 5, .pointer (some ⟨bs, 0, none⟩), .pointer (some ⟨be, 0, none⟩), .pointer (some ⟨bn, 0, none⟩), .pointer (some ⟨bl, 0, none⟩), .pointer (some ⟨bh, 0, none⟩), .pointer (some ⟨bt, 0, none⟩), .pointer (some ⟨bp, 0, none⟩)] w fun r w' => r = .returned (.bool b) ∧ Below w.heap.size w w' := by
  have HV := Lib.hid ((Hv.nil w).add (bl, lo l) he)
  replace C := Lib.hid C
  have c0 := Joins.cell_of_block hn 0
  simp only [List.getElem?_toArray, List.getElem?_cons_zero] at c0
  clear hn
  clear he
  go_enter Tryd.func23, Tryd.ntmps23
  go_wp2_with (first | (refine ldl rfl _ rfl _ _ rfl HV.out.head ?_) | (go_at_call 25; (with_reducible refine (C.out _ HV.out.old).mono ?_); rintro r W ⟨rfl, hb⟩; replace HV := Lib.hid (HV.out.grow hb); clear hb) | fail)
  go_ret
  exact ⟨rfl, HV.out.old⟩

theorem so6 (bs be bn bl bh bt bp : Nat) (l : Lg) (lit : Bool) (n : Int) (b : Bool) (w : World) (he : w.heap[bl]? = some (lo l)) (hn : w.heap[bn]? = some (nob n)) (ht : w.heap[bt]? = some (bob lit))
    (C : ∀ W, Below w.heap.size w W → Calls Tryd.prog 26 #[.agg (lc l), .bool lit, .int .i64 n] W fun r w' => r = .returned (.bool b) ∧ Below W.heap.size W w') : Calls Tryd.prog 23 #[.int .i64 6, .pointer (some ⟨bs, 0, none⟩), .pointer (some ⟨be, 0, none⟩), .pointer (some ⟨bn, 0, none⟩), .pointer (some ⟨bl, 0, none⟩), .pointer (some ⟨bh, 0, none⟩), .pointer (some ⟨bt, 0, none⟩), .pointer (some ⟨bp, 0, none⟩)] w fun r w' => r = .returned (.bool b) ∧ Below w.heap.size w w' := by
  have HV := Lib.hid ((Hv.nil w).add (bl, lo l) he)
  replace C := Lib.hid C
  have c0 := Joins.cell_of_block hn 0
  have c1 := Joins.cell_of_block ht 0
  simp only [List.getElem?_toArray, List.getElem?_cons_zero] at c0 c1
  clear hn ht
  clear he
  go_enter Tryd.func23, Tryd.ntmps23
  go_wp2_with (first | (refine ldl rfl _ rfl _ _ rfl HV.out.head ?_) | (go_at_call 26; (with_reducible refine (C.out _ HV.out.old).mono ?_); rintro r W ⟨rfl, hb⟩; replace HV := Lib.hid (HV.out.grow hb); clear hb) | fail)
  go_ret
  exact ⟨rfl, HV.out.old⟩

theorem so7 (bs be bn bl bh bt bp : Nat) (l : Lg) (m n : Int) (b : Bool) (w : World) (he : w.heap[bl]? = some (lo l)) (hn : w.heap[bp]? = some (po m n))
    (C : ∀ W, Below w.heap.size w W → Calls Tryd.prog 27 #[.agg (lc l), .int .i64 n] W fun r w' => r = .returned (.bool b) ∧ Below W.heap.size W w') : Calls Tryd.prog 23 #[.int .i64 7, .pointer (some ⟨bs, 0, none⟩), .pointer (some ⟨be, 0, none⟩), .pointer (some ⟨bn, 0, none⟩), .pointer (some ⟨bl, 0, none⟩), .pointer (some ⟨bh, 0, none⟩), .pointer (some ⟨bt, 0, none⟩), .pointer (some ⟨bp, 0, none⟩)] w fun r w' => r = .returned (.bool b) ∧ Below w.heap.size w w' := by
  have HV := Lib.hid ((Hv.nil w).add (bl, lo l) he)
  replace C := Lib.hid C
  have c0 := Joins.cell_of_block hn 1
  simp only [List.getElem?_toArray, List.getElem?_cons_zero, List.getElem?_cons_succ] at c0
  clear hn
  clear he
  go_enter Tryd.func23, Tryd.ntmps23
  go_wp2_with (first | (refine ldl rfl _ rfl _ _ rfl HV.out.head ?_) | (go_at_call 27; (with_reducible refine (C.out _ HV.out.old).mono ?_); rintro r W ⟨rfl, hb⟩; replace HV := Lib.hid (HV.out.grow hb); clear hb) | fail)
  go_ret
  exact ⟨rfl, HV.out.old⟩

theorem so11 (bs be bn bl bh bt bp : Nat) (a b c d : Bool) (v : Int) (e : Eg) (n : Int) (k : Bool) (w : World) (hs : w.heap[bs]? = some (no ⟨a, b, c, d, v⟩)) (he : w.heap[be]? = some (eo e)) (hn : w.heap[bn]? = some (nob n))
    (C : ∀ W, Below w.heap.size w W → Calls Tryd.prog 24 #[.agg (ec e), .int .i64 n] W fun r w' => r = .returned (.bool k) ∧ Below W.heap.size W w') : Calls Tryd.prog 23 #[.int .i64 11, .pointer (some ⟨bs, 0, none⟩), .pointer (some ⟨be, 0, none⟩), .pointer (some ⟨bn, 0, none⟩), .pointer (some ⟨bl, 0, none⟩), .pointer (some ⟨bh, 0, none⟩), .pointer (some ⟨bt, 0, none⟩), .pointer (some ⟨bp, 0, none⟩)] w fun r w' => r = .returned (.bool (!a && !k)) ∧ Below w.heap.size w w' := by
  have HV := Lib.hid ((Hv.nil w).add (be, eo e) he)
  replace C := Lib.hid C
  have c0 := Joins.cell_of_block hs 0
  have c1 := Joins.cell_of_block hn 0
  simp only [List.getElem?_toArray, List.getElem?_cons_zero] at c0 c1
  clear hs hn
  clear he
  cases a
  · go_enter Tryd.func23, Tryd.ntmps23
    go_wp2_with (first | (refine lde rfl _ rfl _ _ rfl HV.out.head ?_) | (go_at_call 24; (with_reducible refine (C.out _ HV.out.old).mono ?_); rintro r W ⟨rfl, hb⟩; replace HV := Lib.hid (HV.out.grow hb); clear hb) | fail)
    go_ret
    exact ⟨ret_bool (by simp), HV.out.old⟩
  · go_enter Tryd.func23, Tryd.ntmps23
    go_wp2_with fail
    go_ret
    exact ⟨ret_bool (by simp), HV.out.old⟩

/-- All of them. -/
theorem so_c (e : Eg) (l : Lg) (m c : Int) (s : Mm.Pan) (lit : Bool) (n h : Int) (w : World) (hE : EngIn w e) (hL : LawIn w l) (bs be bn bl bh bt bp : Nat) (W : World) (hb : Below w.heap.size w W)
    (gs : W.heap[bs]? = some (no s)) (ge : W.heap[be]? = some (eo e)) (gn : W.heap[bn]? = some (nob n)) (gl : W.heap[bl]? = some (lo l)) (gh : W.heap[bh]? = some (nob h)) (gt : W.heap[bt]? = some (bob lit)) (gp : W.heap[bp]? = some (po m c)) (k : Nat) (hk : k < 12) :
    Calls Tryd.prog 23 #[.int .i64 k, .pointer (some ⟨bs, 0, none⟩), .pointer (some ⟨be, 0, none⟩), .pointer (some ⟨bn, 0, none⟩), .pointer (some ⟨bl, 0, none⟩), .pointer (some ⟨bh, 0, none⟩), .pointer (some ⟨bt, 0, none⟩), .pointer (some ⟨bp, 0, none⟩)] W fun r w' => r = .returned (.bool (Mm.so (see e l c s lit n h) k)) ∧ Below W.heap.size W w' := by
  have hE' := hE.below hb
  have hL' := hL.below hb
  obtain ⟨a1, a2, a3, a4, a5⟩ := s
  obtain rfl | rfl | rfl | rfl | rfl | rfl | rfl | rfl | rfl | rfl | rfl | rfl : k = 0 ∨ k = 1 ∨ k = 2 ∨ k = 3 ∨ k = 4 ∨ k = 5 ∨ k = 6 ∨ k = 7 ∨ k = 8 ∨ k = 9 ∨ k = 10 ∨ k = 11 := by omega
  · exact so0 _ _ _ _ _ _ _ _ _ _ _ _ _ gs
  · exact so1 _ _ _ _ _ _ _ _ _ _ _ _ _ gs
  · exact so2 _ _ _ _ _ _ _ _ _ _ _ _ _ gs
  · exact so3 _ _ _ _ _ _ _ _ _ _ _ _ _ gs
  · exact so4 _ _ _ _ _ _ _ e n _ _ ge gn (fun V hV => ready_v hE' rfl hV)
  · exact so5 _ _ _ _ _ _ _ l h _ _ gl gh (fun V hV => hot_v hL' rfl hV)
  · exact so6 _ _ _ _ _ _ _ l lit n _ _ gl gn gt (fun V hV => away_v hL' rfl hV)
  · exact so7 _ _ _ _ _ _ _ l m c _ _ gl gp (fun V hV => hung_v hL' rfl hV)
  · exact so8 _ _ _ _ _ _ _ _ _ gt
  · exact so9 _ _ _ _ _ _ _ _ _ _ _ _ _ gs
  · exact so10 _ _ _ _ _ _ _ _ _ _ _ _ _ gs
  · exact so11 _ _ _ _ _ _ _ _ _ _ _ _ e n _ _ gs ge gn (fun V hV => ready_v hE' rfl hV)
end Mw
end Go.Proofs.YtodilljomjhohaaDoor

/- What the package answers: exists, longer, Burns, turns, Orders, Allowed, Next. -/
namespace Go.Proofs.YtodilljomjhohaaDoor
namespace Mw
open Go.RowKit TabC Lk Ew Hw Bw

theorem exist_c (m : Int) (w : World) : Calls Tryd.prog 22 #[.int .i64 m] w fun r w' => r = .returned (.bool (Mm.exist m)) ∧ w' = w := by
  unfold Mm.exist
  cases h : decide (0 ≤ m)
  all_goals
    go_enter Tryd.func22, Tryd.ntmps22
    go_wp2
    go_ret
    exact ⟨ret_bool (by simp), rfl⟩
theorem exist_v {m : Int} {b : Bool} (h : Mm.exist m = b) (w : World) : Calls Tryd.prog 22 #[.int .i64 m] w fun r w' => r = .returned (.bool b) ∧ w' = w := h ▸ exist_c m w

theorem longer_c (c : Int) (w : World) : Calls Tryd.prog 28 #[.int .i64 c] w fun r w' => r = .returned (.int .i64 (Mm.longer c)) ∧ w' = w := by
  unfold Mm.longer
  obtain ⟨x, hx⟩ : ∃ x, max c 0 = x := ⟨_, rfl⟩
  obtain ⟨y, hy⟩ : ∃ y, min x 1073741823 = y := ⟨_, rfl⟩
  have h1 : 0 ≤ y := by omega
  have h2 : y ≤ 1073741823 := by omega
  rw [hx, hy]
  go_enter Tryd.func28, Tryd.ntmps28
  go_wp2
  go_ret
  exact ⟨rfl, rfl⟩

theorem burns_c (m : Int) (w : World) : Calls Tryd.prog 16 #[.int .i64 m] w fun r w' => r = .returned (.bool (Mm.burns m)) ∧ w' = w := by
  unfold Mm.burns
  by_cases h4 : m = 4
  · subst h4
    go_enter Tryd.func16, Tryd.ntmps16
    go_wp2
    go_ret
    exact ⟨rfl, rfl⟩
  · have k4 : (m == 4) = false := by simp [h4]
    have EQ : Hid ((m == 5) = (decide (m = 4) || decide (m = 5))) := by show _ = _; by_cases h5 : m = 5 <;> simp [h4, h5]
    clear h4
    go_enter Tryd.func16, Tryd.ntmps16
    go_wp2
    go_ret
    exact ⟨ret_bool EQ.out, rfl⟩

/-- Whether the starter is ordered. -/
theorem turns_c (e : Eg) (m n : Int) (b : Bool) (w : World) (C : ∀ W, Below w.heap.size w W → Calls Tryd.prog 24 #[.agg (ec e), .int .i64 n] W fun r w' => r = .returned (.bool b) ∧ Below W.heap.size W w') :
    Calls Tryd.prog 30 #[.agg (ec e), .int .i64 m, .int .i64 n] w fun r w' => r = .returned (.bool (Mm.starter b m)) ∧ Below w.heap.size w w' := by
  have HV := Lib.hid ((Hv.nil w).made (eo e))
  replace C := Lib.hid C
  by_cases h7 : m = 7
  · subst h7
    go_enter Tryd.func30, Tryd.ntmps30
    go_wp2_with (first | (refine lde rfl _ rfl _ _ rfl HV.out.head ?_) | (go_at_call 24; (with_reducible refine (C.out _ HV.out.old).mono ?_); rintro r W ⟨rfl, hb⟩; replace HV := Lib.hid (HV.out.grow hb); clear hb) | fail)
    go_ret
    exact ⟨ret_bool (by cases b <;> rfl), HV.out.old⟩
  · by_cases h : m = 1 ∨ m = 2 ∨ m = 3
    · rcases h with rfl | rfl | rfl
      all_goals
        go_enter Tryd.func30, Tryd.ntmps30
        go_wp2_with fail
        go_ret
        exact ⟨ret_bool (by cases b <;> rfl), HV.out.old⟩
    · have k1 : (m == 1) = false := by simp; omega
      have k2 : (m == 2) = false := by simp; omega
      have k3 : (m == 3) = false := by simp; omega
      have k7 : (m == 7) = false := by simp; omega
      have EQ : Hid (Mm.starter b m = false) := by show _ = _; simp [Mm.starter]; omega
      clear h h7
      go_enter Tryd.func30, Tryd.ntmps30
      go_wp2_with fail
      go_ret
      exact ⟨ret_bool EQ.out.symm, HV.out.old⟩

theorem stx {ops : Array Oper} {rest : List Oper} {op : Oper} {a : Act} {w : World} {Q : Exit → Act → World → Prop} (hgd : op.guard = none) (x y : Operand) (ho : op.op = .store 4 x y) (hd : op.dst = none)
    (g i : Nat) (p q r s u b p' q' r' s' : Bool) (hx : a.eval x = .pointer (some ⟨g, i, none⟩)) (hy : a.eval y = .bool b) (hP : w.heap[g]? = some (oo p q r s)) (hc : (od p q r s)[i]? = some (.bool u)) (hq : (od p q r s).setIfInBounds i (.bool b) = od p' q' r' s')
    (h : ∀ w', w'.heap[g]? = some (oo p' q' r' s') → Off g w w' → wpList Tryd.prog ops Q rest a w') : wpList Tryd.prog ops Q (op :: rest) a w := by
  have c : w.cell? ⟨g, i, none⟩ = some (.bool u) := (Joins.cell_of_block hP i).trans hc
  have f := Joins.unfrozen_of_block hP i
  refine wpList_plain hgd fun _ hK => ?_
  have hB := Joins.block_setCell hP (i := i) (.bool b)
  rw [hq] at hB
  have H := hK _ _ (h _ hB ((Off.refl g w).set i (.bool b)))
  unfold Oper.wp execOp
  simp only [ho, hx, hy, Instr.storeAt, Instr.sureAddr, Sem.run_bind, Sem.run_pure, Result.andThen_ok]
  simp [go_sem, c, f, hd]
  exact H

/-- What an Orders lays for itself: its engine, and a result. -/
theorem two_o (w : World) (e : Eg) : Hv w ((w.alloc (eo e)).alloc (oo false false false false)) [(w.heap.size + 1, oo false false false false), (w.heap.size, eo e)] := by
  have := ((Hv.nil w).made (eo e)).made (oo false false false false)
  simpa only [World.size_alloc] using this

set_option maxHeartbeats 4000000 in
theorem orders_c (e : Eg) (m n : Int) (b : Bool) (w : World) (C : ∀ W, Below w.heap.size w W → Calls Tryd.prog 24 #[.agg (ec e), .int .i64 n] W fun r w' => r = .returned (.bool b) ∧ Below W.heap.size W w') :
    Calls Tryd.prog 14 #[.agg (ec e), .int .i64 m, .int .i64 n] w fun r w' => r = .returned (.agg (od (Mm.starter b m) (Mm.spark m) (Mm.opn m) (Mm.opn m))) ∧ Below w.heap.size w w' := by
  have HV := Lib.hid (two_o w e)
  have D := Lib.hid (fun W (hW : Below w.heap.size w W) => turns_c e m n b W (fun V hV => C V (hW.trans (hV.mono hW.size))))
  clear C
  obtain ⟨q, hq⟩ : ∃ q, Mm.starter b m = q := ⟨_, rfl⟩
  rw [hq] at D ⊢
  clear hq
  by_cases h : m = 3 ∨ m = 7
  · rcases h with rfl | rfl
    all_goals
      go_enter Tryd.func14, Tryd.ntmps14
      go_wp2_with (first | (refine lde rfl _ rfl _ _ rfl HV.out.h2 ?_) | (refine sto rfl _ _ rfl rfl _ false false false false _ _ _ _ rfl rfl (HV.out.alloc _).head ?_; intro w' hP hO; replace HV := Lib.hid (HV.out.alloc (oo q true true true)).old; replace HV := Lib.hid (HV.out.trans (hO.below (by omega))); replace hP := Lib.hid hP; clear hO) | (go_at_call 30; (with_reducible refine (D.out _ HV.out.old).mono ?_); rintro r W ⟨rfl, hb⟩; replace HV := Lib.hid (HV.out.grow hb); clear hb) | fail)
      refine bodyPost_ret (res_o rfl _ _ _ _ _ _ _ rfl hP.out) rfl ?_
      exact ⟨rfl, HV.out⟩
  · by_cases h' : m = 4 ∨ m = 5
    · clear h
      rcases h' with rfl | rfl
      all_goals
        go_enter Tryd.func14, Tryd.ntmps14
        go_wp2_with (first | (refine lde rfl _ rfl _ _ rfl HV.out.h2 ?_) | (refine sto rfl _ _ rfl rfl _ false false false false _ _ _ _ rfl rfl (HV.out.alloc _).head ?_; intro w' hP hO; replace HV := Lib.hid (HV.out.alloc (oo q false true true)).old; replace HV := Lib.hid (HV.out.trans (hO.below (by omega))); replace hP := Lib.hid hP; clear hO) | (go_at_call 30; (with_reducible refine (D.out _ HV.out.old).mono ?_); rintro r W ⟨rfl, hb⟩; replace HV := Lib.hid (HV.out.grow hb); clear hb) | fail)
        refine bodyPost_ret (res_o rfl _ _ _ _ _ _ _ rfl hP.out) rfl ?_
        exact ⟨rfl, HV.out⟩
    · have k3 : (m == 3) = false := by simp; omega
      have k7 : (m == 7) = false := by simp; omega
      have k4 : (m == 4) = false := by simp; omega
      have k5 : (m == 5) = false := by simp; omega
      have EQ : Hid (Mm.spark m = false ∧ Mm.opn m = false) := by
        show _ ∧ _
        simp [Mm.spark, Mm.opn]; omega
      clear h h'
      go_enter Tryd.func14, Tryd.ntmps14
      go_wp2_with (first | (refine lde rfl _ rfl _ _ rfl HV.out.h2 ?_) | (refine sto rfl _ _ rfl rfl _ false false false false _ _ _ _ rfl rfl (HV.out.alloc _).head ?_; intro w' hP hO; replace HV := Lib.hid (HV.out.alloc (oo q false false false)).old; replace HV := Lib.hid (HV.out.trans (hO.below (by omega))); replace hP := Lib.hid hP; clear hO) | (go_at_call 30; (with_reducible refine (D.out _ HV.out.old).mono ?_); rintro r W ⟨rfl, hb⟩; replace HV := Lib.hid (HV.out.grow hb); clear hb) | fail)
      refine bodyPost_ret (res_o rfl _ _ _ _ _ _ _ rfl hP.out) rfl ?_
      rw [EQ.out.1, EQ.out.2]
      exact ⟨rfl, HV.out⟩
end Mw
end Go.Proofs.YtodilljomjhohaaDoor

/- The phase behind a frame; which mode may follow which. -/
namespace Go.Proofs.YtodilljomjhohaaDoor
namespace Mw
open Go.RowKit TabC Lk Ew Hw Bw

abbrev cl (N : Nat) : Value := .func (.func 23) #[] #[.pointer (some ⟨N + 1 + 1 + 1, 0, none⟩), .pointer (some ⟨N, 0, none⟩), .pointer (some ⟨N + 1 + 1 + 1 + 1 + 1, 0, none⟩), .pointer (some ⟨N + 1, 0, none⟩), .pointer (some ⟨N + 1 + 1 + 1 + 1 + 1 + 1, 0, none⟩), .pointer (some ⟨N + 1 + 1 + 1 + 1, 0, none⟩), .pointer (some ⟨N + 1 + 1, 0, none⟩)]

section
variable {ops : Array Oper} {rest : List Oper} {op : Oper} {a : Act} {w : World} {Q : Exit → Act → World → Prop}
/-- A row, its three numbers as letters. -/
theorem ixL {R : Value} (hR : Value.agg rc = R) {k : Nat} (hk : k < 22) {f v u : Int} (hf : ((Mm.row k).f : Int) = f ∧ ((Mm.row k).w : Int) = v ∧ ((Mm.row k).t : Int) = u) (hw : Region.wanted op (yielded ops a.tmps) = true) (x y : Operand) (ho : op.op = .index 58 x y) (hx : a.eval x = R) (hy : a.eval y = .int .i64 k)
    (c : wpList Tryd.prog ops Q rest (a.put op.dst (.agg #[.int .i64 f, .int .i64 v, .int .i64 u])) w) : wpList Tryd.prog ops Q (op :: rest) a w := by
  obtain ⟨rfl, rfl, rfl⟩ := hf
  exact ixR hR hw x y ho hx k hk hy c
end
abbrev rb (f v u : Int) : Obj := .cells #[.int .i64 f, .int .i64 v, .int .i64 u] 57 (0, 0)

/-- The blocks of a Next. -/
abbrev LL (N : Nat) (t : TypeId) (e : Eg) (l : Lg) (m c : Int) (s : Mm.Pan) (lit : Bool) (n k : Int) : List (Nat × Obj) := [(N + 1 + 1 + 1 + 1 + 1 + 1 + 1, po 0 0), (N + 1 + 1 + 1 + 1 + 1 + 1, nob k), (N + 1 + 1 + 1 + 1 + 1, nob n), (N + 1 + 1 + 1 + 1, bob lit), (N + 1 + 1 + 1, no s), (N + 1 + 1, po m c), (N + 1, lo l), (N, eo e), (0, .cells rc t (0, 0))]

/-- The cells of a phase. -/
abbrev PFld (b : Nat) (m c : Int) (V : World) : Prop := V.cell? ⟨b, 0, none⟩ = some (.int .i64 m) ∧ V.cell? ⟨b, 1, none⟩ = some (.int .i64 c)
theorem pfld {V : World} {b : Nat} {m c : Int} (h : V.heap[b]? = some (po m c)) : PFld b m c V := ⟨Joins.cell_of_block h 0, Joins.cell_of_block h 1⟩
theorem ord_end : Lk.orderedB (Lk.opsOf Tryd.f12 10) [(0, false), (1, false), (2, false), (3, false), (4, true), (5, false), (6, true)] = true := by kernel_rfl

/-- A closure's answer over these. -/
theorem so_l {e : Eg} {l : Lg} {m c : Int} {s : Mm.Pan} {lit : Bool} {n h : Int} {t : TypeId} {w : World} (hE : EngIn w e) (hL : LawIn w l) {W : World} (HW : Hv w W (LL w.heap.size t e l m c s lit n h)) {k : Nat} (hk : k < 12) {v : Int} (hv : (k : Int) = v) {b : Bool} (hb : Mm.so (see e l c s lit n h) k = b) :
    Calls Tryd.prog 23 #[.int .i64 v, .pointer (some ⟨w.heap.size + 1 + 1 + 1, 0, none⟩), .pointer (some ⟨w.heap.size, 0, none⟩), .pointer (some ⟨w.heap.size + 1 + 1 + 1 + 1 + 1, 0, none⟩), .pointer (some ⟨w.heap.size + 1, 0, none⟩), .pointer (some ⟨w.heap.size + 1 + 1 + 1 + 1 + 1 + 1, 0, none⟩), .pointer (some ⟨w.heap.size + 1 + 1 + 1 + 1, 0, none⟩), .pointer (some ⟨w.heap.size + 1 + 1, 0, none⟩)] W fun r w' => r = .returned (.bool b) ∧ Below W.heap.size W w' := by
  subst hv; subst hb
  exact so_c e l m c s lit n h w hE hL _ _ _ _ _ _ _ W HW.old HW.tail.tail.tail.tail.head HW.tail.tail.tail.tail.tail.tail.tail.head HW.tail.tail.head HW.tail.tail.tail.tail.tail.tail.head HW.tail.head HW.tail.tail.tail.head HW.tail.tail.tail.tail.tail.head k hk

set_option maxRecDepth 100000 in
set_option maxHeartbeats 4000000 in
theorem next_c (e : Eg) (l : Lg) (m c : Int) (s : Mm.Pan) (lit : Bool) (n h : Int) (t : TypeId) (w : World) (hE : EngIn w e) (hL : LawIn w l) (hR : w.heap[0]? = some (.cells rc t (0, 0))) :
    Calls Tryd.prog 12 #[.agg (ec e), .agg (lc l), .agg (ph m c), .agg (pn s), .bool lit, .int .i64 n, .int .i64 h] w fun r w' => r = .returned (.agg (ph (Mm.nm (see e l c s lit n h) m) (Mm.nc (see e l c s lit n h) m c))) ∧ Below w.heap.size w w' := by
  have HV := Lib.hid (eight hR e l m c s lit n h)
  have hN : 0 < w.heap.size := (Array.getElem?_eq_some_iff.1 hR).1
  cases hx : Mm.exist m with
  | false =>
    have CE := Lib.hid (exist_v hx)
    have EQ := Lib.hid (Mm.next_out (z := see e l c s lit n h) hx c)
    clear hE hL hx
    generalize Mm.nm (see e l c s lit n h) m = q1 at *
    generalize Mm.nc (see e l c s lit n h) m c = q2 at *
    obtain ⟨rfl, rfl⟩ := EQ.out
    have c0 := Joins.cell_of_block HV.out.tail.tail.tail.tail.tail.head 0
    simp only [List.getElem?_toArray, List.getElem?_cons_zero] at c0
    go_enter Tryd.func12, Tryd.ntmps12
    go_wp2_with (first | (refine stp rfl _ _ rfl rfl _ 0 0 _ _ rfl rfl HV.out.head ?_; intro w' hP hO; replace HV := Lib.hid (HV.out.old.trans (hO.below (by omega))); replace hP := Lib.hid hP; clear hO) | (go_at_call 22; (with_reducible refine (CE.out _).mono ?_); rintro r W ⟨rfl, rfl⟩) | fail)
    refine bodyPost_ret (res_p rfl _ _ _ _ _ rfl hP.out) rfl ?_
    exact ⟨rfl, HV.out⟩
  | true =>
    have CE := Lib.hid (exist_v hx)
    have CL := Lib.hid (longer_c c)
    have SO := Lib.hid (fun (k : Nat) (hk : k < 12) (v : Int) (hv : (k : Int) = v) (b : Bool) (hb : Mm.so (see e l c s lit n h) k = b) (W : World) (HW : Hv w W (LL w.heap.size t e l m c s lit n h)) => so_l hE hL HW hk hv hb)
    obtain ⟨H, hH⟩ : ∃ H, Mm.hit (see e l c s lit n h) m Mm.rows = H := ⟨_, rfl⟩
    have EN : Hid (H = none → Mm.nm (see e l c s lit n h) m = m ∧ Mm.nc (see e l c s lit n h) m c = Mm.longer c) := fun q => Mm.next_none hx (hH.trans q) c
    have ES : Hid (∀ u : Nat, H = some u → Mm.nm (see e l c s lit n h) m = u ∧ Mm.nc (see e l c s lit n h) m c = 0) := fun u q => Mm.next_some hx (hH.trans q) c
    generalize Mm.nm (see e l c s lit n h) m = q1 at *
    generalize Mm.nc (see e l c s lit n h) m c = q2 at *
    generalize hlo : Mm.longer c = lo at *
    clear hlo hE hL hx
    generalize see e l c s lit n h = z at *
    replace hH := Lib.hid hH
    have c0 := Joins.cell_of_block HV.out.tail.tail.tail.tail.tail.head 0
    have c1 := Joins.cell_of_block HV.out.tail.tail.tail.tail.tail.head 1
    simp only [List.getElem?_toArray, List.getElem?_cons_zero, List.getElem?_cons_succ] at c0 c1
    go_enter Tryd.func12, Tryd.ntmps12
    generalize hRC : Value.agg rc = RC at *
    go_wp2_with (first | (refine ldR hRC rfl _ rfl rfl t HV.out.tail.tail.tail.tail.tail.tail.tail.tail.head ?_) | (go_at_call 22; (with_reducible refine (CE.out _).mono ?_); rintro r W ⟨rfl, rfl⟩) | fail)
    go_loopw [25] (fun i wr => ∃ k : Nat, k ≤ 22 ∧ i = .int .i64 k ∧ Mm.hit z m (Mm.rows.drop k) = H ∧ Hv w wr (LL w.heap.size t e l m c s lit n h)) (fun i _ => 22 - (intOf i).toNat)
    case atStart => exact ⟨0, by decide, rfl, hH.out, HV.out⟩
    case round =>
      clear HV c0 c1 hH
      obtain ⟨k, hk, rfl, hh, hv⟩ := hrel
      have HV := Lib.hid hv
      clear hv
      have c0 := Joins.cell_of_block HV.out.tail.tail.tail.tail.tail.head 0
      have c1 := Joins.cell_of_block HV.out.tail.tail.tail.tail.tail.head 1
      simp only [List.getElem?_toArray, List.getElem?_cons_zero, List.getElem?_cons_succ] at c0 c1
      rcases Nat.lt_or_ge k 22 with hk2 | hk2
      · have hd := Mm.hit_drop z m hk2
        rw [hh] at hd
        have hw := Mm.when_lt hk2
        obtain ⟨f, hf⟩ : ∃ f : Int, ((Mm.row k).f : Int) = f := ⟨_, rfl⟩
        obtain ⟨v, hv⟩ : ∃ v : Int, ((Mm.row k).w : Int) = v := ⟨_, rfl⟩
        obtain ⟨u, hu⟩ : ∃ u : Int, ((Mm.row k).t : Int) = u := ⟨_, rfl⟩
        obtain ⟨b, hb⟩ : ∃ b, Mm.so z (Mm.row k).w = b := ⟨_, rfl⟩
        have SK := Lib.hid (fun W HW => SO.out _ hw v hv b hb W HW)
        have HR := Lib.hid (And.intro hf (And.intro hv hu))
        rw [hf, hb] at hd
        replace hh := Lib.hid hh
        replace ES : Hid (H = some (Mm.row k).t → q1 = u ∧ q2 = 0) := fun q => by rw [← hu]; exact ES.out _ q
        clear hf hv hu hb hw SO c0 c1
        have c0 : (wr.alloc (.cells #[.int .i64 f, .int .i64 v, .int .i64 u] 57 (0, 0))).cell? ⟨w.heap.size + 1 + 1, 0, none⟩ = some (.int .i64 m) := Joins.cell_of_block (HV.out.alloc (rb f v u)).tail.tail.tail.tail.tail.head 0
        cases hfm : (f == m) with
        | false =>
          have HD : Hid (Mm.hit z m (Mm.rows.drop (k + 1)) = H) := by
            show _ = _
            rw [hd, if_neg (by simp at hfm; simp [hfm])]
          clear hd
          go_wp2_with (first | (refine ixL hRC hk2 HR.out rfl _ _ rfl rfl rfl ?_) | fail)
          go_roundw
          case rel => exact ⟨k + 1, hk2, by go_num, HD.out, HV.out.alloc _⟩
          case measure => simp only [intOf, Int.toNat_natCast]; omega
        | true =>
          cases b with
          | false =>
            have HD : Hid (Mm.hit z m (Mm.rows.drop (k + 1)) = H) := by
              show _ = _
              rw [hd, if_neg (by simp)]
            clear hd
            go_wp2_with (first | (refine ixL hRC hk2 HR.out rfl _ _ rfl rfl rfl ?_) | (go_at_call 23; (with_reducible refine (SK.out _ (HV.out.alloc _)).mono ?_); rintro r W ⟨rfl, hb⟩; replace HV := Lib.hid ((HV.out.alloc (rb f v u)).grow hb); clear hb) | fail)
            go_roundw
            case rel => exact ⟨k + 1, hk2, by go_num, HD.out, HV.out⟩
            case measure => simp only [intOf, Int.toNat_natCast]; omega
          | true =>
            have HD : Hid (q1 = u ∧ q2 = 0) := ES.out (by rw [hd, if_pos (by simp at hfm; simp [hfm])])
            clear hd
            go_wp2_with (first | (refine ixL hRC hk2 HR.out rfl _ _ rfl rfl rfl ?_) | (refine stp rfl _ _ rfl rfl _ 0 0 _ _ rfl rfl HV.out.h2 ?_; intro w' hP hO; replace HV := Lib.hid (HV.out.old.trans (hO.below (by omega))); replace hP := Lib.hid hP; clear hO) | (go_at_call 23; (with_reducible refine (SK.out _ (HV.out.alloc _)).mono ?_); rintro r W ⟨rfl, hb⟩; replace HV := Lib.hid ((HV.out.made (rb f v u)).grow hb); clear hb; have c2 := Joins.cell_of_block HV.out.head 2; simp only [List.getElem?_toArray, List.getElem?_cons_zero, List.getElem?_cons_succ] at c2) | fail)
            refine bodyPost_ret (res_p rfl _ _ _ _ _ rfl hP.out) rfl ?_
            obtain ⟨rfl, rfl⟩ := HD.out
            exact ⟨rfl, HV.out⟩
      · obtain rfl : k = 22 := by omega
        have HD : Hid (q1 = m ∧ q2 = lo) := EN.out hh.symm
        clear hh
        go_wp2_with fail
        refine wp_region_noPanic (Lk.wp_region_ordered ord_end (PFld (w.heap.size + 1 + 1) m c) (by kernel_rfl) (by kernel_rfl) (fun _ _ _ _ _ h => h) (by first | (with_reducible exact pfld HV.out.tail.tail.tail.tail.tail.head) | (with_reducible exact pfld HV.out.drew.tail.tail.tail.tail.tail.head)) ?_)
        replace HV := Lib.hid HV.out.drew
        clear c0 c1
        iterate 4 (refine Lk.ord_take ?_ rfl rfl ?_ ?_; rotate_left; (focus (intro w' hS; obtain ⟨h0, h1⟩ := hS; go_simp; try with_reducible rfl)); simp only [Act.put, List.setIfInBounds_toArray, List.set_cons_zero, List.set_cons_succ])
        refine Lk.ord_step rfl rfl (fun K hK => ?_)
        go_simp
        (with_reducible refine (CL.out _).mono ?_)
        rintro r W ⟨rfl, rfl⟩
        refine hK.out _ _ (by first | (with_reducible exact pfld HV.out.tail.tail.tail.tail.tail.head) | (with_reducible exact pfld HV.out.drew.tail.tail.tail.tail.tail.head)) ?_
        clear hK K
        try simp only [Act.put, List.setIfInBounds_toArray, List.set_cons_zero, List.set_cons_succ]
        iterate 1 (refine Lk.ord_take ?_ rfl rfl ?_ ?_; rotate_left; (focus (intro w' hS; go_simp; try with_reducible rfl)); simp only [Act.put, List.setIfInBounds_toArray, List.set_cons_zero, List.set_cons_succ])
        refine Lk.ord_step rfl rfl (fun K hK => ?_)
        refine wp_store_row 31 _ _ rfl _ (ph m lo) rfl rfl 31 (ph 0 0) HV.out.head info_p rfl (by simp [Value.oneCell']) ?_
        have hO := Off.row wr.drew (w.heap.size + 1 + 1 + 1 + 1 + 1 + 1 + 1) (ph m lo)
        have hP := Lib.hid (setRow_heap wr.drew (w.heap.size + 1 + 1 + 1 + 1 + 1 + 1 + 1) (ph 0 0) (ph m lo) 31 (0, 0) HV.out.head)
        have c0 := pfld HV.out.tail.tail.tail.tail.tail.head
        replace HV := Lib.hid (HV.out.old.trans (hO.below (by omega)))
        refine hK.out _ _ ⟨(hO.cell (by simp)).trans c0.1, (hO.cell (by simp)).trans c0.2⟩ ?_
        clear hK K hO c0
        refine Lk.ord_nil (NoPanic.normal ?_)
        go_wp2_with fail
        refine bodyPost_ret (res_p rfl _ _ _ _ _ rfl hP.out) rfl ?_
        obtain ⟨rfl, rfl⟩ := HD.out
        exact ⟨rfl, HV.out⟩
end Mw
end Go.Proofs.YtodilljomjhohaaDoor

/- Which mode may follow which. -/
namespace Go.Proofs.YtodilljomjhohaaDoor
namespace Mw
open Go.RowKit TabC Lk Ew Hw Bw

set_option maxRecDepth 100000 in
set_option maxHeartbeats 4000000 in
theorem allowed_c (a b : Int) (t : TypeId) (w : World) (hR : w.heap[0]? = some (.cells rc t (0, 0))) : Calls Tryd.prog 17 #[.int .i64 a, .int .i64 b] w fun r w' => r = .returned (.bool (Mm.allowed a b)) ∧ Below w.heap.size w w' := by
  have HV := Lib.hid ((Hv.nil w).add (0, .cells rc t (0, 0)) hR)
  have CE := Lib.hid (exist_c a)
  obtain ⟨H, hH⟩ : ∃ H, Mm.pair a b Mm.rows = H := ⟨_, rfl⟩
  obtain ⟨q, hq⟩ : ∃ q, Mm.allowed a b = q := ⟨_, rfl⟩
  have EQ : Hid (q = (H || (decide (a = b) && Mm.exist a))) := by show _ = _; rw [← hq, ← hH]; rfl
  rw [hq]
  clear hq
  replace hH := Lib.hid hH
  generalize Mm.exist a = x at *
  go_enter Tryd.func17, Tryd.ntmps17
  generalize hRC : Value.agg rc = RC at *
  go_wp2_with (first | (refine ldR hRC rfl _ rfl rfl t HV.out.head ?_) | fail)
  go_loopw [8] (fun i wr => ∃ k : Nat, k ≤ 22 ∧ i = .int .i64 k ∧ Mm.pair a b (Mm.rows.drop k) = H ∧ Hv w wr [(0, .cells rc t (0, 0))]) (fun i _ => 22 - (intOf i).toNat)
  case atStart => exact ⟨0, by decide, rfl, hH.out, HV.out⟩
  case round =>
    clear HV hH
    obtain ⟨k, hk, rfl, hh, hv⟩ := hrel
    have HV := Lib.hid hv
    clear hv
    rcases Nat.lt_or_ge k 22 with hk2 | hk2
    · have hd := Mm.pair_drop a b hk2
      rw [hh] at hd
      obtain ⟨f, hf⟩ : ∃ f : Int, ((Mm.row k).f : Int) = f := ⟨_, rfl⟩
      obtain ⟨v, hv⟩ : ∃ v : Int, ((Mm.row k).w : Int) = v := ⟨_, rfl⟩
      obtain ⟨u, hu⟩ : ∃ u : Int, ((Mm.row k).t : Int) = u := ⟨_, rfl⟩
      have HR := Lib.hid (And.intro hf (And.intro hv hu))
      rw [hf, hu] at hd
      clear hf hv hu hh
      by_cases hfm : f = a ∧ u = b
      · obtain ⟨rfl, rfl⟩ := hfm
        have HD : Hid (q = true) := by show _ = _; rw [EQ.out, hd]; simp
        clear hd
        go_wp2_with (first | (refine ixL hRC hk2 HR.out rfl _ _ rfl rfl rfl ?_) | fail)
        go_ret
        exact ⟨ret_bool HD.out.symm, (HV.out.alloc _).old⟩
      · have HD : Hid (Mm.pair a b (Mm.rows.drop (k + 1)) = H) := by
          show _ = _
          rw [hd]
          have : (decide (f = a) && decide (u = b)) = false := by simpa using hfm
          rw [this]; rfl
        clear hd
        by_cases hfa : f = a
        · subst hfa
          have hub : ¬ u = b := fun h => hfm ⟨rfl, h⟩
          have k1 : (u == b) = false := by simpa using hub
          clear hfm
          go_wp2_with (first | (refine ixL hRC hk2 HR.out rfl _ _ rfl rfl rfl ?_) | fail)
          go_roundw
          case rel => exact ⟨k + 1, hk2, by go_num, HD.out, HV.out.alloc _⟩
          case measure => simp only [intOf, Int.toNat_natCast]; omega
        · have k1 : (f == a) = false := by simpa using hfa
          clear hfm
          go_wp2_with (first | (refine ixL hRC hk2 HR.out rfl _ _ rfl rfl rfl ?_) | fail)
          go_roundw
          case rel => exact ⟨k + 1, hk2, by go_num, HD.out, HV.out.alloc _⟩
          case measure => simp only [intOf, Int.toNat_natCast]; omega
    · obtain rfl : k = 22 := by omega
      have HD : Hid (H = false) := hh.symm
      clear hh
      by_cases hab : a = b
      · subst hab
        go_wp2_with (first | (go_at_call 22; (with_reducible refine (CE.out _).mono ?_); rintro r W ⟨rfl, rfl⟩) | fail)
        go_ret
        exact ⟨ret_bool (by rw [EQ.out, HD.out]; simp), HV.out.old⟩
      · have k1 : (a == b) = false := by simpa using hab
        have EZ : Hid (q = false) := by show _ = _; rw [EQ.out, HD.out]; simp [hab]
        clear hab
        go_wp2_with fail
        go_ret
        exact ⟨ret_bool EZ.out.symm, HV.out.old⟩
end Mw
end Go.Proofs.YtodilljomjhohaaDoor

/- 'awake' of layer 17's statements answers true, and leaves all that lay. Printed by gen_awake.py. -/
namespace Go.Proofs.YtodilljomjhohaaDoor
namespace Mw
open Go.RowKit TabC Lk Ew Hw Bw

theorem ya {e : Eg} {l : Lg} (h : en e = K0) (h' : la l = M0) (t : TypeId) (W : World) (hE : EngIn W e) (hL : LawIn W l) (hR : W.heap[0]? = some (.cells rc t (0, 0))) : Calls Tryd.prog 12 #[.agg (ec e), .agg (lc l), .agg (ph 0 0), .agg (pn ⟨true, true, false, false, 50⟩), .bool false, .int .i64 0, .int .i64 0] W fun r w' => r = .returned (.agg (ph 2 0)) ∧ Below W.heap.size W w' := by
  have := next_c e l 0 0 ⟨true, true, false, false, 50⟩ false 0 0 t W hE hL hR
  have hz : see e l 0 ⟨true, true, false, false, 50⟩ false 0 0 = ⟨⟨true, true, false, false, 50⟩, false, Sb.ready K0 0, Sb.away M0 false 0, Sb.hot M0 0, Sb.hung M0 0⟩ := by rw [see, h, h']
  rwa [hz, show Mm.nm ⟨⟨true, true, false, false, 50⟩, false, Sb.ready K0 0, Sb.away M0 false 0, Sb.hot M0 0, Sb.hung M0 0⟩ 0 = 2 from by decide +kernel, show Mm.nc ⟨⟨true, true, false, false, 50⟩, false, Sb.ready K0 0, Sb.away M0 false 0, Sb.hot M0 0, Sb.hung M0 0⟩ 0 0 = 0 from by decide +kernel] at this

theorem yb1 {e : Eg} {l : Lg} (h : en e = K0) (h' : la l = M0) (t : TypeId) (W : World) (hE : EngIn W e) (hL : LawIn W l) (hR : W.heap[0]? = some (.cells rc t (0, 0))) : Calls Tryd.prog 12 #[.agg (ec e), .agg (lc l), .agg (ph 4 0), .agg (pn ⟨true, true, false, false, 50⟩), .bool true, .int .i64 2000, .int .i64 0] W fun r w' => r = .returned (.agg (ph 5 0)) ∧ Below W.heap.size W w' := by
  have := next_c e l 4 0 ⟨true, true, false, false, 50⟩ true 2000 0 t W hE hL hR
  have hz : see e l 0 ⟨true, true, false, false, 50⟩ true 2000 0 = ⟨⟨true, true, false, false, 50⟩, true, Sb.ready K0 2000, Sb.away M0 true 2000, Sb.hot M0 0, Sb.hung M0 0⟩ := by rw [see, h, h']
  rwa [hz, show Mm.nm ⟨⟨true, true, false, false, 50⟩, true, Sb.ready K0 2000, Sb.away M0 true 2000, Sb.hot M0 0, Sb.hung M0 0⟩ 4 = 5 from by decide +kernel, show Mm.nc ⟨⟨true, true, false, false, 50⟩, true, Sb.ready K0 2000, Sb.away M0 true 2000, Sb.hot M0 0, Sb.hung M0 0⟩ 4 0 = 0 from by decide +kernel] at this

theorem yc {e : Eg} {l : Lg} (h : en e = K0) (h' : la l = M0) (t : TypeId) (W : World) (hE : EngIn W e) (hL : LawIn W l) (hR : W.heap[0]? = some (.cells rc t (0, 0))) : Calls Tryd.prog 12 #[.agg (ec e), .agg (lc l), .agg (ph 5 9), .agg (pn ⟨false, false, false, false, 0⟩), .bool true, .int .i64 2000, .int .i64 0] W fun r w' => r = .returned (.agg (ph 6 0)) ∧ Below W.heap.size W w' := by
  have := next_c e l 5 9 ⟨false, false, false, false, 0⟩ true 2000 0 t W hE hL hR
  have hz : see e l 9 ⟨false, false, false, false, 0⟩ true 2000 0 = ⟨⟨false, false, false, false, 0⟩, true, Sb.ready K0 2000, Sb.away M0 true 2000, Sb.hot M0 0, Sb.hung M0 9⟩ := by rw [see, h, h']
  rwa [hz, show Mm.nm ⟨⟨false, false, false, false, 0⟩, true, Sb.ready K0 2000, Sb.away M0 true 2000, Sb.hot M0 0, Sb.hung M0 9⟩ 5 = 6 from by decide +kernel, show Mm.nc ⟨⟨false, false, false, false, 0⟩, true, Sb.ready K0 2000, Sb.away M0 true 2000, Sb.hot M0 0, Sb.hung M0 9⟩ 5 9 = 0 from by decide +kernel] at this

theorem yd {e : Eg} {l : Lg} (h : en e = K0) (h' : la l = M0) (t : TypeId) (W : World) (hE : EngIn W e) (hL : LawIn W l) (hR : W.heap[0]? = some (.cells rc t (0, 0))) : Calls Tryd.prog 12 #[.agg (ec e), .agg (lc l), .agg (ph 5 9), .agg (pn ⟨true, true, false, false, 50⟩), .bool true, .int .i64 2000, .int .i64 0] W fun r w' => r = .returned (.agg (ph 5 10)) ∧ Below W.heap.size W w' := by
  have := next_c e l 5 9 ⟨true, true, false, false, 50⟩ true 2000 0 t W hE hL hR
  have hz : see e l 9 ⟨true, true, false, false, 50⟩ true 2000 0 = ⟨⟨true, true, false, false, 50⟩, true, Sb.ready K0 2000, Sb.away M0 true 2000, Sb.hot M0 0, Sb.hung M0 9⟩ := by rw [see, h, h']
  rwa [hz, show Mm.nm ⟨⟨true, true, false, false, 50⟩, true, Sb.ready K0 2000, Sb.away M0 true 2000, Sb.hot M0 0, Sb.hung M0 9⟩ 5 = 5 from by decide +kernel, show Mm.nc ⟨⟨true, true, false, false, 50⟩, true, Sb.ready K0 2000, Sb.away M0 true 2000, Sb.hot M0 0, Sb.hung M0 9⟩ 5 9 = 10 from by decide +kernel] at this

theorem yo (e : Eg) (W : World) (hE : EngIn W e) : Calls Tryd.prog 14 #[.agg (ec e), .int .i64 3, .int .i64 0] W fun r w' => r = .returned (.agg (od true true true true)) ∧ Below W.heap.size W w' := by
  have := orders_c e 3 0 (Sb.ready (en e) 0) W (fun V hV => ready_v hE rfl hV)
  rwa [show Mm.starter (Sb.ready (en e) 0) 3 = true from rfl, show Mm.spark 3 = true from rfl, show Mm.opn 3 = true from rfl] at this
theorem yb (m : Int) (b : Bool) (h : Mm.burns m = b) (w : World) : Calls Tryd.prog 16 #[.int .i64 m] w fun r w' => r = .returned (.bool b) ∧ w' = w := h ▸ burns_c m w
theorem yl (a b : Int) (q : Bool) (h : Mm.allowed a b = q) (t : TypeId) (w : World) (hR : w.heap[0]? = some (.cells rc t (0, 0))) : Calls Tryd.prog 17 #[.int .i64 a, .int .i64 b] w fun r w' => r = .returned (.bool q) ∧ Below w.heap.size w w' := h ▸ allowed_c a b t w hR

set_option maxRecDepth 100000 in
set_option maxHeartbeats 8000000 in
theorem awake_c (t : TypeId) (w : World) (hR : w.heap[0]? = some (.cells rc t (0, 0))) : Calls Tryd.prog 9 #[] w fun r w' => r = .returned (.bool true) ∧ Below w.heap.size w w' := by
  have HV := Lib.hid ((Hv.nil w).add (0, .cells rc t (0, 0)) hR)
  go_enter Tryd.func9, Tryd.ntmps9
  go_wp2_with fail
  refine (engine_c w).mono ?_
  rintro r W0 ⟨e, he, rfl, hE, hb⟩
  have HK := Lib.hid he
  replace HV := Lib.hid ((HV.out.grow hb).made (eo e))
  have HE := Lib.hid (fun W (hb : Below W0.heap.size W0 W) => hE.below hb)
  have HB := Lib.hid ((Below.refl W0.heap.size W0).alloc (Nat.le_refl _) (eo e))
  clear hE he hb
  go_wp2_with fail
  refine (laws_c _).mono ?_
  rintro r W1 ⟨l, hl, rfl, hL, hb⟩
  have HM := Lib.hid hl
  replace HV := Lib.hid ((HV.out.grow hb).made (lo l))
  have HL := Lib.hid (fun W (hb : Below W1.heap.size W1 W) => hL.below hb)
  replace HB := Lib.hid ((HB.out.trans (hb.mono HB.out.size)))
  have HG := Lib.hid (fun W (hc : Below W1.heap.size W1 W) => HE.out W (HB.out.trans (hc.mono HB.out.size)))
  replace HB := Lib.hid ((Below.refl W1.heap.size W1).alloc (Nat.le_refl _) (lo l))
  clear hL hl hb HE
  have CA := Lib.hid (fun W h => ya HK.out HM.out t W (HG.out W h) (HL.out W h))
  have CB := Lib.hid (fun W h => yb1 HK.out HM.out t W (HG.out W h) (HL.out W h))
  have CC := Lib.hid (fun W h => yc HK.out HM.out t W (HG.out W h) (HL.out W h))
  have CD := Lib.hid (fun W h => yd HK.out HM.out t W (HG.out W h) (HL.out W h))
  have CO := Lib.hid (fun W h => yo e W (HG.out W h))
  clear HG HK HM HL
  go_upto_region 4 with fail
  generalize hEE : Value.agg (ec e) = E at *
  generalize hLL : Value.agg (lc l) = L at *
  have HX := HV.out.made (no ⟨true, true, false, false, 50⟩)
  simp only [World.size_alloc] at HX
  replace HV := Lib.hid HX
  clear HX
  replace HB := Lib.hid (HB.out.alloc (by simp) (no ⟨true, true, false, false, 50⟩))
  go_wp2_with (first | (refine ldE' hEE rfl _ rfl _ rfl HV.out.tail.tail.head ?_) | (refine ldL' hLL rfl _ rfl _ rfl HV.out.tail.head ?_) | (refine ldn rfl _ rfl _ ⟨true, true, false, false, 50⟩ rfl HV.out.head ?_) | fail)
  refine (CA.out _ HB.out HV.out.tail.tail.tail.head).mono ?_
  rintro r Va ⟨rfl, hb⟩
  replace HV := Lib.hid ((HV.out.grow hb).made (po 2 0))
  replace HB := Lib.hid ((HB.out.trans (hb.mono HB.out.size)).alloc (HB.out.trans (hb.mono HB.out.size)).size (po 2 0))
  clear hb CA
  go_wp2_with (first | (refine ldE' hEE rfl _ rfl _ rfl HV.out.tail.tail.tail.head ?_) | (refine ldL' hLL rfl _ rfl _ rfl HV.out.tail.tail.head ?_) | (refine ldn rfl _ rfl _ ⟨true, true, false, false, 50⟩ rfl HV.out.tail.head ?_) | fail)
  refine (CB.out _ HB.out HV.out.tail.tail.tail.tail.head).mono ?_
  rintro r Vb ⟨rfl, hb⟩
  replace HV := Lib.hid ((HV.out.grow hb).made (po 5 0))
  replace HB := Lib.hid ((HB.out.trans (hb.mono HB.out.size)).alloc (HB.out.trans (hb.mono HB.out.size)).size (po 5 0))
  clear hb CB
  go_wp2_with (first | (refine ldE' hEE rfl _ rfl _ rfl HV.out.tail.tail.tail.tail.head ?_) | (refine ldL' hLL rfl _ rfl _ rfl HV.out.tail.tail.tail.head ?_) | (refine ldn rfl _ rfl _ ⟨true, true, false, false, 50⟩ rfl HV.out.tail.tail.head ?_) | fail)
  refine (CC.out _ HB.out HV.out.tail.tail.tail.tail.tail.head).mono ?_
  rintro r Vc ⟨rfl, hb⟩
  replace HV := Lib.hid ((HV.out.grow hb).made (po 6 0))
  replace HB := Lib.hid ((HB.out.trans (hb.mono HB.out.size)).alloc (HB.out.trans (hb.mono HB.out.size)).size (po 6 0))
  clear hb CC
  go_wp2_with (first | (refine ldE' hEE rfl _ rfl _ rfl HV.out.tail.tail.tail.tail.tail.head ?_) | (refine ldL' hLL rfl _ rfl _ rfl HV.out.tail.tail.tail.tail.head ?_) | (refine ldn rfl _ rfl _ ⟨true, true, false, false, 50⟩ rfl HV.out.tail.tail.tail.head ?_) | fail)
  refine (CD.out _ HB.out HV.out.tail.tail.tail.tail.tail.tail.head).mono ?_
  rintro r Vd ⟨rfl, hb⟩
  replace HV := Lib.hid ((HV.out.grow hb).made (po 5 10))
  replace HB := Lib.hid ((HB.out.trans (hb.mono HB.out.size)).alloc (HB.out.trans (hb.mono HB.out.size)).size (po 5 10))
  clear hb CD
  go_wp2_with (first | (refine ldE' hEE rfl _ rfl _ rfl HV.out.tail.tail.tail.tail.tail.tail.head ?_) | (refine ldL' hLL rfl _ rfl _ rfl HV.out.tail.tail.tail.tail.tail.head ?_) | (refine ldn rfl _ rfl _ ⟨true, true, false, false, 50⟩ rfl HV.out.tail.tail.tail.tail.head ?_) | fail)
  refine (CO.out _ HB.out).mono ?_
  rintro r Vo ⟨rfl, hb⟩
  replace HV := Lib.hid ((HV.out.grow hb).made (oo true true true true))
  clear hb CO HB
  go_wp2_with (first | (refine ldp rfl _ rfl _ 2 0 rfl HV.out.tail.tail.tail.tail.head ?_) | (refine ldp rfl _ rfl _ 5 0 rfl HV.out.tail.tail.tail.head ?_) | (refine ldp rfl _ rfl _ 6 0 rfl HV.out.tail.tail.head ?_) | (refine ldp rfl _ rfl _ 5 10 rfl HV.out.tail.head ?_) | (refine ldo rfl _ rfl _ true true true true rfl HV.out.head ?_) | (go_at_call 16; (first | (with_reducible refine (yb 5 true rfl _).mono ?_) | (with_reducible refine (yb 3 false rfl _).mono ?_)); rintro r W ⟨rfl, rfl⟩) | (go_at_call 17; (first | (with_reducible refine (yl 0 2 true rfl t _ HV.out.tail.tail.tail.tail.tail.tail.tail.tail.head).mono ?_) | (with_reducible refine (yl 0 5 false rfl t _ HV.out.tail.tail.tail.tail.tail.tail.tail.tail.head).mono ?_)); rintro r W ⟨rfl, hb⟩; replace HV := Lib.hid (HV.out.grow hb); clear hb) | fail)
  go_ret
  exact ⟨rfl, HV.out.old⟩
end Mw
end Go.Proofs.YtodilljomjhohaaDoor

/- The document's own answer: whether laws may be. Printed by gen_ref.py. -/
namespace Go.Proofs.YtodilljomjhohaaDoor
namespace Hw
open Go.RowKit TabC Lk Ew

theorem rwithin_c (n lo hi : Int) (w : World) : Calls Tryd.prog 61 #[.int .i64 n, .int .i64 lo, .int .i64 hi] w fun r w' => r = .returned (.bool (Em.within n lo hi)) ∧ w = w' := by
  go_enter Tryd.func61, Tryd.ntmps61
  go_wp2
  all_goals
    go_ret
    exact ⟨ret_bool (by simp [Em.within]; try omega), rfl⟩
theorem rw_v {n lo hi : Int} {b : Bool} (h : Em.within n lo hi = b) (w : World) : Calls Tryd.prog 61 #[.int .i64 n, .int .i64 lo, .int .i64 hi] w fun r w' => r = .returned (.bool b) ∧ w = w' := h ▸ rwithin_c n lo hi w
theorem rr_v {w : World} {t : Tv} {b : Bool} (h : Tb.rsB t.xs t.ys = b) (hT : TabIn w t.A t.B t.xs t.ys) {W : World} (hW : Below w.heap.size w W) : Calls Tryd.prog 48 #[.agg #[.slice t.A t.xs.length t.ca, .slice t.B t.ys.length t.cb]] W fun r w' => r = .returned (.bool b) ∧ Below W.heap.size W w' := h ▸ rrising_c t.A t.B t.ca t.cb t.xs t.ys W (hT.below hW)
theorem err_of {l : Sd.Ls} {b : Bool} (h : Sd.okB l = b) : Sd.err l = if b = true then 0 else 140 := by rw [Sd.err, h]

set_option maxRecDepth 100000 in
set_option maxHeartbeats 8000000 in
theorem rcheck_c (l : Lg) (w : World) (hL : LawIn w l) : Calls Tryd.prog 47 #[.agg (lc l)] w fun r w' => r = .returned (.int .i64 (Sd.err (la l))) ∧ Below w.heap.size w w' := by
  have HV := Lib.hid (one_l w l)
  obtain ⟨ba, ha⟩ : ∃ b, Tb.rsB l.a.xs l.a.ys = b := ⟨_, rfl⟩
  obtain ⟨bd, hd⟩ : ∃ b, Tb.rsB l.d.xs l.d.ys = b := ⟨_, rfl⟩
  obtain ⟨bs, hs⟩ : ∃ b, Tb.rsB l.s.xs l.s.ys = b := ⟨_, rfl⟩
  obtain ⟨qm, hm⟩ : ∃ b, Em.within l.margin 1 1048576 = b := ⟨_, rfl⟩
  obtain ⟨q1, h1⟩ : ∃ b, Em.within l.red1 l.margin 1048576 = b := ⟨_, rfl⟩
  obtain ⟨q2, h2⟩ : ∃ b, Em.within l.red2 l.margin 1048576 = b := ⟨_, rfl⟩
  obtain ⟨qE, hE⟩ : ∃ b, Em.within l.redE l.margin 1048576 = b := ⟨_, rfl⟩
  have HO : Hid (Sd.okB (la l) = (ba && bd && bs && (qm && q1 && q2 && qE) && (decide (1 ≤ l.idle) && decide (l.idle ≤ 1048576) && (decide (1 ≤ l.patience) && decide (l.patience ≤ 10000))))) := by
    show Sd.okB (la l) = _
    rw [show Sd.okB (la l) = ((Tb.rsB l.a.xs l.a.ys && Tb.rsB l.d.xs l.d.ys && Tb.rsB l.s.xs l.s.ys) && (Em.within l.margin 1 1048576 && Em.within l.idle 1 1048576 && Em.within l.patience 1 10000) && (Em.within l.red1 l.margin 1048576 && Em.within l.red2 l.margin 1048576 && Em.within l.redE l.margin 1048576)) from rfl, ha, hd, hs, hm, h1, h2, hE]
    show (ba && bd && bs && (qm && (decide (1 ≤ l.idle) && decide (l.idle ≤ 1048576)) && (decide (1 ≤ l.patience) && decide (l.patience ≤ 10000))) && (q1 && q2 && qE)) = _
    cases ba <;> cases bd <;> cases bs <;> cases qm <;> cases q1 <;> cases q2 <;> cases qE <;> simp
  have HA := Lib.hid (fun W (hW : Below w.heap.size w W) => rr_v ha hL.a hW)
  have HD := Lib.hid (fun W (hW : Below w.heap.size w W) => rr_v hd hL.d hW)
  have HS := Lib.hid (fun W (hW : Below w.heap.size w W) => rr_v hs hL.s hW)
  have A1 := Lib.hid (rw_v hm)
  have A2 := Lib.hid (rw_v h1)
  have A3 := Lib.hid (rw_v h2)
  have A4 := Lib.hid (rw_v hE)
  clear hL ha hd hs hm h1 h2 hE
  obtain ⟨c0, c1, c2, c3, c4, c5, c6, c7, c8, c9, c10, c11⟩ := lfld HV.out.head
  go_enter Tryd.func47, Tryd.ntmps47
  go_upto_region 4 with (first | (go_at_call 48; (with_reducible refine (HA.out _ HV.out.old).mono ?_); rintro r W ⟨rfl, hb⟩; replace HV := Lib.hid (HV.out.grow hb); clear hb c0 c1 c2 c3 c4 c5 c6 c7 c8 c9 c10 c11; obtain ⟨c0, c1, c2, c3, c4, c5, c6, c7, c8, c9, c10, c11⟩ := lfld HV.out.head) | (go_at_call 48; (with_reducible refine (HD.out _ HV.out.old).mono ?_); rintro r W ⟨rfl, hb⟩; replace HV := Lib.hid (HV.out.grow hb); clear hb c0 c1 c2 c3 c4 c5 c6 c7 c8 c9 c10 c11; obtain ⟨c0, c1, c2, c3, c4, c5, c6, c7, c8, c9, c10, c11⟩ := lfld HV.out.head) | (go_at_call 48; (with_reducible refine (HS.out _ HV.out.old).mono ?_); rintro r W ⟨rfl, hb⟩; replace HV := Lib.hid (HV.out.grow hb); clear hb c0 c1 c2 c3 c4 c5 c6 c7 c8 c9 c10 c11; obtain ⟨c0, c1, c2, c3, c4, c5, c6, c7, c8, c9, c10, c11⟩ := lfld HV.out.head) | fail)
  go_cut [6] (fun t wx => t = .bool (qm && q1 && q2 && qE) ∧ Hv w wx [(w.heap.size, lo l)])
  case first =>
    clear HA HD HS HO
    cases qm
    · go_wp2_with (first | (go_at_call 61; (with_reducible refine (A1.out _).mono ?_); rintro r w' ⟨rfl, rfl⟩) | (go_at_call 61; (with_reducible refine (A2.out _).mono ?_); rintro r w' ⟨rfl, rfl⟩) | (go_at_call 61; (with_reducible refine (A3.out _).mono ?_); rintro r w' ⟨rfl, rfl⟩) | (go_at_call 61; (with_reducible refine (A4.out _).mono ?_); rintro r w' ⟨rfl, rfl⟩) | fail)
      go_meet
      case rel => exact ⟨rfl, HV.out⟩
    cases q1
    · go_wp2_with (first | (go_at_call 61; (with_reducible refine (A1.out _).mono ?_); rintro r w' ⟨rfl, rfl⟩) | (go_at_call 61; (with_reducible refine (A2.out _).mono ?_); rintro r w' ⟨rfl, rfl⟩) | (go_at_call 61; (with_reducible refine (A3.out _).mono ?_); rintro r w' ⟨rfl, rfl⟩) | (go_at_call 61; (with_reducible refine (A4.out _).mono ?_); rintro r w' ⟨rfl, rfl⟩) | fail)
      go_meet
      case rel => exact ⟨rfl, HV.out⟩
    cases q2
    · go_wp2_with (first | (go_at_call 61; (with_reducible refine (A1.out _).mono ?_); rintro r w' ⟨rfl, rfl⟩) | (go_at_call 61; (with_reducible refine (A2.out _).mono ?_); rintro r w' ⟨rfl, rfl⟩) | (go_at_call 61; (with_reducible refine (A3.out _).mono ?_); rintro r w' ⟨rfl, rfl⟩) | (go_at_call 61; (with_reducible refine (A4.out _).mono ?_); rintro r w' ⟨rfl, rfl⟩) | fail)
      go_meet
      case rel => exact ⟨rfl, HV.out⟩
    cases qE
    · go_wp2_with (first | (go_at_call 61; (with_reducible refine (A1.out _).mono ?_); rintro r w' ⟨rfl, rfl⟩) | (go_at_call 61; (with_reducible refine (A2.out _).mono ?_); rintro r w' ⟨rfl, rfl⟩) | (go_at_call 61; (with_reducible refine (A3.out _).mono ?_); rintro r w' ⟨rfl, rfl⟩) | (go_at_call 61; (with_reducible refine (A4.out _).mono ?_); rintro r w' ⟨rfl, rfl⟩) | fail)
      go_meet
      case rel => exact ⟨rfl, HV.out⟩
    go_wp2_with (first | (go_at_call 61; (with_reducible refine (A1.out _).mono ?_); rintro r w' ⟨rfl, rfl⟩) | (go_at_call 61; (with_reducible refine (A2.out _).mono ?_); rintro r w' ⟨rfl, rfl⟩) | (go_at_call 61; (with_reducible refine (A3.out _).mono ?_); rintro r w' ⟨rfl, rfl⟩) | (go_at_call 61; (with_reducible refine (A4.out _).mono ?_); rintro r w' ⟨rfl, rfl⟩) | fail)
    go_meet
    case rel => exact ⟨rfl, HV.out⟩
  obtain ⟨rfl, hv⟩ := hcut
  have HV2 := Lib.hid hv
  clear hv HV c0 c1 c2 c3 c4 c5 c6 c7 c8 c9 c10 c11 A1 A2 A3 A4 HA HD HS
  obtain ⟨c0, c1, c2, c3, c4, c5, c6, c7, c8, c9, c10, c11⟩ := lfld HV2.out.head
  generalize (qm && q1 && q2 && qE) = rd at HO ⊢
  cases ba
  · go_wp2_with fail
    go_ret
    exact ⟨ret_int (by rw [err_of HO.out]; simp [*] <;> omega), HV2.out.old⟩
  cases bd
  · go_wp2_with fail
    go_ret
    exact ⟨ret_int (by rw [err_of HO.out]; simp [*] <;> omega), HV2.out.old⟩
  cases bs
  · go_wp2_with fail
    go_ret
    exact ⟨ret_int (by rw [err_of HO.out]; simp [*] <;> omega), HV2.out.old⟩
  cases rd
  · go_wp2_with fail
    go_ret
    exact ⟨ret_int (by rw [err_of HO.out]; simp [*] <;> omega), HV2.out.old⟩
  by_cases d0 : l.idle < 1
  · go_wp2_with fail
    go_ret
    exact ⟨ret_int (by rw [err_of HO.out]; simp [*] <;> omega), HV2.out.old⟩
  by_cases d1 : 1048576 < l.idle
  · go_wp2_with fail
    go_ret
    exact ⟨ret_int (by rw [err_of HO.out]; simp [*] <;> omega), HV2.out.old⟩
  by_cases d2 : l.patience < 1
  · go_wp2_with fail
    go_ret
    exact ⟨ret_int (by rw [err_of HO.out]; simp [*] <;> omega), HV2.out.old⟩
  by_cases d3 : 10000 < l.patience
  · go_wp2_with fail
    go_ret
    exact ⟨ret_int (by rw [err_of HO.out]; simp [*] <;> omega), HV2.out.old⟩
  go_wp2_with fail
  go_ret
  exact ⟨ret_int (by rw [err_of HO.out]; simp [*] <;> omega), HV2.out.old⟩
end Hw
end Go.Proofs.YtodilljomjhohaaDoor

/- Contract of the document's own Back. -/
namespace Go.Proofs.YtodilljomjhohaaDoor
namespace TabC
open Go.RowKit

/-- A step in which so much is reached, and two places of it. -/
structure Mids (xs ys : List Int) (y : Int) (k : Nat) (lo hi : Int) : Prop where
  ge : Tb.g xs k ≤ lo
  lt : lo < hi
  le : hi ≤ Tb.g xs (k + 1)
  no : Tb.atO xs ys lo < y
  yes : y ≤ Tb.atO xs ys hi

theorem Mids.found {xs ys : List Int} {y : Int} {k : Nat} {lo hi : Int} (h : Mids xs ys y k lo hi) (ok : Tb.Ok xs ys) (hk : k + 1 < xs.length) (hy : ∀ j, j ≤ k → Tb.g ys j < y) (hy1 : y ≤ Tb.g ys (k + 1)) (h1 : hi - lo ≤ 1) : Tb.bkO xs ys y = hi := by
  have a := h.ge
  have b := h.lt
  have c := h.le
  have d := h.no
  have e := h.yes
  obtain rfl : lo = hi - 1 := by omega
  rw [Tb.at_seg ok hk (by omega) (by omega)] at d e
  exact Tb.bk_seg ok hk hy hy1 (by omega) c d e

end TabC
end Go.Proofs.YtodilljomjhohaaDoor

/- The document's own answer: whether an engine may be. -/
namespace Go.Proofs.YtodilljomjhohaaDoor
namespace Ew
open Go.RowKit TabC Lk

theorem rwithin_c (n lo hi : Int) (w : World) : Calls Tryd.prog 49 #[.int .i64 n, .int .i64 lo, .int .i64 hi] w fun r w' => r = .returned (.bool (Em.within n lo hi)) ∧ w = w' := by
  go_enter Tryd.func49, Tryd.ntmps49
  go_wp2
  all_goals
    go_ret
    exact ⟨ret_bool (by simp [Em.within]; try omega), rfl⟩
theorem rw_v {n lo hi : Int} {b : Bool} (h : Em.within n lo hi = b) (w : World) : Calls Tryd.prog 49 #[.int .i64 n, .int .i64 lo, .int .i64 hi] w fun r w' => r = .returned (.bool b) ∧ w = w' := h ▸ rwithin_c n lo hi w
theorem rr_v {w : World} {t : Tv} {b : Bool} (h : Tb.rsB t.xs t.ys = b) (hT : TabIn w t.A t.B t.xs t.ys) {W : World} (hW : Below w.heap.size w W) : Calls Tryd.prog 48 #[.agg #[.slice t.A t.xs.length t.ca, .slice t.B t.ys.length t.cb]] W fun r w' => r = .returned (.bool b) ∧ Below W.heap.size W w' := h ▸ rrising_c t.A t.B t.ca t.cb t.xs t.ys W (hT.below hW)
theorem ord_rcheck : Lk.mixedB (Lk.opsOf Tryd.f42 7) [false, false, false, false, false, false, false, false, false, false, false, false, false, false, false, false, false, false, false, false, false, false, false, false, false, false, false, false, false, false, false, false, false, false, false, false, false, false, false, false, false, false, false, false] = true := by kernel_rfl
theorem err_of {e : Em.En} {b : Bool} (h : Em.okB e = b) : Em.err e = if b = true then 0 else 100 := by rw [Em.err, h]

set_option maxRecDepth 100000 in
set_option maxHeartbeats 8000000 in
theorem rcheck_bad (e : Eg) (w : World) (hE : EngIn w e) (h0 : Tb.rsB e.f.xs e.f.ys = false) : Calls Tryd.prog 42 #[.agg (ec e)] w fun r w' => r = .returned (.int .i64 (Em.err (en e))) ∧ Below w.heap.size w w' := by
  have HV := Lib.hid (one_e w e)
  obtain ⟨bp, hp⟩ : ∃ b, Tb.rsB e.p.xs e.p.ys = b := ⟨_, rfl⟩
  obtain ⟨bq, hq⟩ : ∃ b, Tb.rsB e.q.xs e.q.ys = b := ⟨_, rfl⟩
  obtain ⟨bh, hh⟩ : ∃ b, Tb.rsB e.h.xs e.h.ys = b := ⟨_, rfl⟩
  obtain ⟨qA1, hA1⟩ : ∃ b, Em.within e.lag2 1 64 = b := ⟨_, rfl⟩
  obtain ⟨qA2, hA2⟩ : ∃ b, Em.within e.lag1 1 64 = b := ⟨_, rfl⟩
  obtain ⟨qA3, hA3⟩ : ∃ b, Em.within e.lagE 1 64 = b := ⟨_, rfl⟩
  obtain ⟨qB1, hB1⟩ : ∃ b, Em.within e.slew 1 1048576 = b := ⟨_, rfl⟩
  obtain ⟨qB2, hB2⟩ : ∃ b, Em.within e.starter 0 1048576 = b := ⟨_, rfl⟩
  obtain ⟨qB3, hB3⟩ : ∃ b, Em.within e.light 0 1048576 = b := ⟨_, rfl⟩
  obtain ⟨qB4, hB4⟩ : ∃ b, Em.within e.lean 0 1048576 = b := ⟨_, rfl⟩
  obtain ⟨qB5, hB5⟩ : ∃ b, Em.within e.disturb 0 1048576 = b := ⟨_, rfl⟩
  have HO : Hid (Em.okB (en e) = (false && bp && bq && bh && (qA1 && qA2 && qA3) && (qB1 && qB2 && qB3 && qB4 && qB5) && (decide (e.light ≤ e.starter) && decide (1 ≤ e.lean) && decide (e.lean ≤ Tb.g e.f.ys 0)))) := by
    subst hp hq hh hA1 hA2 hA3 hB1 hB2 hB3 hB4 hB5
    show Em.okB _ = _
    rw [← h0]
    rfl
  have HF := Lib.hid (fun W (hW : Below w.heap.size w W) => rr_v h0 hE.f hW)
  have HP := Lib.hid (fun W (hW : Below w.heap.size w W) => rr_v hp hE.p hW)
  have HQ := Lib.hid (fun W (hW : Below w.heap.size w W) => rr_v hq hE.q hW)
  have HH := Lib.hid (fun W (hW : Below w.heap.size w W) => rr_v hh hE.h hW)
  have A1 := Lib.hid (rw_v hA1)
  have A2 := Lib.hid (rw_v hA2)
  have A3 := Lib.hid (rw_v hA3)
  have B1 := Lib.hid (rw_v hB1)
  have B2 := Lib.hid (rw_v hB2)
  have B3 := Lib.hid (rw_v hB3)
  have B4 := Lib.hid (rw_v hB4)
  have B5 := Lib.hid (rw_v hB5)
  clear hE h0 hp hq hh hA1 hA2 hA3 hB1 hB2 hB3 hB4 hB5
  obtain ⟨c0, c1, c2, c3, c4, c5, c6, c7, c8, c9, c10, c11, c12, c13, c14, c15⟩ := efld HV.out.head
  go_enter Tryd.func42, Tryd.ntmps42
  go_upto_region 5 with (first | (go_at_call 48; (with_reducible refine (HF.out _ HV.out.old).mono ?_); rintro r W ⟨rfl, hb⟩; replace HV := Lib.hid (HV.out.grow hb); clear hb c0 c1 c2 c3 c4 c5 c6 c7 c8 c9 c10 c11 c12 c13 c14 c15; obtain ⟨c0, c1, c2, c3, c4, c5, c6, c7, c8, c9, c10, c11, c12, c13, c14, c15⟩ := efld HV.out.head) | (go_at_call 48; (with_reducible refine (HP.out _ HV.out.old).mono ?_); rintro r W ⟨rfl, hb⟩; replace HV := Lib.hid (HV.out.grow hb); clear hb c0 c1 c2 c3 c4 c5 c6 c7 c8 c9 c10 c11 c12 c13 c14 c15; obtain ⟨c0, c1, c2, c3, c4, c5, c6, c7, c8, c9, c10, c11, c12, c13, c14, c15⟩ := efld HV.out.head) | (go_at_call 48; (with_reducible refine (HQ.out _ HV.out.old).mono ?_); rintro r W ⟨rfl, hb⟩; replace HV := Lib.hid (HV.out.grow hb); clear hb c0 c1 c2 c3 c4 c5 c6 c7 c8 c9 c10 c11 c12 c13 c14 c15; obtain ⟨c0, c1, c2, c3, c4, c5, c6, c7, c8, c9, c10, c11, c12, c13, c14, c15⟩ := efld HV.out.head) | (go_at_call 48; (with_reducible refine (HH.out _ HV.out.old).mono ?_); rintro r W ⟨rfl, hb⟩; replace HV := Lib.hid (HV.out.grow hb); clear hb c0 c1 c2 c3 c4 c5 c6 c7 c8 c9 c10 c11 c12 c13 c14 c15; obtain ⟨c0, c1, c2, c3, c4, c5, c6, c7, c8, c9, c10, c11, c12, c13, c14, c15⟩ := efld HV.out.head) | fail)
  go_cut [7] (fun t wx => t = .bool (qA1 && qA2 && qA3) ∧ Hv w wx [(w.heap.size, eo e)])
  case first =>
    clear HF HP HQ HH B1 B2 B3 B4 B5 HO
    cases qA1
    · go_wp2_with (first | (go_at_call 49; (with_reducible refine (A1.out _).mono ?_); rintro r w' ⟨rfl, rfl⟩) | (go_at_call 49; (with_reducible refine (A2.out _).mono ?_); rintro r w' ⟨rfl, rfl⟩) | (go_at_call 49; (with_reducible refine (A3.out _).mono ?_); rintro r w' ⟨rfl, rfl⟩) | fail)
      go_meet
      case rel => exact ⟨rfl, HV.out⟩
    · skip
      cases qA2
      · go_wp2_with (first | (go_at_call 49; (with_reducible refine (A1.out _).mono ?_); rintro r w' ⟨rfl, rfl⟩) | (go_at_call 49; (with_reducible refine (A2.out _).mono ?_); rintro r w' ⟨rfl, rfl⟩) | (go_at_call 49; (with_reducible refine (A3.out _).mono ?_); rintro r w' ⟨rfl, rfl⟩) | fail)
        go_meet
        case rel => exact ⟨rfl, HV.out⟩
      · skip
        cases qA3
        · go_wp2_with (first | (go_at_call 49; (with_reducible refine (A1.out _).mono ?_); rintro r w' ⟨rfl, rfl⟩) | (go_at_call 49; (with_reducible refine (A2.out _).mono ?_); rintro r w' ⟨rfl, rfl⟩) | (go_at_call 49; (with_reducible refine (A3.out _).mono ?_); rintro r w' ⟨rfl, rfl⟩) | fail)
          go_meet
          case rel => exact ⟨rfl, HV.out⟩
        · skip
          go_wp2_with (first | (go_at_call 49; (with_reducible refine (A1.out _).mono ?_); rintro r w' ⟨rfl, rfl⟩) | (go_at_call 49; (with_reducible refine (A2.out _).mono ?_); rintro r w' ⟨rfl, rfl⟩) | (go_at_call 49; (with_reducible refine (A3.out _).mono ?_); rintro r w' ⟨rfl, rfl⟩) | fail)
          go_meet
          case rel => exact ⟨rfl, HV.out⟩
  obtain ⟨rfl, hv⟩ := hcut
  have HV2 := Lib.hid hv
  clear hv HV c0 c1 c2 c3 c4 c5 c6 c7 c8 c9 c10 c11 c12 c13 c14 c15 A1 A2 A3 HF HP HQ HH
  obtain ⟨c0, c1, c2, c3, c4, c5, c6, c7, c8, c9, c10, c11, c12, c13, c14, c15⟩ := efld HV2.out.head
  generalize (qA1 && qA2 && qA3) = la at HO ⊢
  go_upto_region 6 with fail
  go_cut [8] (fun t wx => t = .bool (qB1 && qB2 && qB3 && qB4 && qB5) ∧ Hv w wx [(w.heap.size, eo e)])
  case first =>
    clear HO
    cases qB1
    · go_wp2_with (first | (go_at_call 49; (with_reducible refine (B1.out _).mono ?_); rintro r w' ⟨rfl, rfl⟩) | (go_at_call 49; (with_reducible refine (B2.out _).mono ?_); rintro r w' ⟨rfl, rfl⟩) | (go_at_call 49; (with_reducible refine (B3.out _).mono ?_); rintro r w' ⟨rfl, rfl⟩) | (go_at_call 49; (with_reducible refine (B4.out _).mono ?_); rintro r w' ⟨rfl, rfl⟩) | (go_at_call 49; (with_reducible refine (B5.out _).mono ?_); rintro r w' ⟨rfl, rfl⟩) | fail)
      go_meet
      case rel => exact ⟨rfl, HV2.out⟩
    · skip
      cases qB2
      · go_wp2_with (first | (go_at_call 49; (with_reducible refine (B1.out _).mono ?_); rintro r w' ⟨rfl, rfl⟩) | (go_at_call 49; (with_reducible refine (B2.out _).mono ?_); rintro r w' ⟨rfl, rfl⟩) | (go_at_call 49; (with_reducible refine (B3.out _).mono ?_); rintro r w' ⟨rfl, rfl⟩) | (go_at_call 49; (with_reducible refine (B4.out _).mono ?_); rintro r w' ⟨rfl, rfl⟩) | (go_at_call 49; (with_reducible refine (B5.out _).mono ?_); rintro r w' ⟨rfl, rfl⟩) | fail)
        go_meet
        case rel => exact ⟨rfl, HV2.out⟩
      · skip
        cases qB3
        · go_wp2_with (first | (go_at_call 49; (with_reducible refine (B1.out _).mono ?_); rintro r w' ⟨rfl, rfl⟩) | (go_at_call 49; (with_reducible refine (B2.out _).mono ?_); rintro r w' ⟨rfl, rfl⟩) | (go_at_call 49; (with_reducible refine (B3.out _).mono ?_); rintro r w' ⟨rfl, rfl⟩) | (go_at_call 49; (with_reducible refine (B4.out _).mono ?_); rintro r w' ⟨rfl, rfl⟩) | (go_at_call 49; (with_reducible refine (B5.out _).mono ?_); rintro r w' ⟨rfl, rfl⟩) | fail)
          go_meet
          case rel => exact ⟨rfl, HV2.out⟩
        · skip
          cases qB4
          · go_wp2_with (first | (go_at_call 49; (with_reducible refine (B1.out _).mono ?_); rintro r w' ⟨rfl, rfl⟩) | (go_at_call 49; (with_reducible refine (B2.out _).mono ?_); rintro r w' ⟨rfl, rfl⟩) | (go_at_call 49; (with_reducible refine (B3.out _).mono ?_); rintro r w' ⟨rfl, rfl⟩) | (go_at_call 49; (with_reducible refine (B4.out _).mono ?_); rintro r w' ⟨rfl, rfl⟩) | (go_at_call 49; (with_reducible refine (B5.out _).mono ?_); rintro r w' ⟨rfl, rfl⟩) | fail)
            go_meet
            case rel => exact ⟨rfl, HV2.out⟩
          · skip
            cases qB5
            · go_wp2_with (first | (go_at_call 49; (with_reducible refine (B1.out _).mono ?_); rintro r w' ⟨rfl, rfl⟩) | (go_at_call 49; (with_reducible refine (B2.out _).mono ?_); rintro r w' ⟨rfl, rfl⟩) | (go_at_call 49; (with_reducible refine (B3.out _).mono ?_); rintro r w' ⟨rfl, rfl⟩) | (go_at_call 49; (with_reducible refine (B4.out _).mono ?_); rintro r w' ⟨rfl, rfl⟩) | (go_at_call 49; (with_reducible refine (B5.out _).mono ?_); rintro r w' ⟨rfl, rfl⟩) | fail)
              go_meet
              case rel => exact ⟨rfl, HV2.out⟩
            · skip
              go_wp2_with (first | (go_at_call 49; (with_reducible refine (B1.out _).mono ?_); rintro r w' ⟨rfl, rfl⟩) | (go_at_call 49; (with_reducible refine (B2.out _).mono ?_); rintro r w' ⟨rfl, rfl⟩) | (go_at_call 49; (with_reducible refine (B3.out _).mono ?_); rintro r w' ⟨rfl, rfl⟩) | (go_at_call 49; (with_reducible refine (B4.out _).mono ?_); rintro r w' ⟨rfl, rfl⟩) | (go_at_call 49; (with_reducible refine (B5.out _).mono ?_); rintro r w' ⟨rfl, rfl⟩) | fail)
              go_meet
              case rel => exact ⟨rfl, HV2.out⟩
  obtain ⟨rfl, hv⟩ := hcut
  have HV := Lib.hid hv
  clear hv HV2 c0 c1 c2 c3 c4 c5 c6 c7 c8 c9 c10 c11 c12 c13 c14 c15 B1 B2 B3 B4 B5
  obtain ⟨c0, c1, c2, c3, c4, c5, c6, c7, c8, c9, c10, c11, c12, c13, c14, c15⟩ := efld HV.out.head
  generalize (qB1 && qB2 && qB3 && qB4 && qB5) = nu at HO ⊢
  go_upto_region 7 with fail
  refine wp_region_noPanic (Lk.wp_region_mix ord_rcheck (fun V => EFld V w.heap.size e) (by kernel_rfl) (by kernel_rfl) (fun _ _ _ _ _ h => h) (efld HV.out.drew.head) ?_)
  repeat (first | (refine Lk.mix_skip rfl ?_; simp only [Act.put, List.setIfInBounds_toArray, List.set_cons_zero, List.set_cons_succ]) | (refine Lk.mix_take ?_ rfl ?_ ?_; rotate_left; (focus (intro w' hS; (try dsimp only at hS); go_simp; try with_reducible rfl)); simp only [Act.put, List.setIfInBounds_toArray, List.set_cons_zero, List.set_cons_succ]))
  refine Lk.mix_nil (NoPanic.normal ?_)
  replace HV := Lib.hid HV.out.drew
  go_wp2_with fail
  go_ret
  exact ⟨ret_int (by rw [err_of HO.out]; simp [*] <;> omega), HV.out.old⟩

set_option maxRecDepth 100000 in
set_option maxHeartbeats 8000000 in
theorem rcheck_go (e : Eg) (w : World) (hE : EngIn w e) (h0 : Tb.rsB e.f.xs e.f.ys = true) : Calls Tryd.prog 42 #[.agg (ec e)] w fun r w' => r = .returned (.int .i64 (Em.err (en e))) ∧ Below w.heap.size w w' := by
  have h2 : 2 ≤ e.f.ys.length := by
    have hf : Em.Ri e.f.xs e.f.ys := (Em.ri_iff _ _).1 h0
    have := hf.ok.two
    have := hf.ok.same
    omega
  obtain ⟨bf, of, ef, hc⟩ := cellG hE.f.ya (show 0 < e.f.ys.length by omega)
  obtain ⟨⟨fA, fB, fca, fcb, fxs, fys⟩, tp, tq, th, l2, l1, lE, sl, st, li, le, di⟩ := e
  simp only at ef hc h2 h0
  subst ef
  have i1 : 0 < fys.length := by omega
  have HC : Hid (∀ V L, Hv w V L → V.cell? ⟨bf, of, none⟩ = some (.int .i64 (Tb.g fys 0))) := fun V L h => (h.old.cell (World.block_lt_of_cell? _ _ hc)).trans hc
  clear hc h2
  have HV := Lib.hid (one_e w ⟨⟨fA, some ⟨bf, of, none⟩, fca, fcb, fxs, fys⟩, tp, tq, th, l2, l1, lE, sl, st, li, le, di⟩)
  obtain ⟨bp, hp⟩ : ∃ b, Tb.rsB tp.xs tp.ys = b := ⟨_, rfl⟩
  obtain ⟨bq, hq⟩ : ∃ b, Tb.rsB tq.xs tq.ys = b := ⟨_, rfl⟩
  obtain ⟨bh, hh⟩ : ∃ b, Tb.rsB th.xs th.ys = b := ⟨_, rfl⟩
  obtain ⟨qA1, hA1⟩ : ∃ b, Em.within l2 1 64 = b := ⟨_, rfl⟩
  obtain ⟨qA2, hA2⟩ : ∃ b, Em.within l1 1 64 = b := ⟨_, rfl⟩
  obtain ⟨qA3, hA3⟩ : ∃ b, Em.within lE 1 64 = b := ⟨_, rfl⟩
  obtain ⟨qB1, hB1⟩ : ∃ b, Em.within sl 1 1048576 = b := ⟨_, rfl⟩
  obtain ⟨qB2, hB2⟩ : ∃ b, Em.within st 0 1048576 = b := ⟨_, rfl⟩
  obtain ⟨qB3, hB3⟩ : ∃ b, Em.within li 0 1048576 = b := ⟨_, rfl⟩
  obtain ⟨qB4, hB4⟩ : ∃ b, Em.within le 0 1048576 = b := ⟨_, rfl⟩
  obtain ⟨qB5, hB5⟩ : ∃ b, Em.within di 0 1048576 = b := ⟨_, rfl⟩
  have HO : Hid (Em.okB (en ⟨⟨fA, some ⟨bf, of, none⟩, fca, fcb, fxs, fys⟩, tp, tq, th, l2, l1, lE, sl, st, li, le, di⟩) = (true && bp && bq && bh && (qA1 && qA2 && qA3) && (qB1 && qB2 && qB3 && qB4 && qB5) && (decide (li ≤ st) && decide (1 ≤ le) && decide (le ≤ Tb.g fys 0)))) := by
    subst hp hq hh hA1 hA2 hA3 hB1 hB2 hB3 hB4 hB5
    show Em.okB _ = _
    rw [← h0]
    rfl
  have HF : Hid (∀ W, Below w.heap.size w W → Calls Tryd.prog 48 #[.agg #[.slice fA fxs.length fca, .slice (some ⟨bf, of, none⟩) fys.length fcb]] W fun r w' => r = .returned (.bool true) ∧ Below W.heap.size W w') := fun W hW => rr_v (t := ⟨fA, some ⟨bf, of, none⟩, fca, fcb, fxs, fys⟩) h0 hE.f hW
  have HP := Lib.hid (fun W (hW : Below w.heap.size w W) => rr_v hp hE.p hW)
  have HQ := Lib.hid (fun W (hW : Below w.heap.size w W) => rr_v hq hE.q hW)
  have HH := Lib.hid (fun W (hW : Below w.heap.size w W) => rr_v hh hE.h hW)
  have A1 := Lib.hid (rw_v hA1)
  have A2 := Lib.hid (rw_v hA2)
  have A3 := Lib.hid (rw_v hA3)
  have B1 := Lib.hid (rw_v hB1)
  have B2 := Lib.hid (rw_v hB2)
  have B3 := Lib.hid (rw_v hB3)
  have B4 := Lib.hid (rw_v hB4)
  have B5 := Lib.hid (rw_v hB5)
  clear hE h0 hp hq hh hA1 hA2 hA3 hB1 hB2 hB3 hB4 hB5
  generalize Tb.g fys 0 = y0 at HC HO
  obtain ⟨c0, c1, c2, c3, c4, c5, c6, c7, c8, c9, c10, c11, c12, c13, c14, c15⟩ := efld HV.out.head
  go_enter Tryd.func42, Tryd.ntmps42
  go_upto_region 5 with (first | (go_at_call 48; (with_reducible refine (HF.out _ HV.out.old).mono ?_); rintro r W ⟨rfl, hb⟩; replace HV := Lib.hid (HV.out.grow hb); clear hb c0 c1 c2 c3 c4 c5 c6 c7 c8 c9 c10 c11 c12 c13 c14 c15; obtain ⟨c0, c1, c2, c3, c4, c5, c6, c7, c8, c9, c10, c11, c12, c13, c14, c15⟩ := efld HV.out.head) | (go_at_call 48; (with_reducible refine (HP.out _ HV.out.old).mono ?_); rintro r W ⟨rfl, hb⟩; replace HV := Lib.hid (HV.out.grow hb); clear hb c0 c1 c2 c3 c4 c5 c6 c7 c8 c9 c10 c11 c12 c13 c14 c15; obtain ⟨c0, c1, c2, c3, c4, c5, c6, c7, c8, c9, c10, c11, c12, c13, c14, c15⟩ := efld HV.out.head) | (go_at_call 48; (with_reducible refine (HQ.out _ HV.out.old).mono ?_); rintro r W ⟨rfl, hb⟩; replace HV := Lib.hid (HV.out.grow hb); clear hb c0 c1 c2 c3 c4 c5 c6 c7 c8 c9 c10 c11 c12 c13 c14 c15; obtain ⟨c0, c1, c2, c3, c4, c5, c6, c7, c8, c9, c10, c11, c12, c13, c14, c15⟩ := efld HV.out.head) | (go_at_call 48; (with_reducible refine (HH.out _ HV.out.old).mono ?_); rintro r W ⟨rfl, hb⟩; replace HV := Lib.hid (HV.out.grow hb); clear hb c0 c1 c2 c3 c4 c5 c6 c7 c8 c9 c10 c11 c12 c13 c14 c15; obtain ⟨c0, c1, c2, c3, c4, c5, c6, c7, c8, c9, c10, c11, c12, c13, c14, c15⟩ := efld HV.out.head) | fail)
  go_cut [7] (fun t wx => t = .bool (qA1 && qA2 && qA3) ∧ Hv w wx [(w.heap.size, eo ⟨⟨fA, some ⟨bf, of, none⟩, fca, fcb, fxs, fys⟩, tp, tq, th, l2, l1, lE, sl, st, li, le, di⟩)])
  case first =>
    clear HF HP HQ HH B1 B2 B3 B4 B5 HO
    cases qA1
    · go_wp2_with (first | (go_at_call 49; (with_reducible refine (A1.out _).mono ?_); rintro r w' ⟨rfl, rfl⟩) | (go_at_call 49; (with_reducible refine (A2.out _).mono ?_); rintro r w' ⟨rfl, rfl⟩) | (go_at_call 49; (with_reducible refine (A3.out _).mono ?_); rintro r w' ⟨rfl, rfl⟩) | fail)
      go_meet
      case rel => exact ⟨rfl, HV.out⟩
    · skip
      cases qA2
      · go_wp2_with (first | (go_at_call 49; (with_reducible refine (A1.out _).mono ?_); rintro r w' ⟨rfl, rfl⟩) | (go_at_call 49; (with_reducible refine (A2.out _).mono ?_); rintro r w' ⟨rfl, rfl⟩) | (go_at_call 49; (with_reducible refine (A3.out _).mono ?_); rintro r w' ⟨rfl, rfl⟩) | fail)
        go_meet
        case rel => exact ⟨rfl, HV.out⟩
      · skip
        cases qA3
        · go_wp2_with (first | (go_at_call 49; (with_reducible refine (A1.out _).mono ?_); rintro r w' ⟨rfl, rfl⟩) | (go_at_call 49; (with_reducible refine (A2.out _).mono ?_); rintro r w' ⟨rfl, rfl⟩) | (go_at_call 49; (with_reducible refine (A3.out _).mono ?_); rintro r w' ⟨rfl, rfl⟩) | fail)
          go_meet
          case rel => exact ⟨rfl, HV.out⟩
        · skip
          go_wp2_with (first | (go_at_call 49; (with_reducible refine (A1.out _).mono ?_); rintro r w' ⟨rfl, rfl⟩) | (go_at_call 49; (with_reducible refine (A2.out _).mono ?_); rintro r w' ⟨rfl, rfl⟩) | (go_at_call 49; (with_reducible refine (A3.out _).mono ?_); rintro r w' ⟨rfl, rfl⟩) | fail)
          go_meet
          case rel => exact ⟨rfl, HV.out⟩
  obtain ⟨rfl, hv⟩ := hcut
  have HV2 := Lib.hid hv
  clear hv HV c0 c1 c2 c3 c4 c5 c6 c7 c8 c9 c10 c11 c12 c13 c14 c15 A1 A2 A3 HF HP HQ HH
  obtain ⟨c0, c1, c2, c3, c4, c5, c6, c7, c8, c9, c10, c11, c12, c13, c14, c15⟩ := efld HV2.out.head
  generalize (qA1 && qA2 && qA3) = la at HO ⊢
  go_upto_region 6 with fail
  go_cut [8] (fun t wx => t = .bool (qB1 && qB2 && qB3 && qB4 && qB5) ∧ Hv w wx [(w.heap.size, eo ⟨⟨fA, some ⟨bf, of, none⟩, fca, fcb, fxs, fys⟩, tp, tq, th, l2, l1, lE, sl, st, li, le, di⟩)])
  case first =>
    clear HO
    cases qB1
    · go_wp2_with (first | (go_at_call 49; (with_reducible refine (B1.out _).mono ?_); rintro r w' ⟨rfl, rfl⟩) | (go_at_call 49; (with_reducible refine (B2.out _).mono ?_); rintro r w' ⟨rfl, rfl⟩) | (go_at_call 49; (with_reducible refine (B3.out _).mono ?_); rintro r w' ⟨rfl, rfl⟩) | (go_at_call 49; (with_reducible refine (B4.out _).mono ?_); rintro r w' ⟨rfl, rfl⟩) | (go_at_call 49; (with_reducible refine (B5.out _).mono ?_); rintro r w' ⟨rfl, rfl⟩) | fail)
      go_meet
      case rel => exact ⟨rfl, HV2.out⟩
    · skip
      cases qB2
      · go_wp2_with (first | (go_at_call 49; (with_reducible refine (B1.out _).mono ?_); rintro r w' ⟨rfl, rfl⟩) | (go_at_call 49; (with_reducible refine (B2.out _).mono ?_); rintro r w' ⟨rfl, rfl⟩) | (go_at_call 49; (with_reducible refine (B3.out _).mono ?_); rintro r w' ⟨rfl, rfl⟩) | (go_at_call 49; (with_reducible refine (B4.out _).mono ?_); rintro r w' ⟨rfl, rfl⟩) | (go_at_call 49; (with_reducible refine (B5.out _).mono ?_); rintro r w' ⟨rfl, rfl⟩) | fail)
        go_meet
        case rel => exact ⟨rfl, HV2.out⟩
      · skip
        cases qB3
        · go_wp2_with (first | (go_at_call 49; (with_reducible refine (B1.out _).mono ?_); rintro r w' ⟨rfl, rfl⟩) | (go_at_call 49; (with_reducible refine (B2.out _).mono ?_); rintro r w' ⟨rfl, rfl⟩) | (go_at_call 49; (with_reducible refine (B3.out _).mono ?_); rintro r w' ⟨rfl, rfl⟩) | (go_at_call 49; (with_reducible refine (B4.out _).mono ?_); rintro r w' ⟨rfl, rfl⟩) | (go_at_call 49; (with_reducible refine (B5.out _).mono ?_); rintro r w' ⟨rfl, rfl⟩) | fail)
          go_meet
          case rel => exact ⟨rfl, HV2.out⟩
        · skip
          cases qB4
          · go_wp2_with (first | (go_at_call 49; (with_reducible refine (B1.out _).mono ?_); rintro r w' ⟨rfl, rfl⟩) | (go_at_call 49; (with_reducible refine (B2.out _).mono ?_); rintro r w' ⟨rfl, rfl⟩) | (go_at_call 49; (with_reducible refine (B3.out _).mono ?_); rintro r w' ⟨rfl, rfl⟩) | (go_at_call 49; (with_reducible refine (B4.out _).mono ?_); rintro r w' ⟨rfl, rfl⟩) | (go_at_call 49; (with_reducible refine (B5.out _).mono ?_); rintro r w' ⟨rfl, rfl⟩) | fail)
            go_meet
            case rel => exact ⟨rfl, HV2.out⟩
          · skip
            cases qB5
            · go_wp2_with (first | (go_at_call 49; (with_reducible refine (B1.out _).mono ?_); rintro r w' ⟨rfl, rfl⟩) | (go_at_call 49; (with_reducible refine (B2.out _).mono ?_); rintro r w' ⟨rfl, rfl⟩) | (go_at_call 49; (with_reducible refine (B3.out _).mono ?_); rintro r w' ⟨rfl, rfl⟩) | (go_at_call 49; (with_reducible refine (B4.out _).mono ?_); rintro r w' ⟨rfl, rfl⟩) | (go_at_call 49; (with_reducible refine (B5.out _).mono ?_); rintro r w' ⟨rfl, rfl⟩) | fail)
              go_meet
              case rel => exact ⟨rfl, HV2.out⟩
            · skip
              go_wp2_with (first | (go_at_call 49; (with_reducible refine (B1.out _).mono ?_); rintro r w' ⟨rfl, rfl⟩) | (go_at_call 49; (with_reducible refine (B2.out _).mono ?_); rintro r w' ⟨rfl, rfl⟩) | (go_at_call 49; (with_reducible refine (B3.out _).mono ?_); rintro r w' ⟨rfl, rfl⟩) | (go_at_call 49; (with_reducible refine (B4.out _).mono ?_); rintro r w' ⟨rfl, rfl⟩) | (go_at_call 49; (with_reducible refine (B5.out _).mono ?_); rintro r w' ⟨rfl, rfl⟩) | fail)
              go_meet
              case rel => exact ⟨rfl, HV2.out⟩
  obtain ⟨rfl, hv⟩ := hcut
  have HV := Lib.hid hv
  clear hv HV2 c0 c1 c2 c3 c4 c5 c6 c7 c8 c9 c10 c11 c12 c13 c14 c15 B1 B2 B3 B4 B5
  obtain ⟨c0, c1, c2, c3, c4, c5, c6, c7, c8, c9, c10, c11, c12, c13, c14, c15⟩ := efld HV.out.head
  generalize (qB1 && qB2 && qB3 && qB4 && qB5) = nu at HO ⊢
  have x0 := HC.out _ _ HV.out
  cases bp
  · go_upto_region 7 with fail
    refine wp_region_noPanic (Lk.wp_region_mix ord_rcheck (fun V => EFld V w.heap.size ⟨⟨fA, some ⟨bf, of, none⟩, fca, fcb, fxs, fys⟩, tp, tq, th, l2, l1, lE, sl, st, li, le, di⟩ ∧ V.cell? ⟨bf, of, none⟩ = some (.int .i64 y0)) (by kernel_rfl) (by kernel_rfl) (fun _ _ _ _ _ h => h) ⟨efld HV.out.drew.head, HC.out _ _ HV.out.drew⟩ ?_)
    repeat (first | (refine Lk.mix_skip rfl ?_; simp only [Act.put, List.setIfInBounds_toArray, List.set_cons_zero, List.set_cons_succ]) | (refine Lk.mix_take ?_ rfl ?_ ?_; rotate_left; (focus (intro w' hS; (try dsimp only at hS); go_simp; try with_reducible rfl)); simp only [Act.put, List.setIfInBounds_toArray, List.set_cons_zero, List.set_cons_succ]))
    refine Lk.mix_nil (NoPanic.normal ?_)
    replace HV := Lib.hid HV.out.drew
    go_wp2_with fail
    go_ret
    exact ⟨ret_int (by rw [err_of HO.out]; simp [*] <;> omega), HV.out.old⟩
  · skip
    cases bq
    · go_upto_region 7 with fail
      refine wp_region_noPanic (Lk.wp_region_mix ord_rcheck (fun V => EFld V w.heap.size ⟨⟨fA, some ⟨bf, of, none⟩, fca, fcb, fxs, fys⟩, tp, tq, th, l2, l1, lE, sl, st, li, le, di⟩ ∧ V.cell? ⟨bf, of, none⟩ = some (.int .i64 y0)) (by kernel_rfl) (by kernel_rfl) (fun _ _ _ _ _ h => h) ⟨efld HV.out.drew.head, HC.out _ _ HV.out.drew⟩ ?_)
      repeat (first | (refine Lk.mix_skip rfl ?_; simp only [Act.put, List.setIfInBounds_toArray, List.set_cons_zero, List.set_cons_succ]) | (refine Lk.mix_take ?_ rfl ?_ ?_; rotate_left; (focus (intro w' hS; (try dsimp only at hS); go_simp; try with_reducible rfl)); simp only [Act.put, List.setIfInBounds_toArray, List.set_cons_zero, List.set_cons_succ]))
      refine Lk.mix_nil (NoPanic.normal ?_)
      replace HV := Lib.hid HV.out.drew
      go_wp2_with fail
      go_ret
      exact ⟨ret_int (by rw [err_of HO.out]; simp [*] <;> omega), HV.out.old⟩
    · skip
      cases bh
      · go_upto_region 7 with fail
        refine wp_region_noPanic (Lk.wp_region_mix ord_rcheck (fun V => EFld V w.heap.size ⟨⟨fA, some ⟨bf, of, none⟩, fca, fcb, fxs, fys⟩, tp, tq, th, l2, l1, lE, sl, st, li, le, di⟩ ∧ V.cell? ⟨bf, of, none⟩ = some (.int .i64 y0)) (by kernel_rfl) (by kernel_rfl) (fun _ _ _ _ _ h => h) ⟨efld HV.out.drew.head, HC.out _ _ HV.out.drew⟩ ?_)
        repeat (first | (refine Lk.mix_skip rfl ?_; simp only [Act.put, List.setIfInBounds_toArray, List.set_cons_zero, List.set_cons_succ]) | (refine Lk.mix_take ?_ rfl ?_ ?_; rotate_left; (focus (intro w' hS; (try dsimp only at hS); go_simp; try with_reducible rfl)); simp only [Act.put, List.setIfInBounds_toArray, List.set_cons_zero, List.set_cons_succ]))
        refine Lk.mix_nil (NoPanic.normal ?_)
        replace HV := Lib.hid HV.out.drew
        go_wp2_with fail
        go_ret
        exact ⟨ret_int (by rw [err_of HO.out]; simp [*] <;> omega), HV.out.old⟩
      · skip
        cases la
        · go_upto_region 7 with fail
          refine wp_region_noPanic (Lk.wp_region_mix ord_rcheck (fun V => EFld V w.heap.size ⟨⟨fA, some ⟨bf, of, none⟩, fca, fcb, fxs, fys⟩, tp, tq, th, l2, l1, lE, sl, st, li, le, di⟩ ∧ V.cell? ⟨bf, of, none⟩ = some (.int .i64 y0)) (by kernel_rfl) (by kernel_rfl) (fun _ _ _ _ _ h => h) ⟨efld HV.out.drew.head, HC.out _ _ HV.out.drew⟩ ?_)
          repeat (first | (refine Lk.mix_skip rfl ?_; simp only [Act.put, List.setIfInBounds_toArray, List.set_cons_zero, List.set_cons_succ]) | (refine Lk.mix_take ?_ rfl ?_ ?_; rotate_left; (focus (intro w' hS; (try dsimp only at hS); go_simp; try with_reducible rfl)); simp only [Act.put, List.setIfInBounds_toArray, List.set_cons_zero, List.set_cons_succ]))
          refine Lk.mix_nil (NoPanic.normal ?_)
          replace HV := Lib.hid HV.out.drew
          go_wp2_with fail
          go_ret
          exact ⟨ret_int (by rw [err_of HO.out]; simp [*] <;> omega), HV.out.old⟩
        · skip
          cases nu
          · go_upto_region 7 with fail
            refine wp_region_noPanic (Lk.wp_region_mix ord_rcheck (fun V => EFld V w.heap.size ⟨⟨fA, some ⟨bf, of, none⟩, fca, fcb, fxs, fys⟩, tp, tq, th, l2, l1, lE, sl, st, li, le, di⟩ ∧ V.cell? ⟨bf, of, none⟩ = some (.int .i64 y0)) (by kernel_rfl) (by kernel_rfl) (fun _ _ _ _ _ h => h) ⟨efld HV.out.drew.head, HC.out _ _ HV.out.drew⟩ ?_)
            repeat (first | (refine Lk.mix_skip rfl ?_; simp only [Act.put, List.setIfInBounds_toArray, List.set_cons_zero, List.set_cons_succ]) | (refine Lk.mix_take ?_ rfl ?_ ?_; rotate_left; (focus (intro w' hS; (try dsimp only at hS); go_simp; try with_reducible rfl)); simp only [Act.put, List.setIfInBounds_toArray, List.set_cons_zero, List.set_cons_succ]))
            refine Lk.mix_nil (NoPanic.normal ?_)
            replace HV := Lib.hid HV.out.drew
            go_wp2_with fail
            go_ret
            exact ⟨ret_int (by rw [err_of HO.out]; simp [*] <;> omega), HV.out.old⟩
          · skip
            by_cases d12 : li ≤ st
            · have d12' : decide (st < li) = false := by simp; omega
              by_cases d14 : 1 ≤ le
              · have d14' : decide (le < 1) = false := by simp; omega
                by_cases d16 : le ≤ y0
                · have d16' : decide (y0 < le) = false := by simp; omega
                  go_upto_region 7 with fail
                  refine wp_region_noPanic (Lk.wp_region_mix ord_rcheck (fun V => EFld V w.heap.size ⟨⟨fA, some ⟨bf, of, none⟩, fca, fcb, fxs, fys⟩, tp, tq, th, l2, l1, lE, sl, st, li, le, di⟩ ∧ V.cell? ⟨bf, of, none⟩ = some (.int .i64 y0)) (by kernel_rfl) (by kernel_rfl) (fun _ _ _ _ _ h => h) ⟨efld HV.out.drew.head, HC.out _ _ HV.out.drew⟩ ?_)
                  repeat (first | (refine Lk.mix_skip rfl ?_; simp only [Act.put, List.setIfInBounds_toArray, List.set_cons_zero, List.set_cons_succ]) | (refine Lk.mix_take ?_ rfl ?_ ?_; rotate_left; (focus (intro w' hS; (try dsimp only at hS); go_simp; try with_reducible rfl)); simp only [Act.put, List.setIfInBounds_toArray, List.set_cons_zero, List.set_cons_succ]))
                  refine Lk.mix_nil (NoPanic.normal ?_)
                  replace HV := Lib.hid HV.out.drew
                  go_wp2_with fail
                  go_ret
                  exact ⟨ret_int (by rw [err_of HO.out]; simp [*] <;> omega), HV.out.old⟩
                · have d16' : decide (y0 < le) = true := by simp; omega
                  go_upto_region 7 with fail
                  refine wp_region_noPanic (Lk.wp_region_mix ord_rcheck (fun V => EFld V w.heap.size ⟨⟨fA, some ⟨bf, of, none⟩, fca, fcb, fxs, fys⟩, tp, tq, th, l2, l1, lE, sl, st, li, le, di⟩ ∧ V.cell? ⟨bf, of, none⟩ = some (.int .i64 y0)) (by kernel_rfl) (by kernel_rfl) (fun _ _ _ _ _ h => h) ⟨efld HV.out.drew.head, HC.out _ _ HV.out.drew⟩ ?_)
                  repeat (first | (refine Lk.mix_skip rfl ?_; simp only [Act.put, List.setIfInBounds_toArray, List.set_cons_zero, List.set_cons_succ]) | (refine Lk.mix_take ?_ rfl ?_ ?_; rotate_left; (focus (intro w' hS; (try dsimp only at hS); go_simp; try with_reducible rfl)); simp only [Act.put, List.setIfInBounds_toArray, List.set_cons_zero, List.set_cons_succ]))
                  refine Lk.mix_nil (NoPanic.normal ?_)
                  replace HV := Lib.hid HV.out.drew
                  go_wp2_with fail
                  go_ret
                  exact ⟨ret_int (by rw [err_of HO.out]; simp [*] <;> omega), HV.out.old⟩
              · have d14' : decide (le < 1) = true := by simp; omega
                go_upto_region 7 with fail
                refine wp_region_noPanic (Lk.wp_region_mix ord_rcheck (fun V => EFld V w.heap.size ⟨⟨fA, some ⟨bf, of, none⟩, fca, fcb, fxs, fys⟩, tp, tq, th, l2, l1, lE, sl, st, li, le, di⟩ ∧ V.cell? ⟨bf, of, none⟩ = some (.int .i64 y0)) (by kernel_rfl) (by kernel_rfl) (fun _ _ _ _ _ h => h) ⟨efld HV.out.drew.head, HC.out _ _ HV.out.drew⟩ ?_)
                repeat (first | (refine Lk.mix_skip rfl ?_; simp only [Act.put, List.setIfInBounds_toArray, List.set_cons_zero, List.set_cons_succ]) | (refine Lk.mix_take ?_ rfl ?_ ?_; rotate_left; (focus (intro w' hS; (try dsimp only at hS); go_simp; try with_reducible rfl)); simp only [Act.put, List.setIfInBounds_toArray, List.set_cons_zero, List.set_cons_succ]))
                refine Lk.mix_nil (NoPanic.normal ?_)
                replace HV := Lib.hid HV.out.drew
                go_wp2_with fail
                go_ret
                exact ⟨ret_int (by rw [err_of HO.out]; simp [*] <;> omega), HV.out.old⟩
            · have d12' : decide (st < li) = true := by simp; omega
              go_upto_region 7 with fail
              refine wp_region_noPanic (Lk.wp_region_mix ord_rcheck (fun V => EFld V w.heap.size ⟨⟨fA, some ⟨bf, of, none⟩, fca, fcb, fxs, fys⟩, tp, tq, th, l2, l1, lE, sl, st, li, le, di⟩ ∧ V.cell? ⟨bf, of, none⟩ = some (.int .i64 y0)) (by kernel_rfl) (by kernel_rfl) (fun _ _ _ _ _ h => h) ⟨efld HV.out.drew.head, HC.out _ _ HV.out.drew⟩ ?_)
              repeat (first | (refine Lk.mix_skip rfl ?_; simp only [Act.put, List.setIfInBounds_toArray, List.set_cons_zero, List.set_cons_succ]) | (refine Lk.mix_take ?_ rfl ?_ ?_; rotate_left; (focus (intro w' hS; (try dsimp only at hS); go_simp; try with_reducible rfl)); simp only [Act.put, List.setIfInBounds_toArray, List.set_cons_zero, List.set_cons_succ]))
              refine Lk.mix_nil (NoPanic.normal ?_)
              replace HV := Lib.hid HV.out.drew
              go_wp2_with fail
              go_ret
              exact ⟨ret_int (by rw [err_of HO.out]; simp [*] <;> omega), HV.out.old⟩

/-- **The document's Check**, of any engine. -/
theorem rcheck_c (e : Eg) (w : World) (hE : EngIn w e) : Calls Tryd.prog 42 #[.agg (ec e)] w fun r w' => r = .returned (.int .i64 (Em.err (en e))) ∧ Below w.heap.size w w' := by
  cases h : Tb.rsB e.f.xs e.f.ys with
  | false => exact rcheck_bad e w hE h
  | true => exact rcheck_go e w hE h
theorem rcheck_ok (e : Eg) (w : World) (hE : EngIn w e) (h : Em.okB (en e) = true) : Calls Tryd.prog 42 #[.agg (ec e)] w fun r w' => r = .returned (.int .i64 0) ∧ Below w.heap.size w w' := by
  have := rcheck_c e w hE
  rwa [show Em.err (en e) = 0 from by simp [Em.err, h]] at this
theorem rcheck_no (e : Eg) (w : World) (hE : EngIn w e) (h : Em.okB (en e) = false) : Calls Tryd.prog 42 #[.agg (ec e)] w fun r w' => r = .returned (.int .i64 100) ∧ Below w.heap.size w w' := by
  have := rcheck_c e w hE
  rwa [show Em.err (en e) = 100 from by simp [Em.err, h]] at this

end Ew
end Go.Proofs.YtodilljomjhohaaDoor
