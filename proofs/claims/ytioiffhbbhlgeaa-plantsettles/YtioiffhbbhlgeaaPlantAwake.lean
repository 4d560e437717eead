/- 'awake' of layer 21's statements answers true, and leaves all that lay. Printed by gen_awake.py. -/
import Derived.Test.YtioiffhbbhlgeaaPlantRun
namespace Go.Proofs.Ytioiffhbbhlgeaa
namespace Plw
open Go.RowKit TabC Lk Ew

abbrev P0 : Pl.Pt := ⟨4000, 5000, 450, 500, true⟩
abbrev P1 : Pl.Pt := ⟨4006, 5062, 461, 550, true⟩
instance : DecidableEq Pl.Pt := fun a b => decidable_of_iff (a.n1 = b.n1 ∧ a.n2 = b.n2 ∧ a.heat = b.heat ∧ a.valve = b.valve ∧ a.lit = b.lit) (by cases a; cases b; simp)
theorem k_okB : Em.okB K0 = true := by decide +kernel
theorem y0 {e : Eg} (h : en e = K0) (W : World) (hE : EngIn W e) : Calls Try.prog 13 #[.agg (ec e), .agg #[.int .i64 4000, .int .i64 5000, .int .i64 450, .int .i64 500, .bool true], .agg #[.int .i64 500, .bool true, .bool false, .bool false, .int .i64 0, .int .i64 0, .int .i64 0, .bool false]] W fun r w' => r = .returned (.agg #[.int .i64 4000, .int .i64 5000, .int .i64 450, .int .i64 500, .bool true]) ∧ Below W.heap.size W w' := by
  have := step_c e ⟨4000, 5000, 450, 500, true⟩ ⟨500, true, false, false, 0, 0, 0, false⟩ W hE
  rw [h, show Pl.step K0 ⟨4000, 5000, 450, 500, true⟩ ⟨500, true, false, false, 0, 0, 0, false⟩ = ⟨4000, 5000, 450, 500, true⟩ from by rw [Pl.step, if_pos k_okB]; decide +kernel] at this
  exact this
theorem y1 {e : Eg} (h : en e = K0) (W : World) (hE : EngIn W e) : Calls Try.prog 13 #[.agg (ec e), .agg #[.int .i64 4000, .int .i64 5000, .int .i64 450, .int .i64 500, .bool true], .agg #[.int .i64 900, .bool true, .bool false, .bool false, .int .i64 0, .int .i64 0, .int .i64 0, .bool false]] W fun r w' => r = .returned (.agg #[.int .i64 4006, .int .i64 5062, .int .i64 461, .int .i64 550, .bool true]) ∧ Below W.heap.size W w' := by
  have := step_c e ⟨4000, 5000, 450, 500, true⟩ ⟨900, true, false, false, 0, 0, 0, false⟩ W hE
  rw [h, show Pl.step K0 ⟨4000, 5000, 450, 500, true⟩ ⟨900, true, false, false, 0, 0, 0, false⟩ = ⟨4006, 5062, 461, 550, true⟩ from by rw [Pl.step, if_pos k_okB]; decide +kernel] at this
  exact this
theorem y2 {e : Eg} (h : en e = K0) (W : World) (hE : EngIn W e) : Calls Try.prog 11 #[.agg (ec e)] W fun r w' => r = .returned (.tuple #[.int .i64 8000, .int .i64 10000, .int .i64 900]) ∧ Below W.heap.size W w' := by
  have := ends_ok e W hE (by rw [h]; exact k_okB)
  rwa [h, show Pl.end1 K0 = 8000 from by decide +kernel, show Pl.end2 K0 = 10000 from by decide +kernel, show Pl.endH K0 = 900 from by decide +kernel] at this
theorem y3 {e : Eg} (h : en e = K0) (W : World) (hE : EngIn W e) : Calls Try.prog 15 #[.agg (ec e)] W fun r w' => r = .returned (.int .i64 1250) ∧ Below W.heap.size W w' := by
  have := rise_ok e W hE (by rw [h]; exact k_okB)
  rwa [h, show Pl.rise K0 = 1250 from by decide +kernel] at this
theorem y4 {e : Eg} (h : en e = K0) (W : World) (hE : EngIn W e) : Calls Try.prog 18 #[.agg (ec e), .agg #[.int .i64 4000, .int .i64 5000, .int .i64 450, .int .i64 500, .bool true], .agg #[.int .i64 500, .bool true, .bool false, .bool false, .int .i64 0, .int .i64 0, .int .i64 0, .bool false], .int .i64 9] W fun r w' => r = .returned (.agg #[.int .i64 4000, .int .i64 5000, .int .i64 450, .int .i64 500, .bool true]) ∧ Below W.heap.size W w' := by
  have := run_c e ⟨4000, 5000, 450, 500, true⟩ ⟨500, true, false, false, 0, 0, 0, false⟩ 9 W hE
  have hs : Pl.step K0 ⟨4000, 5000, 450, 500, true⟩ ⟨500, true, false, false, 0, 0, 0, false⟩ = ⟨4000, 5000, 450, 500, true⟩ := by rw [Pl.step, if_pos k_okB]; decide +kernel
  have hr : ∀ n, Pl.runs K0 ⟨4000, 5000, 450, 500, true⟩ ⟨500, true, false, false, 0, 0, 0, false⟩ n = ⟨4000, 5000, 450, 500, true⟩ := fun n => by
    induction n with
    | zero => rfl
    | succ n ih => rw [Pl.runs, ih, hs]
  rw [h, hr, if_neg (by decide)] at this
  exact this
theorem ord_aw : Lk.orderedB (Lk.opsOf Try.f9 6) [(0, false), (1, false), (2, false), (3, false), (4, false), (5, false), (6, false), (7, false), (8, false), (9, false), (10, true), (11, false), (12, false), (13, false), (14, false), (15, false), (16, false), (17, false), (18, false), (19, false), (20, false), (21, false), (22, false), (23, false), (24, false), (25, false), (26, false), (27, false), (28, false), (30, false), (29, true), (31, false), (32, false), (33, false)] = true := by kernel_rfl

set_option maxRecDepth 100000 in
set_option maxHeartbeats 4000000 in
theorem awake_c (w : World) : Calls Try.prog 9 #[] w fun r w' => r = .returned (.bool true) ∧ Below w.heap.size w w' := by
  have HV := Lib.hid (Hv.nil w)
  go_enter Try.func9, Try.ntmps9
  go_wp2_with fail
  refine (engine_c w).mono ?_
  rintro r W0 ⟨e, he, rfl, hE, hb⟩
  replace HV := Lib.hid (((HV.out.grow hb).made (eo e)).made (po P0))
  have HE := Lib.hid (fun W (hb : Below W0.heap.size W0 W) => hE.below hb)
  have HB := Lib.hid (((Below.refl W0.heap.size W0).alloc (Nat.le_refl _) (eo e)).alloc (by simp) (po P0))
  have C0 := Lib.hid (fun W h => y0 he W (HE.out W h))
  have C1 := Lib.hid (fun W h => y1 he W (HE.out W h))
  have C2 := Lib.hid (fun W h => y2 he W (HE.out W h))
  have C3 := Lib.hid (fun W h => y3 he W (HE.out W h))
  have C4 := Lib.hid (fun W h => y4 he W (HE.out W h))
  simp only [World.size_alloc] at HV
  clear hE he hb HE
  go_wp2_with (first | (refine lde rfl _ rfl _ _ rfl HV.out.h2 ?_) | (refine lde rfl _ rfl _ _ rfl HV.out.h3 ?_) | (refine lde rfl _ rfl _ _ rfl HV.out.h4 ?_) | (refine ldp rfl _ rfl _ P0 rfl HV.out.head ?_) | (refine ldp rfl _ rfl _ P0 rfl HV.out.h2 ?_) | (go_at_call 13; (with_reducible refine (C0.out _ HB.out).mono ?_); rintro r W1 ⟨rfl, hb⟩; replace HV := Lib.hid ((HV.out.grow hb).made (po P0)); replace HB := Lib.hid ((HB.out.trans (hb.mono HB.out.size)).alloc (Nat.le_trans HB.out.size hb.size) (po P0)); clear hb) | (go_at_call 13; (with_reducible refine (C1.out _ HB.out).mono ?_); rintro r W2 ⟨rfl, hb⟩; replace HV := Lib.hid ((HV.out.grow hb).made (po P1)); replace HB := Lib.hid ((HB.out.trans (hb.mono HB.out.size)).alloc (Nat.le_trans HB.out.size hb.size) (po P1)); clear hb) | (go_at_call 11; (with_reducible refine (C2.out _ HB.out).mono ?_); rintro r W3 ⟨rfl, hb⟩; replace HV := Lib.hid (HV.out.grow hb); replace HB := Lib.hid (HB.out.trans (hb.mono HB.out.size)); clear hb) | fail)
  refine wp_region_noPanic (Lk.wp_region_ordered ord_aw (fun V => V.heap[W0.heap.size]? = some (eo e) ∧ V.heap[W0.heap.size + 1]? = some (po P0) ∧ V.heap[W1.heap.size]? = some (po P0) ∧ V.heap[W2.heap.size]? = some (po P1)) (by kernel_rfl) (by kernel_rfl) (fun _ _ _ _ _ h => h) (by first | (with_reducible exact ⟨HV.out.h4, HV.out.h3, HV.out.h2, HV.out.head⟩) | (with_reducible exact ⟨HV.out.drew.h4, HV.out.drew.h3, HV.out.drew.h2, HV.out.drew.head⟩)) ?_)
  replace HV := Lib.hid HV.out.drew
  iterate 10 (refine Lk.ord_take ?_ rfl rfl ?_ ?_; rotate_left; (focus (intro w' hS; (try dsimp only at hS); first | (refine (rE hS.1 _ rfl rfl).trans ?_; with_reducible rfl) | (refine (rPl hS.2.1 _ rfl rfl).trans ?_; with_reducible rfl) | (refine (rPl hS.2.2.1 _ rfl rfl).trans ?_; with_reducible rfl) | (refine (rPl hS.2.2.2 _ rfl rfl).trans ?_; with_reducible rfl) | (refine (rEq (p := P0) _ _ rfl rfl rfl).trans ?_; with_reducible rfl) | (refine (rEq (p := P1) _ _ rfl rfl rfl).trans ?_; with_reducible rfl) | (go_simp; try with_reducible rfl))); simp only [Act.put, List.setIfInBounds_toArray, List.set_cons_zero, List.set_cons_succ])
  refine Lk.ord_step rfl rfl (fun K hK => ?_)
  go_simp
  (with_reducible refine (C3.out _ HB.out.drew).mono ?_)
  rintro r W ⟨rfl, hb⟩
  replace HV := Lib.hid (HV.out.grow hb)
  replace HB := Lib.hid (HB.out.drew.trans (hb.mono HB.out.size))
  clear hb
  refine hK.out _ _ (by first | (with_reducible exact ⟨HV.out.h4, HV.out.h3, HV.out.h2, HV.out.head⟩) | (with_reducible exact ⟨HV.out.drew.h4, HV.out.drew.h3, HV.out.drew.h2, HV.out.drew.head⟩)) ?_
  clear hK K
  try simp only [Act.put, List.setIfInBounds_toArray, List.set_cons_zero, List.set_cons_succ]
  iterate 19 (refine Lk.ord_take ?_ rfl rfl ?_ ?_; rotate_left; (focus (intro w' hS; (try dsimp only at hS); first | (refine (rE hS.1 _ rfl rfl).trans ?_; with_reducible rfl) | (refine (rPl hS.2.1 _ rfl rfl).trans ?_; with_reducible rfl) | (refine (rPl hS.2.2.1 _ rfl rfl).trans ?_; with_reducible rfl) | (refine (rPl hS.2.2.2 _ rfl rfl).trans ?_; with_reducible rfl) | (refine (rEq (p := P0) _ _ rfl rfl rfl).trans ?_; with_reducible rfl) | (refine (rEq (p := P1) _ _ rfl rfl rfl).trans ?_; with_reducible rfl) | (go_simp; try with_reducible rfl))); simp only [Act.put, List.setIfInBounds_toArray, List.set_cons_zero, List.set_cons_succ])
  refine Lk.ord_step rfl rfl (fun K hK => ?_)
  go_simp
  (with_reducible refine (C4.out _ HB.out).mono ?_)
  rintro r W ⟨rfl, hb⟩
  replace HV := Lib.hid (HV.out.grow hb)
  replace HB := Lib.hid (HB.out.trans (hb.mono HB.out.size))
  clear hb
  refine hK.out _ _ (by first | (with_reducible exact ⟨HV.out.h4, HV.out.h3, HV.out.h2, HV.out.head⟩) | (with_reducible exact ⟨HV.out.drew.h4, HV.out.drew.h3, HV.out.drew.h2, HV.out.drew.head⟩)) ?_
  clear hK K
  try simp only [Act.put, List.setIfInBounds_toArray, List.set_cons_zero, List.set_cons_succ]
  iterate 3 (refine Lk.ord_take ?_ rfl rfl ?_ ?_; rotate_left; (focus (intro w' hS; (try dsimp only at hS); first | (refine (rE hS.1 _ rfl rfl).trans ?_; with_reducible rfl) | (refine (rPl hS.2.1 _ rfl rfl).trans ?_; with_reducible rfl) | (refine (rPl hS.2.2.1 _ rfl rfl).trans ?_; with_reducible rfl) | (refine (rPl hS.2.2.2 _ rfl rfl).trans ?_; with_reducible rfl) | (refine (rEq (p := P0) _ _ rfl rfl rfl).trans ?_; with_reducible rfl) | (refine (rEq (p := P1) _ _ rfl rfl rfl).trans ?_; with_reducible rfl) | (go_simp; try with_reducible rfl))); simp only [Act.put, List.setIfInBounds_toArray, List.set_cons_zero, List.set_cons_succ])
  refine Lk.ord_nil (NoPanic.normal ?_)
  go_wp2_with fail
  go_ret
  exact ⟨rfl, HV.out.old⟩

end Plw
end Go.Proofs.Ytioiffhbbhlgeaa
