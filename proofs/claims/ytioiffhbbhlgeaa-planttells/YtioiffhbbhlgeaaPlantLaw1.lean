/- PlantTells. Printed by gen_law1.py. -/
import Derived.Test.YtioiffhbbhlgeaaPlantAwake
import Derived.Test.YtioiffhbbhlgeaaPlantRef2
import Derived.Test.YtioiffhbbhlgeaaSynthLaw1
namespace Go.Proofs.Ytioiffhbbhlgeaa
namespace Plw
open Go.RowKit TabC Lk Ew

theorem ends_v (e : Eg) : ∃ x y z : Int, (∀ W, EngIn W e → Calls Try.prog 11 #[.agg (ec e)] W fun r w' => r = .returned (.tuple #[.int .i64 x, .int .i64 y, .int .i64 z]) ∧ Below W.heap.size W w') ∧ (∀ W, EngIn W e → Calls Try.prog 12 #[.agg (ec e)] W fun r w' => r = .returned (.tuple #[.int .i64 x, .int .i64 y, .int .i64 z]) ∧ Below W.heap.size W w') := by
  cases hk : Em.okB (en e) with
  | true => exact ⟨_, _, _, fun W hE => ends_ok e W hE hk, fun W hE => rends_ok e W hE hk⟩
  | false => exact ⟨_, _, _, fun W hE => ends_no e W hE hk, fun W hE => rends_no e W hE hk⟩
theorem rise_v (e : Eg) : ∃ n : Int, (∀ W, EngIn W e → Calls Try.prog 15 #[.agg (ec e)] W fun r w' => r = .returned (.int .i64 n) ∧ Below W.heap.size W w') ∧ (∀ W, EngIn W e → Calls Try.prog 16 #[.agg (ec e)] W fun r w' => r = .returned (.int .i64 n) ∧ Below W.heap.size W w') := by
  cases hk : Em.okB (en e) with
  | true => exact ⟨_, fun W hE => rise_ok e W hE hk, fun W hE => rrise_ok e W hE hk⟩
  | false => exact ⟨_, fun W hE => rise_no e W hE hk, fun W hE => rrise_no e W hE hk⟩
theorem ord_tells : Lk.orderedB (Lk.opsOf Try.f3 6) [(0, false), (1, false), (2, false), (3, false), (4, false), (6, false), (7, false), (8, false), (5, true), (9, true), (10, false), (11, false), (12, false), (13, false), (15, false), (14, true), (16, true), (17, false), (18, false), (19, false), (20, false), (21, false), (22, false), (23, false), (24, false), (25, false), (26, false), (27, false), (28, false), (29, false), (30, false), (31, false), (32, false), (33, false), (34, false)] = true := by kernel_rfl
set_option maxRecDepth 100000 in
set_option maxHeartbeats 8000000 in
theorem tells_few (e : Eg) (p : Pl.Pt) (d : Pl.Dr) (w : World) (h1 : fewE e = false) : Calls Try.prog 3 #[.agg (ec e), .agg (pc p), .agg (dc d)] w fun r w' => r = .returned (.bool true) ∧ Below w.heap.size w w' := by
  have HV := Lib.hid (three_b w e p d)
  have F1 := Lib.hid (Ew.few_v h1)
  clear h1
  go_enter Try.func3, Try.ntmps3
  go_wp2_with (first | (refine lde rfl _ rfl _ _ rfl HV.out.h3 ?_) | (go_at_call 9; (with_reducible refine (awake_c _).mono ?_); rintro r W ⟨rfl, hb⟩; replace HV := Lib.hid (HV.out.grow hb); clear hb) | (go_at_call 10; (with_reducible refine (F1.out _).mono ?_); rintro r W ⟨rfl, hb⟩; replace HV := Lib.hid (HV.out.grow hb); clear hb) | fail)
  go_ret
  exact ⟨rfl, HV.out.old⟩
set_option maxRecDepth 100000 in
set_option maxHeartbeats 8000000 in
theorem tells_go (e : Eg) (p : Pl.Pt) (d : Pl.Dr) (w : World) (hE : EngIn w e) (h1 : fewE e = true) : Calls Try.prog 3 #[.agg (ec e), .agg (pc p), .agg (dc d)] w fun r w' => r = .returned (.bool true) ∧ Below w.heap.size w w' := by
  have HV := Lib.hid (three_b w e p d)
  have F1 := Lib.hid (Ew.few_v h1)
  obtain ⟨x, y, z, k1, k2⟩ := ends_v e
  obtain ⟨n, k3, k4⟩ := rise_v e
  obtain ⟨q, hq⟩ : ∃ q, Pl.step (en e) p d = q := ⟨_, rfl⟩
  have C1 := Lib.hid (fun W (hW : Below w.heap.size w W) => k1 W (hE.below hW))
  have C2 := Lib.hid (fun W (hW : Below w.heap.size w W) => k2 W (hE.below hW))
  have C3 := Lib.hid (fun W (hW : Below w.heap.size w W) => k3 W (hE.below hW))
  have C4 := Lib.hid (fun W (hW : Below w.heap.size w W) => k4 W (hE.below hW))
  have C5 := Lib.hid (fun W (hW : Below w.heap.size w W) => hq ▸ step_c e p d W (hE.below hW))
  have C6 := Lib.hid (fun W (hW : Below w.heap.size w W) => hq ▸ rstep_c e p d W (hE.below hW))
  clear h1 hE hq k1 k2 k3 k4
  go_enter Try.func3, Try.ntmps3
  go_wp2_with (first | (refine lde rfl _ rfl _ _ rfl HV.out.h3 ?_) | (go_at_call 9; (with_reducible refine (awake_c _).mono ?_); rintro r W ⟨rfl, hb⟩; replace HV := Lib.hid (HV.out.grow hb); clear hb) | (go_at_call 10; (with_reducible refine (F1.out _).mono ?_); rintro r W ⟨rfl, hb⟩; replace HV := Lib.hid (HV.out.grow hb); clear hb) | (go_at_call 11; (with_reducible refine (C1.out _ HV.out.old).mono ?_); rintro r W ⟨rfl, hb⟩; replace HV := Lib.hid (HV.out.grow hb); clear hb) | (go_at_call 12; (with_reducible refine (C2.out _ HV.out.old).mono ?_); rintro r W ⟨rfl, hb⟩; replace HV := Lib.hid (HV.out.grow hb); clear hb) | fail)
  refine wp_region_noPanic (Lk.wp_region_ordered ord_tells (fun V => V.heap[w.heap.size]? = some (eo e) ∧ V.heap[w.heap.size + 1]? = some (po p) ∧ V.heap[w.heap.size + 1 + 1]? = some (dro d)) (by kernel_rfl) (by kernel_rfl) (fun _ _ _ _ _ h => h) (by first | (with_reducible exact ⟨HV.out.h3, HV.out.h2, HV.out.head⟩) | (with_reducible exact ⟨HV.out.drew.h3, HV.out.drew.h2, HV.out.drew.head⟩)) ?_)
  replace HV := Lib.hid HV.out.drew
  iterate 8 (refine Lk.ord_take ?_ rfl rfl ?_ ?_; rotate_left; (focus (intro w' hS; (try dsimp only at hS); first | (refine (rE hS.1 _ rfl rfl).trans ?_; with_reducible rfl) | (refine (rPl hS.2.1 _ rfl rfl).trans ?_; with_reducible rfl) | (refine (rDr hS.2.2 _ rfl rfl).trans ?_; with_reducible rfl) | (refine (rEq (p := q) _ _ rfl rfl rfl).trans ?_; with_reducible rfl) | (go_simp; try with_reducible rfl))); simp only [Act.put, List.setIfInBounds_toArray, List.set_cons_zero, List.set_cons_succ])
  refine Lk.ord_step rfl rfl (fun K hK => ?_)
  go_simp
  (with_reducible refine (C5.out _ HV.out.old).mono ?_)
  rintro r W ⟨rfl, hb⟩
  replace HV := Lib.hid (HV.out.grow hb)
  clear hb
  refine hK.out _ _ (by first | (with_reducible exact ⟨HV.out.h3, HV.out.h2, HV.out.head⟩) | (with_reducible exact ⟨HV.out.drew.h3, HV.out.drew.h2, HV.out.drew.head⟩)) ?_
  clear hK K
  try simp only [Act.put, List.setIfInBounds_toArray, List.set_cons_zero, List.set_cons_succ]
  refine Lk.ord_step rfl rfl (fun K hK => ?_)
  go_simp
  (with_reducible refine (C6.out _ HV.out.old).mono ?_)
  rintro r W ⟨rfl, hb⟩
  replace HV := Lib.hid (HV.out.grow hb)
  clear hb
  refine hK.out _ _ (by first | (with_reducible exact ⟨HV.out.h3, HV.out.h2, HV.out.head⟩) | (with_reducible exact ⟨HV.out.drew.h3, HV.out.drew.h2, HV.out.drew.head⟩)) ?_
  clear hK K
  try simp only [Act.put, List.setIfInBounds_toArray, List.set_cons_zero, List.set_cons_succ]
  iterate 5 (refine Lk.ord_take ?_ rfl rfl ?_ ?_; rotate_left; (focus (intro w' hS; (try dsimp only at hS); first | (refine (rE hS.1 _ rfl rfl).trans ?_; with_reducible rfl) | (refine (rPl hS.2.1 _ rfl rfl).trans ?_; with_reducible rfl) | (refine (rDr hS.2.2 _ rfl rfl).trans ?_; with_reducible rfl) | (refine (rEq (p := q) _ _ rfl rfl rfl).trans ?_; with_reducible rfl) | (go_simp; try with_reducible rfl))); simp only [Act.put, List.setIfInBounds_toArray, List.set_cons_zero, List.set_cons_succ])
  refine Lk.ord_step rfl rfl (fun K hK => ?_)
  go_simp
  (with_reducible refine (C3.out _ HV.out.old).mono ?_)
  rintro r W ⟨rfl, hb⟩
  replace HV := Lib.hid (HV.out.grow hb)
  clear hb
  refine hK.out _ _ (by first | (with_reducible exact ⟨HV.out.h3, HV.out.h2, HV.out.head⟩) | (with_reducible exact ⟨HV.out.drew.h3, HV.out.drew.h2, HV.out.drew.head⟩)) ?_
  clear hK K
  try simp only [Act.put, List.setIfInBounds_toArray, List.set_cons_zero, List.set_cons_succ]
  refine Lk.ord_step rfl rfl (fun K hK => ?_)
  go_simp
  (with_reducible refine (C4.out _ HV.out.old).mono ?_)
  rintro r W ⟨rfl, hb⟩
  replace HV := Lib.hid (HV.out.grow hb)
  clear hb
  refine hK.out _ _ (by first | (with_reducible exact ⟨HV.out.h3, HV.out.h2, HV.out.head⟩) | (with_reducible exact ⟨HV.out.drew.h3, HV.out.drew.h2, HV.out.drew.head⟩)) ?_
  clear hK K
  try simp only [Act.put, List.setIfInBounds_toArray, List.set_cons_zero, List.set_cons_succ]
  iterate 18 (refine Lk.ord_take ?_ rfl rfl ?_ ?_; rotate_left; (focus (intro w' hS; (try dsimp only at hS); first | (refine (rE hS.1 _ rfl rfl).trans ?_; with_reducible rfl) | (refine (rPl hS.2.1 _ rfl rfl).trans ?_; with_reducible rfl) | (refine (rDr hS.2.2 _ rfl rfl).trans ?_; with_reducible rfl) | (refine (rEq (p := q) _ _ rfl rfl rfl).trans ?_; with_reducible rfl) | (go_simp; try with_reducible rfl))); simp only [Act.put, List.setIfInBounds_toArray, List.set_cons_zero, List.set_cons_succ])
  refine Lk.ord_nil (NoPanic.normal ?_)
  go_wp2_with fail
  go_ret
  exact ⟨rfl, HV.out.old⟩
theorem PlantTells_walk (e : Eg) (p : Pl.Pt) (d : Pl.Dr) (w : World) (hE : EngIn w e) : Calls Try.prog 3 #[.agg (ec e), .agg (pc p), .agg (dc d)] w fun r w' => r = .returned (.bool true) ∧ Below w.heap.size w w' := by
  cases h1 : fewE e with
  | false => exact tells_few e p d w h1
  | true => exact tells_go e p d w hE h1

end Plw
end Go.Proofs.Ytioiffhbbhlgeaa
