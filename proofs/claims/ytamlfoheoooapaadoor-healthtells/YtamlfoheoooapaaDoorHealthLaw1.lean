/- The walk of HealthTells. Printed by gen_laws.py. -/
import Derived.Test.YtamlfoheoooapaaDoorHealthKit
import Derived.Test.YtamlfoheoooapaaDoorOrdKit
import Derived.Deep.DeepCutAuto
namespace Go.Proofs.YtamlfoheoooapaaDoor
namespace Qw
open Go.RowKit Lk

theorem two_t {w : World} {t : TypeId} (hR : w.heap[0]? = some (.cells cc t (0, 0))) (q s : Int) (f : Nat → Bool) : Hv w ((w.alloc (ho q s)).alloc (go f)) [(w.heap.size + 1, go f), (w.heap.size, ho q s), RO t] := by
  have := (((Hv.nil w).add (RO t) hR).made (ho q s)).made (go f)
  simpa only [World.size_alloc] using this
abbrev S2 (N : Nat) (q s : Int) (f : Nat → Bool) (V : World) : Prop := V.heap[N]? = some (ho q s) ∧ V.heap[N + 1]? = some (go f)
theorem s2 {w V : World} {N : Nat} {q s : Int} {f : Nat → Bool} {t : TypeId} (h : Hv w V [(N + 1, go f), (N, ho q s), RO t]) : S2 N q s f V := ⟨h.h2, h.head⟩

theorem ord_t2 : Lk.orderedB (Lk.opsOf Tryd.f3 2) [(0, false), (1, false), (2, false), (3, false), (5, false), (6, false), (4, true), (7, true), (8, false), (9, false), (10, false), (11, false), (12, false), (13, false), (15, false), (16, false), (17, false), (14, true), (18, true), (19, false), (20, false), (21, false), (22, false), (24, false), (23, true), (25, true), (26, false), (27, false), (28, false)] = true := by kernel_rfl

set_option maxRecDepth 100000 in
set_option maxHeartbeats 8000000 in
theorem HealthTells_walk (q s : Int) (f : Nat → Bool) (n : Int) (g : Bool) (t : TypeId) (w : World) (hR : w.heap[0]? = some (.cells cc t (0, 0))) : Calls Tryd.prog 3 #[.agg (hc q s), .agg (g5 f), .int .i64 n, .bool g] w fun r w' => r = .returned (.bool true) ∧ Below w.heap.size w w' := by
  have HV := Lib.hid (two_t hR q s f)
  have C1 := Lib.hid (fun W hR => score_c f n t W hR)
  have D1 := Lib.hid (fun W => rscore_c f n W)
  have C2 := Lib.hid (fun W hR => step_c q s f g t W hR)
  have D2 := Lib.hid (fun W => rstep_c q s f g W)
  have C3 := Lib.hid (fun W => well_c q s W)
  have D3 := Lib.hid (fun W => rwell_c q s W)
  generalize Hh.sc f n = y at C1 D1
  generalize Hh.nq q g = p at C2 D2
  generalize Hh.sc f p = z at C2 D2
  generalize Hh.well q s = b at C3 D3
  clear hR
  go_enter Tryd.func3, Tryd.ntmps3
  go_upto_region 2 with (first | (go_at_call 8; (with_reducible refine (awake_c t _ HV.out.h3).mono ?_); rintro r W ⟨rfl, hb⟩; replace HV := Lib.hid (HV.out.grow hb); clear hb) | fail)
  refine wp_region_noPanic (Lk.wp_region_ordered ord_t2 (S2 w.heap.size q s f) (by kernel_rfl) (by kernel_rfl) (fun _ _ _ _ _ h => h) (by first | (with_reducible exact (s2 HV.out)) | (with_reducible exact (s2 HV.out.drew))) ?_)
  replace HV := Lib.hid HV.out.drew
  iterate 6 (refine Lk.ord_take ?_ rfl rfl ?_ ?_; rotate_left; (focus (intro w' hS; obtain ⟨s1, s2⟩ := hS; first | (refine (rH _ rfl _ rfl s1).trans ?_; with_reducible rfl) | (refine (rG _ rfl _ rfl s2).trans ?_; with_reducible rfl) | (go_simp; try with_reducible rfl))); simp only [Act.put, List.setIfInBounds_toArray, List.set_cons_zero, List.set_cons_succ])
  refine Lk.ord_step rfl rfl (fun K hK => ?_)
  go_simp
  (with_reducible refine (C1.out _ HV.out.h3).mono ?_)
  rintro r W ⟨rfl, hb⟩
  replace HV := Lib.hid (HV.out.grow hb)
  clear hb
  refine hK.out _ _ (by first | (with_reducible exact (s2 HV.out)) | (with_reducible exact (s2 HV.out.drew))) ?_
  clear hK K
  try simp only [Act.put, List.setIfInBounds_toArray, List.set_cons_zero, List.set_cons_succ]
  refine Lk.ord_step rfl rfl (fun K hK => ?_)
  go_simp
  (with_reducible refine (D1.out _).mono ?_)
  rintro r W ⟨rfl, hb⟩
  replace HV := Lib.hid (HV.out.grow hb)
  clear hb
  refine hK.out _ _ (by first | (with_reducible exact (s2 HV.out)) | (with_reducible exact (s2 HV.out.drew))) ?_
  clear hK K
  try simp only [Act.put, List.setIfInBounds_toArray, List.set_cons_zero, List.set_cons_succ]
  iterate 9 (refine Lk.ord_take ?_ rfl rfl ?_ ?_; rotate_left; (focus (intro w' hS; obtain ⟨s1, s2⟩ := hS; first | (refine (rH _ rfl _ rfl s1).trans ?_; with_reducible rfl) | (refine (rG _ rfl _ rfl s2).trans ?_; with_reducible rfl) | (go_simp; try with_reducible rfl))); simp only [Act.put, List.setIfInBounds_toArray, List.set_cons_zero, List.set_cons_succ])
  refine Lk.ord_step rfl rfl (fun K hK => ?_)
  go_simp
  (with_reducible refine (C2.out _ HV.out.h3).mono ?_)
  rintro r W ⟨rfl, hb⟩
  replace HV := Lib.hid (HV.out.grow hb)
  clear hb
  refine hK.out _ _ (by first | (with_reducible exact (s2 HV.out)) | (with_reducible exact (s2 HV.out.drew))) ?_
  clear hK K
  try simp only [Act.put, List.setIfInBounds_toArray, List.set_cons_zero, List.set_cons_succ]
  refine Lk.ord_step rfl rfl (fun K hK => ?_)
  go_simp
  (with_reducible refine (D2.out _).mono ?_)
  rintro r W ⟨rfl, hb⟩
  replace HV := Lib.hid (HV.out.grow hb)
  clear hb
  refine hK.out _ _ (by first | (with_reducible exact (s2 HV.out)) | (with_reducible exact (s2 HV.out.drew))) ?_
  clear hK K
  try simp only [Act.put, List.setIfInBounds_toArray, List.set_cons_zero, List.set_cons_succ]
  iterate 5 (refine Lk.ord_take ?_ rfl rfl ?_ ?_; rotate_left; (focus (intro w' hS; obtain ⟨s1, s2⟩ := hS; first | (refine (rH _ rfl _ rfl s1).trans ?_; with_reducible rfl) | (refine (rG _ rfl _ rfl s2).trans ?_; with_reducible rfl) | (go_simp; try with_reducible rfl))); simp only [Act.put, List.setIfInBounds_toArray, List.set_cons_zero, List.set_cons_succ])
  refine Lk.ord_step rfl rfl (fun K hK => ?_)
  go_simp
  (with_reducible refine (C3.out _).mono ?_)
  rintro r W ⟨rfl, hb⟩
  replace HV := Lib.hid (HV.out.grow hb)
  clear hb
  refine hK.out _ _ (by first | (with_reducible exact (s2 HV.out)) | (with_reducible exact (s2 HV.out.drew))) ?_
  clear hK K
  try simp only [Act.put, List.setIfInBounds_toArray, List.set_cons_zero, List.set_cons_succ]
  refine Lk.ord_step rfl rfl (fun K hK => ?_)
  go_simp
  (with_reducible refine (D3.out _).mono ?_)
  rintro r W ⟨rfl, hb⟩
  replace HV := Lib.hid (HV.out.grow hb)
  clear hb
  refine hK.out _ _ (by first | (with_reducible exact (s2 HV.out)) | (with_reducible exact (s2 HV.out.drew))) ?_
  clear hK K
  try simp only [Act.put, List.setIfInBounds_toArray, List.set_cons_zero, List.set_cons_succ]
  iterate 3 (refine Lk.ord_take ?_ rfl rfl ?_ ?_; rotate_left; (focus (intro w' hS; obtain ⟨s1, s2⟩ := hS; first | (refine (rH _ rfl _ rfl s1).trans ?_; with_reducible rfl) | (refine (rG _ rfl _ rfl s2).trans ?_; with_reducible rfl) | (go_simp; try with_reducible rfl))); simp only [Act.put, List.setIfInBounds_toArray, List.set_cons_zero, List.set_cons_succ])
  refine Lk.ord_nil (NoPanic.normal ?_)
  go_wp2_with fail
  go_ret
  exact ⟨rfl, HV.out.old⟩
end Qw
end Go.Proofs.YtamlfoheoooapaaDoor
