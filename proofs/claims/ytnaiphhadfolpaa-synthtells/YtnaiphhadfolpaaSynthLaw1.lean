/- Few, and the walk of SynthTells. -/
import Derived.Test.YtnaiphhadfolpaaSynthAwake
import Derived.Test.YtnaiphhadfolpaaSynthRef
import Derived.Laws.StructEq
import Derived.Test.YtnaiphhadfolpaaOrdKit
namespace Go.Proofs.Ytnaiphhadfolpaa
namespace Ew
open Go.RowKit TabC Lk

def fewE (e : Eg) : Bool := fewB e.f.xs e.f.ys && fewB e.p.xs e.p.ys && fewB e.q.xs e.q.ys && fewB e.h.xs e.h.ys
theorem fw_v {t : Tv} {b : Bool} (h : fewB t.xs t.ys = b) (W : World) : Calls Try.prog 18 #[.agg #[.slice t.A t.xs.length t.ca, .slice t.B t.ys.length t.cb]] W fun r w' => r = .returned (.bool b) ∧ Below W.heap.size W w' := h ▸ few_c t.A t.B t.ca t.cb t.xs t.ys W

set_option maxRecDepth 100000 in
set_option maxHeartbeats 4000000 in
theorem few_e (e : Eg) (w : World) : Calls Try.prog 9 #[.agg (ec e)] w fun r w' => r = .returned (.bool (fewE e)) ∧ Below w.heap.size w w' := by
  have HV := Lib.hid (one_e w e)
  obtain ⟨c0, c1, c2, c3, c4, c5, c6, c7, _⟩ := efld HV.out.head
  obtain ⟨b1, h1⟩ : ∃ b, fewB e.f.xs e.f.ys = b := ⟨_, rfl⟩
  obtain ⟨b2, h2⟩ : ∃ b, fewB e.p.xs e.p.ys = b := ⟨_, rfl⟩
  obtain ⟨b3, h3⟩ : ∃ b, fewB e.q.xs e.q.ys = b := ⟨_, rfl⟩
  obtain ⟨b4, h4⟩ : ∃ b, fewB e.h.xs e.h.ys = b := ⟨_, rfl⟩
  rw [show fewE e = (b1 && b2 && b3 && b4) from by simp only [fewE, h1, h2, h3, h4]]
  have C1 := Lib.hid (fw_v h1)
  have C2 := Lib.hid (fw_v h2)
  have C3 := Lib.hid (fw_v h3)
  have C4 := Lib.hid (fw_v h4)
  clear h1 h2 h3 h4
  go_enter Try.func9, Try.ntmps9
  go_wp2_with (first | (go_at_call 18; (first | (with_reducible refine (C1.out _).mono ?_) | (with_reducible refine (C2.out _).mono ?_) | (with_reducible refine (C3.out _).mono ?_) | (with_reducible refine (C4.out _).mono ?_)); rintro r W ⟨rfl, hb⟩; replace HV := Lib.hid (HV.out.grow hb); clear hb c0 c1 c2 c3 c4 c5 c6 c7; obtain ⟨c0, c1, c2, c3, c4, c5, c6, c7, _⟩ := efld HV.out.head) | fail)
  all_goals
    go_ret
    exact ⟨ret_bool (by simp [*]), HV.out.old⟩

theorem eqb5 (m : Nat → Int) (w : World) : (binOp .eql 28 (.agg (i5 m)) (.agg (i5 m))).run Try.prog w = .ok (.bool true) w := by
  rw [run_eql_struct, eq5]
  rfl
theorem two_ev (w : World) (e : Eg) (v : Nat → Int) : Hv w ((w.alloc (eo e)).alloc (io v)) [(w.heap.size + 1, io v), (w.heap.size, eo e)] := by
  have := (one_e w e).made (io v)
  rwa [World.size_alloc] at this
theorem few_v {e : Eg} {b : Bool} (h : fewE e = b) (W : World) : Calls Try.prog 9 #[.agg (ec e)] W fun r w' => r = .returned (.bool b) ∧ Below W.heap.size W w' := h ▸ few_e e W

set_option maxRecDepth 100000 in
set_option maxHeartbeats 4000000 in
theorem tells_few (e : Eg) (v : Nat → Int) (f : Int) (w : World) (h : fewE e = false) : Calls Try.prog 4 #[.agg (ec e), .agg (i5 v), .int .i64 f] w fun r w' => r = .returned (.bool true) ∧ Below w.heap.size w w' := by
  have HV := Lib.hid (two_ev w e v)
  have C1 := Lib.hid (few_v h)
  clear h
  go_enter Try.func4, Try.ntmps4
  go_wp2_with (first | (refine lde rfl _ rfl _ _ rfl HV.out.h2 ?_) | (go_at_call 8; (with_reducible refine (awake_c _).mono ?_); rintro r W ⟨rfl, hb⟩; replace HV := Lib.hid (HV.out.grow hb); clear hb) | (go_at_call 9; (with_reducible refine (C1.out _).mono ?_); rintro r W ⟨rfl, hb⟩; replace HV := Lib.hid (HV.out.grow hb); clear hb) | fail)
  go_ret
  exact ⟨rfl, HV.out.old⟩

theorem ord_tells : Lk.orderedB (Lk.opsOf Try.f4 6) [(0, false), (1, false), (2, false), (4, false), (3, true), (5, true), (6, false), (7, false), (8, false), (9, false), (10, false), (11, false), (12, false), (13, false), (14, false), (15, false), (16, false), (17, false), (18, false), (19, false), (20, false), (21, false), (22, false), (23, false), (24, false), (25, false), (27, false), (28, false), (26, true), (29, true), (30, false), (31, false), (32, false)] = true := by kernel_rfl
set_option maxRecDepth 100000 in
set_option maxHeartbeats 4000000 in
theorem tells_go (e : Eg) (v : Nat → Int) (f : Int) (w : World) (hE : EngIn w e) (h : fewE e = true) : Calls Try.prog 4 #[.agg (ec e), .agg (i5 v), .int .i64 f] w fun r w' => r = .returned (.bool true) ∧ Below w.heap.size w w' := by
  have HV := Lib.hid (two_ev w e v)
  have C1 := Lib.hid (few_v h)
  have C2 := Lib.hid (fun W (hW : Below w.heap.size w W) => rest_c e f W (hE.below hW))
  have C3 := Lib.hid (fun W (hW : Below w.heap.size w W) => rrest_c e f W (hE.below hW))
  have C4 := Lib.hid (fun W (hW : Below w.heap.size w W) => check_c e W (hE.below hW))
  have C5 := Lib.hid (fun W (hW : Below w.heap.size w W) => rcheck_c e W (hE.below hW))
  have C6 := Lib.hid (fun W (hW : Below w.heap.size w W) => model_c e v W (hE.below hW))
  have C7 := Lib.hid (fun W (hW : Below w.heap.size w W) => rmodel_c e v W (hE.below hW))
  generalize Em.r2 (en e) f = a at C2 C3
  generalize Em.r1 (en e) f = b at C2 C3
  generalize Em.rh (en e) f = c at C2 C3
  generalize Em.err (en e) = k at C4 C5
  generalize Em.model (en e) v = m at C6 C7
  have E5 := eqb5 m
  clear h hE
  go_enter Try.func4, Try.ntmps4
  go_wp2_with (first | (refine lde rfl _ rfl _ _ rfl HV.out.h2 ?_) | (refine ldi rfl _ rfl _ _ rfl HV.out.head ?_) | (go_at_call 8; (with_reducible refine (awake_c _).mono ?_); rintro r W ⟨rfl, hb⟩; replace HV := Lib.hid (HV.out.grow hb); clear hb) | (go_at_call 9; (with_reducible refine (C1.out _).mono ?_); rintro r W ⟨rfl, hb⟩; replace HV := Lib.hid (HV.out.grow hb); clear hb) | (go_at_call 10; (with_reducible refine (C2.out _ HV.out.old).mono ?_); rintro r W ⟨rfl, hb⟩; replace HV := Lib.hid (HV.out.grow hb); clear hb) | (go_at_call 11; (with_reducible refine (C3.out _ HV.out.old).mono ?_); rintro r W ⟨rfl, hb⟩; replace HV := Lib.hid (HV.out.grow hb); clear hb) | (go_at_call 12; (with_reducible refine (C4.out _ HV.out.old).mono ?_); rintro r W ⟨rfl, hb⟩; replace HV := Lib.hid (HV.out.grow hb); clear hb) | (go_at_call 13; (with_reducible refine (C5.out _ HV.out.old).mono ?_); rintro r W ⟨rfl, hb⟩; replace HV := Lib.hid (HV.out.grow hb); clear hb) | (go_at_call 14; (with_reducible refine (C6.out _ HV.out.old).mono ?_); rintro r W ⟨rfl, hb⟩; replace HV := Lib.hid (HV.out.grow hb); clear hb) | (go_at_call 15; (with_reducible refine (C7.out _ HV.out.old).mono ?_); rintro r W ⟨rfl, hb⟩; replace HV := Lib.hid (HV.out.grow hb); clear hb) | fail)
  refine wp_region_noPanic (Lk.wp_region_ordered ord_tells (fun V => EFld V w.heap.size e ∧ I5 V (w.heap.size + 1) v) (by kernel_rfl) (by kernel_rfl) (fun _ _ _ _ _ h => h) (by first | (with_reducible exact ⟨efld HV.out.h2, five HV.out.head⟩) | (with_reducible exact ⟨efld HV.out.drew.h2, five HV.out.drew.head⟩)) ?_)
  replace HV := Lib.hid HV.out.drew
  iterate 4 (refine Lk.ord_take ?_ rfl rfl ?_ ?_; rotate_left; (focus (intro w' hS; (try dsimp only at hS); go_simp; try with_reducible rfl)); simp only [Act.put, List.setIfInBounds_toArray, List.set_cons_zero, List.set_cons_succ])
  refine Lk.ord_step rfl rfl (fun K hK => ?_)
  go_simp
  (with_reducible refine (C4.out _ HV.out.old).mono ?_)
  rintro r W ⟨rfl, hb⟩
  replace HV := Lib.hid (HV.out.grow hb)
  clear hb
  refine hK.out _ _ (by first | (with_reducible exact ⟨efld HV.out.h2, five HV.out.head⟩) | (with_reducible exact ⟨efld HV.out.drew.h2, five HV.out.drew.head⟩)) ?_
  clear hK K
  try simp only [Act.put, List.setIfInBounds_toArray, List.set_cons_zero, List.set_cons_succ]
  refine Lk.ord_step rfl rfl (fun K hK => ?_)
  go_simp
  (with_reducible refine (C5.out _ HV.out.old).mono ?_)
  rintro r W ⟨rfl, hb⟩
  replace HV := Lib.hid (HV.out.grow hb)
  clear hb
  refine hK.out _ _ (by first | (with_reducible exact ⟨efld HV.out.h2, five HV.out.head⟩) | (with_reducible exact ⟨efld HV.out.drew.h2, five HV.out.drew.head⟩)) ?_
  clear hK K
  try simp only [Act.put, List.setIfInBounds_toArray, List.set_cons_zero, List.set_cons_succ]
  iterate 22 (refine Lk.ord_take ?_ rfl rfl ?_ ?_; rotate_left; (focus (intro w' hS; (try dsimp only at hS); go_simp; try with_reducible rfl)); simp only [Act.put, List.setIfInBounds_toArray, List.set_cons_zero, List.set_cons_succ])
  refine Lk.ord_step rfl rfl (fun K hK => ?_)
  go_simp
  (with_reducible refine (C6.out _ HV.out.old).mono ?_)
  rintro r W ⟨rfl, hb⟩
  replace HV := Lib.hid (HV.out.grow hb)
  clear hb
  refine hK.out _ _ (by first | (with_reducible exact ⟨efld HV.out.h2, five HV.out.head⟩) | (with_reducible exact ⟨efld HV.out.drew.h2, five HV.out.drew.head⟩)) ?_
  clear hK K
  try simp only [Act.put, List.setIfInBounds_toArray, List.set_cons_zero, List.set_cons_succ]
  refine Lk.ord_step rfl rfl (fun K hK => ?_)
  go_simp
  (with_reducible refine (C7.out _ HV.out.old).mono ?_)
  rintro r W ⟨rfl, hb⟩
  replace HV := Lib.hid (HV.out.grow hb)
  clear hb
  refine hK.out _ _ (by first | (with_reducible exact ⟨efld HV.out.h2, five HV.out.head⟩) | (with_reducible exact ⟨efld HV.out.drew.h2, five HV.out.drew.head⟩)) ?_
  clear hK K
  try simp only [Act.put, List.setIfInBounds_toArray, List.set_cons_zero, List.set_cons_succ]
  iterate 3 (refine Lk.ord_take ?_ rfl rfl ?_ ?_; rotate_left; (focus (intro w' hS; (try dsimp only at hS); go_simp; try with_reducible rfl)); simp only [Act.put, List.setIfInBounds_toArray, List.set_cons_zero, List.set_cons_succ])
  refine Lk.ord_nil (NoPanic.normal ?_)
  go_wp2_with fail
  go_ret
  exact ⟨rfl, HV.out.old⟩

theorem SynthTells_walk (e : Eg) (v : Nat → Int) (f : Int) (w : World) (hE : EngIn w e) : Calls Try.prog 4 #[.agg (ec e), .agg (i5 v), .int .i64 f] w fun r w' => r = .returned (.bool true) ∧ Below w.heap.size w w' := by
  cases h : fewE e with
  | false => exact tells_few e v f w h
  | true => exact tells_go e v f w hE h
end Ew
end Go.Proofs.Ytnaiphhadfolpaa
