/- The walk of ScheduleTells. Printed by gen_laws.py. -/
import Derived.Test.YthjnodchmedlfaaScheduleAwake
namespace Go.Proofs.Ythjnodchmedlfaa
namespace Hw
open Go.RowKit TabC Lk Ew

section
variable {ops : Array Oper} {rest : List Oper} {op : Oper} {a : Act} {w : World} {Q : Exit → Act → World → Prop}
/-- An engine, and laws, loaded as a letter. -/
theorem ldE {e : Eg} {E : Value} (hE : Value.agg (ec e) = E) (hw : Region.wanted op (yielded ops a.tmps) = true) (x : Operand) (ho : op.op = .load 26 x)
    (b : Nat) (hx : a.eval x = .pointer (some ⟨b, 0, none⟩)) (hP : w.heap[b]? = some (eo e)) (c : wpList Try.prog ops Q rest (a.put op.dst E) w) : wpList Try.prog ops Q (op :: rest) a w := by
  subst hE; exact lde hw x ho b e hx hP c
theorem ldL {l : Lg} {L : Value} (hL : Value.agg (lc l) = L) (hw : Region.wanted op (yielded ops a.tmps) = true) (x : Operand) (ho : op.op = .load 28 x)
    (b : Nat) (hx : a.eval x = .pointer (some ⟨b, 0, none⟩)) (hP : w.heap[b]? = some (lo l)) (c : wpList Try.prog ops Q rest (a.put op.dst L) w) : wpList Try.prog ops Q (op :: rest) a w := by
  subst hL; exact ldl hw x ho b l hx hP c
theorem runE {e : Eg} {E : Value} (hE : Value.agg (ec e) = E) (x : Operand) (ho : op.op = .load 26 x) (b : Nat) (hx : a.eval x = .pointer (some ⟨b, 0, none⟩)) (hP : w.heap[b]? = some (eo e)) : (execOp a.eval op).run Try.prog w = .ok (.value E) w := by
  subst hE
  unfold execOp
  simp only [ho, hx, Instr.loadAt, Instr.sureAddr, Sem.run_bind, Sem.run_pure, Result.andThen_ok, run_loadVar_row w b 26 26 (ec e) (0, 0) _ hP Try.underlying26 rfl info_e]
theorem runL {l : Lg} {L : Value} (hL : Value.agg (lc l) = L) (x : Operand) (ho : op.op = .load 28 x) (b : Nat) (hx : a.eval x = .pointer (some ⟨b, 0, none⟩)) (hP : w.heap[b]? = some (lo l)) : (execOp a.eval op).run Try.prog w = .ok (.value L) w := by
  subst hL
  unfold execOp
  simp only [ho, hx, Instr.loadAt, Instr.sureAddr, Sem.run_bind, Sem.run_pure, Result.andThen_ok, run_loadVar_row w b 28 28 (lc l) (0, 0) _ hP Try.underlying28 rfl info_l]
end

set_option maxRecDepth 100000 in
set_option maxHeartbeats 4000000 in
theorem ScheduleTells_few1 (e : Eg) (l : Lg) (n v x : Int) (w : World) (h1 : fewL l = false) : Calls Try.prog 3 #[.agg (ec e), .agg (lc l), .int .i64 n, .int .i64 v, .int .i64 x] w fun r w' => r = .returned (.bool true) ∧ Below w.heap.size w w' := by
  have HV := Lib.hid (two_el w e l)
  have F1 := Lib.hid (fewl_v h1)
  clear h1
  go_enter Try.func3, Try.ntmps3
  go_upto_region 1 with fail
  generalize hE : Value.agg (ec e) = E at *
  generalize hL : Value.agg (lc l) = L at *
  go_wp2_with (first | (refine ldE hE rfl _ rfl _ rfl HV.out.h2 ?_) | (refine ldL hL rfl _ rfl _ rfl HV.out.head ?_) | (go_at_call 7; (with_reducible refine (awake_c _).mono ?_); rintro r W ⟨rfl, hb⟩; replace HV := Lib.hid (HV.out.grow hb); clear hb) | (go_at_call 8; (with_reducible refine (F1.out _).mono ?_); rintro r W ⟨rfl, hb⟩; replace HV := Lib.hid (HV.out.grow hb); clear hb) | fail)
  go_ret
  exact ⟨rfl, HV.out.old⟩

set_option maxRecDepth 100000 in
set_option maxHeartbeats 4000000 in
theorem ScheduleTells_few2 (e : Eg) (l : Lg) (n v x : Int) (w : World) (h1 : fewL l = true) (h2 : fewE e = false) : Calls Try.prog 3 #[.agg (ec e), .agg (lc l), .int .i64 n, .int .i64 v, .int .i64 x] w fun r w' => r = .returned (.bool true) ∧ Below w.heap.size w w' := by
  have HV := Lib.hid (two_el w e l)
  have F1 := Lib.hid (fewl_v h1)
  have F2 := Lib.hid (Ew.few_v h2)
  clear h1 h2
  go_enter Try.func3, Try.ntmps3
  go_upto_region 1 with fail
  generalize hE : Value.agg (ec e) = E at *
  generalize hL : Value.agg (lc l) = L at *
  go_wp2_with (first | (refine ldE hE rfl _ rfl _ rfl HV.out.h2 ?_) | (refine ldL hL rfl _ rfl _ rfl HV.out.head ?_) | (go_at_call 7; (with_reducible refine (awake_c _).mono ?_); rintro r W ⟨rfl, hb⟩; replace HV := Lib.hid (HV.out.grow hb); clear hb) | (go_at_call 8; (with_reducible refine (F1.out _).mono ?_); rintro r W ⟨rfl, hb⟩; replace HV := Lib.hid (HV.out.grow hb); clear hb) | (go_at_call 9; (with_reducible refine (F2.out _).mono ?_); rintro r W ⟨rfl, hb⟩; replace HV := Lib.hid (HV.out.grow hb); clear hb) | fail)
  go_ret
  exact ⟨rfl, HV.out.old⟩

theorem ord_t4 : Lk.orderedB (Lk.opsOf Try.f3 4) [(0, false), (2, false), (1, true), (3, true), (4, false), (5, false), (6, false), (7, false), (9, false), (10, false), (8, true), (11, true), (12, false), (13, false), (14, false), (15, false), (16, false), (17, false), (19, false), (20, false), (21, false), (18, true), (22, true), (23, false), (24, false), (25, false)] = true := by kernel_rfl
theorem ord_t5 : Lk.orderedB (Lk.opsOf Try.f3 5) [(0, false), (1, false), (2, false), (3, false), (4, false), (5, false), (6, false), (7, false), (8, false), (9, false), (11, false), (12, false), (13, false), (14, false), (15, false), (10, true), (16, true), (17, false), (18, false), (19, false)] = true := by kernel_rfl

set_option maxRecDepth 100000 in
set_option maxHeartbeats 4000000 in
theorem Tells_go (e : Eg) (l : Lg) (n v x : Int) (w : World) (hE : EngIn w e) (hL : LawIn w l) (h1 : fewL l = true) (h2 : fewE e = true) : Calls Try.prog 3 #[.agg (ec e), .agg (lc l), .int .i64 n, .int .i64 v, .int .i64 x] w fun r w' => r = .returned (.bool true) ∧ Below w.heap.size w w' := by
  have HV := Lib.hid (two_el w e l)
  have F1 := Lib.hid (fewl_v h1)
  have F2 := Lib.hid (Ew.few_v h2)
  have C1 := Lib.hid (fun W (hW : Below w.heap.size w W) => check_c l W (hL.below hW))
  have D1 := Lib.hid (fun W (hW : Below w.heap.size w W) => rcheck_c l W (hL.below hW))
  have C2 := Lib.hid (fun W (hW : Below w.heap.size w W) => ask_c e x W (hE.below hW))
  have D2 := Lib.hid (fun W (hW : Below w.heap.size w W) => rask_c e x W (hE.below hW))
  have C3 := Lib.hid (fun W (hW : Below w.heap.size w W) => allow_c l n x W (hL.below hW))
  have D3 := Lib.hid (fun W (hW : Below w.heap.size w W) => rallow_c l n x W (hL.below hW))
  have C4 := Lib.hid (fun W (hW : Below w.heap.size w W) => next_c e l n v x W (hE.below hW) (hL.below hW))
  have D4 := Lib.hid (fun W (hW : Below w.heap.size w W) => rnext_c e l n v x W (hE.below hW) (hL.below hW))
  generalize Sd.err (la l) = k at C1 D1
  generalize Sd.ask (en e) x = a at C2 D2
  generalize Sd.allow (la l) n x = b at C3 D3
  generalize Sd.next (en e) (la l) n v x = c at C4 D4
  clear hE hL h1 h2
  go_enter Try.func3, Try.ntmps3
  go_upto_region 1 with fail
  generalize hE : Value.agg (ec e) = E at *
  generalize hL : Value.agg (lc l) = L at *
  go_wp2_with (first | (refine ldE hE rfl _ rfl _ rfl HV.out.h2 ?_) | (refine ldL hL rfl _ rfl _ rfl HV.out.head ?_) | (go_at_call 7; (with_reducible refine (awake_c _).mono ?_); rintro r W ⟨rfl, hb⟩; replace HV := Lib.hid (HV.out.grow hb); clear hb) | (go_at_call 8; (with_reducible refine (F1.out _).mono ?_); rintro r W ⟨rfl, hb⟩; replace HV := Lib.hid (HV.out.grow hb); clear hb) | (go_at_call 9; (with_reducible refine (F2.out _).mono ?_); rintro r W ⟨rfl, hb⟩; replace HV := Lib.hid (HV.out.grow hb); clear hb) | fail)
  refine wp_region_noPanic (Lk.wp_region_ordered ord_t4 (fun V => V.heap[w.heap.size]? = some (eo e) ∧ V.heap[w.heap.size + 1]? = some (lo l)) (by kernel_rfl) (by kernel_rfl) (fun _ _ _ _ _ h => h) (by first | (with_reducible exact ⟨HV.out.h2, HV.out.head⟩) | (with_reducible exact ⟨HV.out.drew.h2, HV.out.drew.head⟩)) ?_)
  replace HV := Lib.hid HV.out.drew
  iterate 2 (refine Lk.ord_take ?_ rfl rfl ?_ ?_; rotate_left; (focus (intro w' hS; (try dsimp only at hS); first | (refine (runE hE _ rfl _ rfl hS.1).trans ?_; with_reducible rfl) | (refine (runL hL _ rfl _ rfl hS.2).trans ?_; with_reducible rfl) | (go_simp; try with_reducible rfl))); simp only [Act.put, List.setIfInBounds_toArray, List.set_cons_zero, List.set_cons_succ])
  refine Lk.ord_step rfl rfl (fun K hK => ?_)
  go_simp
  (with_reducible refine (C1.out _ HV.out.old).mono ?_)
  rintro r W ⟨rfl, hb⟩
  replace HV := Lib.hid (HV.out.grow hb)
  clear hb
  refine hK.out _ _ (by first | (with_reducible exact ⟨HV.out.h2, HV.out.head⟩) | (with_reducible exact ⟨HV.out.drew.h2, HV.out.drew.head⟩)) ?_
  clear hK K
  try simp only [Act.put, List.setIfInBounds_toArray, List.set_cons_zero, List.set_cons_succ]
  refine Lk.ord_step rfl rfl (fun K hK => ?_)
  go_simp
  (with_reducible refine (D1.out _ HV.out.old).mono ?_)
  rintro r W ⟨rfl, hb⟩
  replace HV := Lib.hid (HV.out.grow hb)
  clear hb
  refine hK.out _ _ (by first | (with_reducible exact ⟨HV.out.h2, HV.out.head⟩) | (with_reducible exact ⟨HV.out.drew.h2, HV.out.drew.head⟩)) ?_
  clear hK K
  try simp only [Act.put, List.setIfInBounds_toArray, List.set_cons_zero, List.set_cons_succ]
  iterate 6 (refine Lk.ord_take ?_ rfl rfl ?_ ?_; rotate_left; (focus (intro w' hS; (try dsimp only at hS); first | (refine (runE hE _ rfl _ rfl hS.1).trans ?_; with_reducible rfl) | (refine (runL hL _ rfl _ rfl hS.2).trans ?_; with_reducible rfl) | (go_simp; try with_reducible rfl))); simp only [Act.put, List.setIfInBounds_toArray, List.set_cons_zero, List.set_cons_succ])
  refine Lk.ord_step rfl rfl (fun K hK => ?_)
  go_simp
  (with_reducible refine (C2.out _ HV.out.old).mono ?_)
  rintro r W ⟨rfl, hb⟩
  replace HV := Lib.hid (HV.out.grow hb)
  clear hb
  refine hK.out _ _ (by first | (with_reducible exact ⟨HV.out.h2, HV.out.head⟩) | (with_reducible exact ⟨HV.out.drew.h2, HV.out.drew.head⟩)) ?_
  clear hK K
  try simp only [Act.put, List.setIfInBounds_toArray, List.set_cons_zero, List.set_cons_succ]
  refine Lk.ord_step rfl rfl (fun K hK => ?_)
  go_simp
  (with_reducible refine (D2.out _ HV.out.old).mono ?_)
  rintro r W ⟨rfl, hb⟩
  replace HV := Lib.hid (HV.out.grow hb)
  clear hb
  refine hK.out _ _ (by first | (with_reducible exact ⟨HV.out.h2, HV.out.head⟩) | (with_reducible exact ⟨HV.out.drew.h2, HV.out.drew.head⟩)) ?_
  clear hK K
  try simp only [Act.put, List.setIfInBounds_toArray, List.set_cons_zero, List.set_cons_succ]
  iterate 9 (refine Lk.ord_take ?_ rfl rfl ?_ ?_; rotate_left; (focus (intro w' hS; (try dsimp only at hS); first | (refine (runE hE _ rfl _ rfl hS.1).trans ?_; with_reducible rfl) | (refine (runL hL _ rfl _ rfl hS.2).trans ?_; with_reducible rfl) | (go_simp; try with_reducible rfl))); simp only [Act.put, List.setIfInBounds_toArray, List.set_cons_zero, List.set_cons_succ])
  refine Lk.ord_step rfl rfl (fun K hK => ?_)
  go_simp
  (with_reducible refine (C3.out _ HV.out.old).mono ?_)
  rintro r W ⟨rfl, hb⟩
  replace HV := Lib.hid (HV.out.grow hb)
  clear hb
  refine hK.out _ _ (by first | (with_reducible exact ⟨HV.out.h2, HV.out.head⟩) | (with_reducible exact ⟨HV.out.drew.h2, HV.out.drew.head⟩)) ?_
  clear hK K
  try simp only [Act.put, List.setIfInBounds_toArray, List.set_cons_zero, List.set_cons_succ]
  refine Lk.ord_step rfl rfl (fun K hK => ?_)
  go_simp
  (with_reducible refine (D3.out _ HV.out.old).mono ?_)
  rintro r W ⟨rfl, hb⟩
  replace HV := Lib.hid (HV.out.grow hb)
  clear hb
  refine hK.out _ _ (by first | (with_reducible exact ⟨HV.out.h2, HV.out.head⟩) | (with_reducible exact ⟨HV.out.drew.h2, HV.out.drew.head⟩)) ?_
  clear hK K
  try simp only [Act.put, List.setIfInBounds_toArray, List.set_cons_zero, List.set_cons_succ]
  iterate 3 (refine Lk.ord_take ?_ rfl rfl ?_ ?_; rotate_left; (focus (intro w' hS; (try dsimp only at hS); first | (refine (runE hE _ rfl _ rfl hS.1).trans ?_; with_reducible rfl) | (refine (runL hL _ rfl _ rfl hS.2).trans ?_; with_reducible rfl) | (go_simp; try with_reducible rfl))); simp only [Act.put, List.setIfInBounds_toArray, List.set_cons_zero, List.set_cons_succ])
  refine Lk.ord_nil (NoPanic.normal ?_)
  go_wp2_with fail
  refine wp_region_noPanic (Lk.wp_region_ordered ord_t5 (fun V => V.heap[w.heap.size]? = some (eo e) ∧ V.heap[w.heap.size + 1]? = some (lo l)) (by kernel_rfl) (by kernel_rfl) (fun _ _ _ _ _ h => h) (by first | (with_reducible exact ⟨HV.out.h2, HV.out.head⟩) | (with_reducible exact ⟨HV.out.drew.h2, HV.out.drew.head⟩)) ?_)
  replace HV := Lib.hid HV.out.drew
  iterate 15 (refine Lk.ord_take ?_ rfl rfl ?_ ?_; rotate_left; (focus (intro w' hS; (try dsimp only at hS); first | (refine (runE hE _ rfl _ rfl hS.1).trans ?_; with_reducible rfl) | (refine (runL hL _ rfl _ rfl hS.2).trans ?_; with_reducible rfl) | (go_simp; try with_reducible rfl))); simp only [Act.put, List.setIfInBounds_toArray, List.set_cons_zero, List.set_cons_succ])
  refine Lk.ord_step rfl rfl (fun K hK => ?_)
  go_simp
  (with_reducible refine (C4.out _ HV.out.old).mono ?_)
  rintro r W ⟨rfl, hb⟩
  replace HV := Lib.hid (HV.out.grow hb)
  clear hb
  refine hK.out _ _ (by first | (with_reducible exact ⟨HV.out.h2, HV.out.head⟩) | (with_reducible exact ⟨HV.out.drew.h2, HV.out.drew.head⟩)) ?_
  clear hK K
  try simp only [Act.put, List.setIfInBounds_toArray, List.set_cons_zero, List.set_cons_succ]
  refine Lk.ord_step rfl rfl (fun K hK => ?_)
  go_simp
  (with_reducible refine (D4.out _ HV.out.old).mono ?_)
  rintro r W ⟨rfl, hb⟩
  replace HV := Lib.hid (HV.out.grow hb)
  clear hb
  refine hK.out _ _ (by first | (with_reducible exact ⟨HV.out.h2, HV.out.head⟩) | (with_reducible exact ⟨HV.out.drew.h2, HV.out.drew.head⟩)) ?_
  clear hK K
  try simp only [Act.put, List.setIfInBounds_toArray, List.set_cons_zero, List.set_cons_succ]
  iterate 3 (refine Lk.ord_take ?_ rfl rfl ?_ ?_; rotate_left; (focus (intro w' hS; (try dsimp only at hS); first | (refine (runE hE _ rfl _ rfl hS.1).trans ?_; with_reducible rfl) | (refine (runL hL _ rfl _ rfl hS.2).trans ?_; with_reducible rfl) | (go_simp; try with_reducible rfl))); simp only [Act.put, List.setIfInBounds_toArray, List.set_cons_zero, List.set_cons_succ])
  refine Lk.ord_nil (NoPanic.normal ?_)
  go_wp2_with fail
  go_ret
  exact ⟨rfl, HV.out.old⟩

theorem ScheduleTells_walk (e : Eg) (l : Lg) (n v x : Int) (w : World) (hE : EngIn w e) (hL : LawIn w l) : Calls Try.prog 3 #[.agg (ec e), .agg (lc l), .int .i64 n, .int .i64 v, .int .i64 x] w fun r w' => r = .returned (.bool true) ∧ Below w.heap.size w w' := by
  cases h1 : fewL l with
  | false => exact ScheduleTells_few1 e l n v x w h1
  | true =>
    cases h2 : fewE e with
    | false => exact ScheduleTells_few2 e l n v x w h1 h2
    | true => exact Tells_go e l n v x w hE hL h1 h2

end Hw
end Go.Proofs.Ythjnodchmedlfaa
