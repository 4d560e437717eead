/- The walk of StartTells. Printed by gen_laws.py. -/
import Derived.Test.YtjhgcbkdghcgmaaStartAwake
import Derived.Test.YtjhgcbkdghcgmaaStartRef
import Derived.Test.YtjhgcbkdghcgmaaScheduleCalls
import Derived.Test.YtjhgcbkdghcgmaaSynthLaw1
namespace Go.Proofs.Ytjhgcbkdghcgmaa
namespace Bw
open Go.RowKit TabC Lk Ew Hw

section
variable {ops : Array Oper} {rest : List Oper} {op : Oper} {a : Act} {w : World} {Q : Exit → Act → World → Prop}
/-- An engine, and laws, loaded as a letter. -/
theorem ldE {e : Eg} {E : Value} (hE : Value.agg (ec e) = E) (hw : Region.wanted op (yielded ops a.tmps) = true) (x : Operand) (ho : op.op = .load 26 x)
    (b : Nat) (hx : a.eval x = .pointer (some ⟨b, 0, none⟩)) (hP : w.heap[b]? = some (eo e)) (c : wpList Try.prog ops Q rest (a.put op.dst E) w) : wpList Try.prog ops Q (op :: rest) a w := by
  subst hE; exact lde hw x ho b e hx hP c
theorem ldL {l : Lg} {L : Value} (hL : Value.agg (lc l) = L) (hw : Region.wanted op (yielded ops a.tmps) = true) (x : Operand) (ho : op.op = .load 28 x)
    (b : Nat) (hx : a.eval x = .pointer (some ⟨b, 0, none⟩)) (hP : w.heap[b]? = some (lo l)) (c : wpList Try.prog ops Q rest (a.put op.dst L) w) : wpList Try.prog ops Q (op :: rest) a w := by
  subst hL; exact ldl hw x ho b l hx hP c
theorem runE {e : Eg} {E : Value} (hE : Value.agg (ec e) = E) (x : Operand) (ho : op.op = .load 26 x) (b : Nat) (hx : a.eval x = .pointer (some ⟨b, 0, none⟩)) (hP : w.heap[b]? = some (eo e)) : (execOp a.eval op).run Try.prog w = .ok (.value E) w := by
  subst hE; exact runE' hP x ho hx
theorem runL {l : Lg} {L : Value} (hL : Value.agg (lc l) = L) (x : Operand) (ho : op.op = .load 28 x) (b : Nat) (hx : a.eval x = .pointer (some ⟨b, 0, none⟩)) (hP : w.heap[b]? = some (lo l)) : (execOp a.eval op).run Try.prog w = .ok (.value L) w := by
  subst hL; exact runL' hP x ho hx
end

/-- The five, with what they answer as a letter. -/
theorem fuel_v {e : Eg} {l : Lg} {w : World} (hE : EngIn w e) (hL : LawIn w l) {n x : Int} (h : Sb.fuel (en e) (la l) n = x) {W : World} (hW : Below w.heap.size w W) : Calls Try.prog 10 #[.agg (ec e), .agg (lc l), .int .i64 n] W fun r w' => r = .returned (.int .i64 x) ∧ Below W.heap.size W w' := by
  subst h; exact fuel_c e l n W (hE.below hW) (hL.below hW)
theorem ready_v {e : Eg} {w : World} (hE : EngIn w e) {n : Int} {b : Bool} (h : Sb.ready (en e) n = b) {W : World} (hW : Below w.heap.size w W) : Calls Try.prog 12 #[.agg (ec e), .int .i64 n] W fun r w' => r = .returned (.bool b) ∧ Below W.heap.size W w' := by
  subst h; exact ready_c e n W (hE.below hW)
theorem away_v {l : Lg} {w : World} (hL : LawIn w l) {n : Int} {lit b : Bool} (h : Sb.away (la l) lit n = b) {W : World} (hW : Below w.heap.size w W) : Calls Try.prog 14 #[.agg (lc l), .bool lit, .int .i64 n] W fun r w' => r = .returned (.bool b) ∧ Below W.heap.size W w' := by
  subst h
  cases lit
  · exact away_no l n W
  · exact away_c l n W (hL.below hW)
theorem hot_v {l : Lg} {w : World} (hL : LawIn w l) {n : Int} {b : Bool} (h : Sb.hot (la l) n = b) {W : World} (hW : Below w.heap.size w W) : Calls Try.prog 16 #[.agg (lc l), .int .i64 n] W fun r w' => r = .returned (.bool b) ∧ Below W.heap.size W w' := by
  subst h; exact hot_c l n W (hL.below hW)
theorem hung_v {l : Lg} {w : World} (hL : LawIn w l) {n : Int} {b : Bool} (h : Sb.hung (la l) n = b) {W : World} (hW : Below w.heap.size w W) : Calls Try.prog 18 #[.agg (lc l), .int .i64 n] W fun r w' => r = .returned (.bool b) ∧ Below W.heap.size W w' := by
  subst h; exact hung_c l n W (hL.below hW)

set_option maxRecDepth 100000 in
set_option maxHeartbeats 4000000 in
theorem StartTells_few1 (e : Eg) (l : Lg) (n : Int) (lit : Bool) (w : World) (h1 : fewL l = false) : Calls Try.prog 3 #[.agg (ec e), .agg (lc l), .int .i64 n, .bool lit] w fun r w' => r = .returned (.bool true) ∧ Below w.heap.size w w' := by
  have HV := Lib.hid (two_el w e l)
  have F1 := Lib.hid (fewl_v h1)
  clear h1
  go_enter Try.func3, Try.ntmps3
  go_upto_region 1 with fail
  generalize hE : Value.agg (ec e) = E at *
  generalize hL : Value.agg (lc l) = L at *
  go_wp2_with (first | (refine ldE hE rfl _ rfl _ rfl HV.out.h2 ?_) | (refine ldL hL rfl _ rfl _ rfl HV.out.head ?_) | (go_at_call 7; (with_reducible refine (awake_c _).mono ?_); rintro r W ⟨rfl, hb⟩; replace HV := Lib.hid (HV.out.grow hb); clear hb) | (go_at_call 8; (with_reducible refine (F1.out _).mono ?_); rintro r W ⟨rfl, hb⟩; replace HV := Lib.hid (HV.out.grow hb); clear hb) | fail)
  go_ret
  exact ⟨rfl, HV.out.old⟩

set_option maxRecDepth 100000 in
set_option maxHeartbeats 4000000 in
theorem StartTells_few2 (e : Eg) (l : Lg) (n : Int) (lit : Bool) (w : World) (h1 : fewL l = true) (h2 : fewE e = false) : Calls Try.prog 3 #[.agg (ec e), .agg (lc l), .int .i64 n, .bool lit] w fun r w' => r = .returned (.bool true) ∧ Below w.heap.size w w' := by
  have HV := Lib.hid (two_el w e l)
  have F1 := Lib.hid (fewl_v h1)
  have F2 := Lib.hid (Ew.few_v h2)
  clear h1 h2
  go_enter Try.func3, Try.ntmps3
  go_upto_region 1 with fail
  generalize hE : Value.agg (ec e) = E at *
  generalize hL : Value.agg (lc l) = L at *
  go_wp2_with (first | (refine ldE hE rfl _ rfl _ rfl HV.out.h2 ?_) | (refine ldL hL rfl _ rfl _ rfl HV.out.head ?_) | (go_at_call 7; (with_reducible refine (awake_c _).mono ?_); rintro r W ⟨rfl, hb⟩; replace HV := Lib.hid (HV.out.grow hb); clear hb) | (go_at_call 8; (with_reducible refine (F1.out _).mono ?_); rintro r W ⟨rfl, hb⟩; replace HV := Lib.hid (HV.out.grow hb); clear hb) | (go_at_call 9; (with_reducible refine (F2.out _).mono ?_); rintro r W ⟨rfl, hb⟩; replace HV := Lib.hid (HV.out.grow hb); clear hb) | fail)
  go_ret
  exact ⟨rfl, HV.out.old⟩

theorem ord_t4 : Lk.orderedB (Lk.opsOf Try.f3 4) [(0, false), (1, false), (2, false), (4, false), (5, false), (6, false), (3, true), (7, true), (8, false), (9, false), (10, false), (11, false), (13, false), (14, false), (12, true), (15, true), (16, false), (17, false), (18, false), (19, false), (20, false), (21, false), (23, false), (24, false), (25, false), (22, true), (26, true), (27, false), (28, false), (29, false)] = true := by kernel_rfl
theorem ord_t5 : Lk.orderedB (Lk.opsOf Try.f3 5) [(0, false), (1, false), (2, false), (3, false), (4, false), (5, false), (6, false), (8, false), (9, false), (7, true), (10, true), (11, false), (12, false), (13, false), (14, false), (15, false), (17, false), (18, false), (16, true), (19, true), (20, false), (21, false), (22, false)] = true := by kernel_rfl

set_option maxRecDepth 100000 in
set_option maxHeartbeats 4000000 in
theorem Tells_go (e : Eg) (l : Lg) (n : Int) (lit : Bool) (w : World) (hE : EngIn w e) (hL : LawIn w l) (h1 : fewL l = true) (h2 : fewE e = true) : Calls Try.prog 3 #[.agg (ec e), .agg (lc l), .int .i64 n, .bool lit] w fun r w' => r = .returned (.bool true) ∧ Below w.heap.size w w' := by
  have HV := Lib.hid (two_el w e l)
  have F1 := Lib.hid (fewl_v h1)
  have F2 := Lib.hid (Ew.few_v h2)
  have C1 := Lib.hid (fun W (hW : Below w.heap.size w W) => fuel_v hE hL (n := n) rfl hW)
  have D1 := Lib.hid (fun W (hW : Below w.heap.size w W) => rfuel_c e l n W (hE.below hW) (hL.below hW))
  have C2 := Lib.hid (fun W (hW : Below w.heap.size w W) => ready_v hE (n := n) rfl hW)
  have D2 : Hid (∀ W, Below w.heap.size w W → Calls Try.prog 13 #[.agg (ec e), .int .i64 n] W fun r w' => r = .returned (.bool (Sb.ready (en e) n)) ∧ Below W.heap.size W w') := fun W (hW : Below w.heap.size w W) => rready_c e n W (hE.below hW)
  have C3 := Lib.hid (fun W (hW : Below w.heap.size w W) => away_v hL (n := n) (lit := lit) rfl hW)
  have D3 : Hid (∀ W, Below w.heap.size w W → Calls Try.prog 15 #[.agg (lc l), .bool lit, .int .i64 n] W fun r w' => r = .returned (.bool (Sb.away (la l) lit n)) ∧ Below W.heap.size W w') := fun W (hW : Below w.heap.size w W) => raway_c l lit n W (hL.below hW)
  have C4 := Lib.hid (fun W (hW : Below w.heap.size w W) => hot_v hL (n := n) rfl hW)
  have D4 : Hid (∀ W, Below w.heap.size w W → Calls Try.prog 17 #[.agg (lc l), .int .i64 n] W fun r w' => r = .returned (.bool (Sb.hot (la l) n)) ∧ Below W.heap.size W w') := fun W (hW : Below w.heap.size w W) => rhot_c l n W (hL.below hW)
  have C5 := Lib.hid (fun W (hW : Below w.heap.size w W) => hung_v hL (n := n) rfl hW)
  have D5 : Hid (∀ W, Below w.heap.size w W → Calls Try.prog 19 #[.agg (lc l), .int .i64 n] W fun r w' => r = .returned (.bool (Sb.hung (la l) n)) ∧ Below W.heap.size W w') := fun W (hW : Below w.heap.size w W) => rhung_c l n W (hL.below hW)
  generalize Sb.fuel (en e) (la l) n = v1 at C1 D1
  generalize Sb.ready (en e) n = v2 at C2 D2
  generalize Sb.away (la l) lit n = v3 at C3 D3
  generalize Sb.hot (la l) n = v4 at C4 D4
  generalize Sb.hung (la l) n = v5 at C5 D5
  clear hE hL h1 h2
  go_enter Try.func3, Try.ntmps3
  go_upto_region 1 with fail
  generalize hE : Value.agg (ec e) = E at *
  generalize hL : Value.agg (lc l) = L at *
  go_wp2_with (first | (refine ldE hE rfl _ rfl _ rfl HV.out.h2 ?_) | (refine ldL hL rfl _ rfl _ rfl HV.out.head ?_) | (go_at_call 7; (with_reducible refine (awake_c _).mono ?_); rintro r W ⟨rfl, hb⟩; replace HV := Lib.hid (HV.out.grow hb); clear hb) | (go_at_call 8; (with_reducible refine (F1.out _).mono ?_); rintro r W ⟨rfl, hb⟩; replace HV := Lib.hid (HV.out.grow hb); clear hb) | (go_at_call 9; (with_reducible refine (F2.out _).mono ?_); rintro r W ⟨rfl, hb⟩; replace HV := Lib.hid (HV.out.grow hb); clear hb) | fail)
  refine wp_region_noPanic (Lk.wp_region_ordered ord_t4 (fun V => V.heap[w.heap.size]? = some (eo e) ∧ V.heap[w.heap.size + 1]? = some (lo l)) (by kernel_rfl) (by kernel_rfl) (fun _ _ _ _ _ h => h) (by first | (with_reducible exact ⟨HV.out.h2, HV.out.head⟩) | (with_reducible exact ⟨HV.out.drew.h2, HV.out.drew.head⟩)) ?_)
  replace HV := Lib.hid HV.out.drew
  iterate 6 (refine Lk.ord_take ?_ rfl rfl ?_ ?_; rotate_left; (focus (intro w' hS; (try dsimp only at hS); first | (refine (runE hE _ rfl _ rfl hS.1).trans ?_; with_reducible rfl) | (refine (runL hL _ rfl _ rfl hS.2).trans ?_; with_reducible rfl) | (go_simp; try with_reducible rfl))); simp only [Act.put, List.setIfInBounds_toArray, List.set_cons_zero, List.set_cons_succ])
  refine Lk.ord_step rfl rfl (fun K hK => ?_)
  go_simp
  (with_reducible refine (C1.out _ HV.out.old).mono ?_)
  rintro r W ⟨rfl, hb⟩
  replace HV := Lib.hid (HV.out.grow hb)
  clear hb
  refine hK.out _ _ (by first | (with_reducible exact ⟨HV.out.h2, HV.out.head⟩) | (with_reducible exact ⟨HV.out.drew.h2, HV.out.drew.head⟩)) ?_
  clear hK K
  try simp only [Act.put, List.setIfInBounds_toArray, List.set_cons_zero, List.set_cons_succ]
  refine Lk.ord_step rfl rfl (fun K hK => ?_)
  go_simp
  (with_reducible refine (D1.out _ HV.out.old).mono ?_)
  rintro r W ⟨rfl, hb⟩
  replace HV := Lib.hid (HV.out.grow hb)
  clear hb
  refine hK.out _ _ (by first | (with_reducible exact ⟨HV.out.h2, HV.out.head⟩) | (with_reducible exact ⟨HV.out.drew.h2, HV.out.drew.head⟩)) ?_
  clear hK K
  try simp only [Act.put, List.setIfInBounds_toArray, List.set_cons_zero, List.set_cons_succ]
  iterate 6 (refine Lk.ord_take ?_ rfl rfl ?_ ?_; rotate_left; (focus (intro w' hS; (try dsimp only at hS); first | (refine (runE hE _ rfl _ rfl hS.1).trans ?_; with_reducible rfl) | (refine (runL hL _ rfl _ rfl hS.2).trans ?_; with_reducible rfl) | (go_simp; try with_reducible rfl))); simp only [Act.put, List.setIfInBounds_toArray, List.set_cons_zero, List.set_cons_succ])
  refine Lk.ord_step rfl rfl (fun K hK => ?_)
  go_simp
  (with_reducible refine (C2.out _ HV.out.old).mono ?_)
  rintro r W ⟨rfl, hb⟩
  replace HV := Lib.hid (HV.out.grow hb)
  clear hb
  refine hK.out _ _ (by first | (with_reducible exact ⟨HV.out.h2, HV.out.head⟩) | (with_reducible exact ⟨HV.out.drew.h2, HV.out.drew.head⟩)) ?_
  clear hK K
  try simp only [Act.put, List.setIfInBounds_toArray, List.set_cons_zero, List.set_cons_succ]
  refine Lk.ord_step rfl rfl (fun K hK => ?_)
  go_simp
  (with_reducible refine (D2.out _ HV.out.old).mono ?_)
  rintro r W ⟨rfl, hb⟩
  replace HV := Lib.hid (HV.out.grow hb)
  clear hb
  refine hK.out _ _ (by first | (with_reducible exact ⟨HV.out.h2, HV.out.head⟩) | (with_reducible exact ⟨HV.out.drew.h2, HV.out.drew.head⟩)) ?_
  clear hK K
  try simp only [Act.put, List.setIfInBounds_toArray, List.set_cons_zero, List.set_cons_succ]
  iterate 9 (refine Lk.ord_take ?_ rfl rfl ?_ ?_; rotate_left; (focus (intro w' hS; (try dsimp only at hS); first | (refine (runE hE _ rfl _ rfl hS.1).trans ?_; with_reducible rfl) | (refine (runL hL _ rfl _ rfl hS.2).trans ?_; with_reducible rfl) | (go_simp; try with_reducible rfl))); simp only [Act.put, List.setIfInBounds_toArray, List.set_cons_zero, List.set_cons_succ])
  refine Lk.ord_step rfl rfl (fun K hK => ?_)
  go_simp
  (with_reducible refine (C3.out _ HV.out.old).mono ?_)
  rintro r W ⟨rfl, hb⟩
  replace HV := Lib.hid (HV.out.grow hb)
  clear hb
  refine hK.out _ _ (by first | (with_reducible exact ⟨HV.out.h2, HV.out.head⟩) | (with_reducible exact ⟨HV.out.drew.h2, HV.out.drew.head⟩)) ?_
  clear hK K
  try simp only [Act.put, List.setIfInBounds_toArray, List.set_cons_zero, List.set_cons_succ]
  refine Lk.ord_step rfl rfl (fun K hK => ?_)
  go_simp
  (with_reducible refine (D3.out _ HV.out.old).mono ?_)
  rintro r W ⟨rfl, hb⟩
  replace HV := Lib.hid (HV.out.grow hb)
  clear hb
  refine hK.out _ _ (by first | (with_reducible exact ⟨HV.out.h2, HV.out.head⟩) | (with_reducible exact ⟨HV.out.drew.h2, HV.out.drew.head⟩)) ?_
  clear hK K
  try simp only [Act.put, List.setIfInBounds_toArray, List.set_cons_zero, List.set_cons_succ]
  iterate 3 (refine Lk.ord_take ?_ rfl rfl ?_ ?_; rotate_left; (focus (intro w' hS; (try dsimp only at hS); first | (refine (runE hE _ rfl _ rfl hS.1).trans ?_; with_reducible rfl) | (refine (runL hL _ rfl _ rfl hS.2).trans ?_; with_reducible rfl) | (go_simp; try with_reducible rfl))); simp only [Act.put, List.setIfInBounds_toArray, List.set_cons_zero, List.set_cons_succ])
  refine Lk.ord_nil (NoPanic.normal ?_)
  go_wp2_with fail
  refine wp_region_noPanic (Lk.wp_region_ordered ord_t5 (fun V => V.heap[w.heap.size]? = some (eo e) ∧ V.heap[w.heap.size + 1]? = some (lo l)) (by kernel_rfl) (by kernel_rfl) (fun _ _ _ _ _ h => h) (by first | (with_reducible exact ⟨HV.out.h2, HV.out.head⟩) | (with_reducible exact ⟨HV.out.drew.h2, HV.out.drew.head⟩)) ?_)
  replace HV := Lib.hid HV.out.drew
  iterate 9 (refine Lk.ord_take ?_ rfl rfl ?_ ?_; rotate_left; (focus (intro w' hS; (try dsimp only at hS); first | (refine (runE hE _ rfl _ rfl hS.1).trans ?_; with_reducible rfl) | (refine (runL hL _ rfl _ rfl hS.2).trans ?_; with_reducible rfl) | (go_simp; try with_reducible rfl))); simp only [Act.put, List.setIfInBounds_toArray, List.set_cons_zero, List.set_cons_succ])
  refine Lk.ord_step rfl rfl (fun K hK => ?_)
  go_simp
  (with_reducible refine (C4.out _ HV.out.old).mono ?_)
  rintro r W ⟨rfl, hb⟩
  replace HV := Lib.hid (HV.out.grow hb)
  clear hb
  refine hK.out _ _ (by first | (with_reducible exact ⟨HV.out.h2, HV.out.head⟩) | (with_reducible exact ⟨HV.out.drew.h2, HV.out.drew.head⟩)) ?_
  clear hK K
  try simp only [Act.put, List.setIfInBounds_toArray, List.set_cons_zero, List.set_cons_succ]
  refine Lk.ord_step rfl rfl (fun K hK => ?_)
  go_simp
  (with_reducible refine (D4.out _ HV.out.old).mono ?_)
  rintro r W ⟨rfl, hb⟩
  replace HV := Lib.hid (HV.out.grow hb)
  clear hb
  refine hK.out _ _ (by first | (with_reducible exact ⟨HV.out.h2, HV.out.head⟩) | (with_reducible exact ⟨HV.out.drew.h2, HV.out.drew.head⟩)) ?_
  clear hK K
  try simp only [Act.put, List.setIfInBounds_toArray, List.set_cons_zero, List.set_cons_succ]
  iterate 7 (refine Lk.ord_take ?_ rfl rfl ?_ ?_; rotate_left; (focus (intro w' hS; (try dsimp only at hS); first | (refine (runE hE _ rfl _ rfl hS.1).trans ?_; with_reducible rfl) | (refine (runL hL _ rfl _ rfl hS.2).trans ?_; with_reducible rfl) | (go_simp; try with_reducible rfl))); simp only [Act.put, List.setIfInBounds_toArray, List.set_cons_zero, List.set_cons_succ])
  refine Lk.ord_step rfl rfl (fun K hK => ?_)
  go_simp
  (with_reducible refine (C5.out _ HV.out.old).mono ?_)
  rintro r W ⟨rfl, hb⟩
  replace HV := Lib.hid (HV.out.grow hb)
  clear hb
  refine hK.out _ _ (by first | (with_reducible exact ⟨HV.out.h2, HV.out.head⟩) | (with_reducible exact ⟨HV.out.drew.h2, HV.out.drew.head⟩)) ?_
  clear hK K
  try simp only [Act.put, List.setIfInBounds_toArray, List.set_cons_zero, List.set_cons_succ]
  refine Lk.ord_step rfl rfl (fun K hK => ?_)
  go_simp
  (with_reducible refine (D5.out _ HV.out.old).mono ?_)
  rintro r W ⟨rfl, hb⟩
  replace HV := Lib.hid (HV.out.grow hb)
  clear hb
  refine hK.out _ _ (by first | (with_reducible exact ⟨HV.out.h2, HV.out.head⟩) | (with_reducible exact ⟨HV.out.drew.h2, HV.out.drew.head⟩)) ?_
  clear hK K
  try simp only [Act.put, List.setIfInBounds_toArray, List.set_cons_zero, List.set_cons_succ]
  iterate 3 (refine Lk.ord_take ?_ rfl rfl ?_ ?_; rotate_left; (focus (intro w' hS; (try dsimp only at hS); first | (refine (runE hE _ rfl _ rfl hS.1).trans ?_; with_reducible rfl) | (refine (runL hL _ rfl _ rfl hS.2).trans ?_; with_reducible rfl) | (go_simp; try with_reducible rfl))); simp only [Act.put, List.setIfInBounds_toArray, List.set_cons_zero, List.set_cons_succ])
  refine Lk.ord_nil (NoPanic.normal ?_)
  go_wp2_with fail
  go_ret
  exact ⟨rfl, HV.out.old⟩

theorem StartTells_walk (e : Eg) (l : Lg) (n : Int) (lit : Bool) (w : World) (hE : EngIn w e) (hL : LawIn w l) : Calls Try.prog 3 #[.agg (ec e), .agg (lc l), .int .i64 n, .bool lit] w fun r w' => r = .returned (.bool true) ∧ Below w.heap.size w w' := by
  cases h1 : fewL l with
  | false => exact StartTells_few1 e l n lit w h1
  | true =>
    cases h2 : fewE e with
    | false => exact StartTells_few2 e l n lit w h1 h2
    | true => exact Tells_go e l n lit w hE hL h1 h2

end Bw
end Go.Proofs.Ytjhgcbkdghcgmaa
