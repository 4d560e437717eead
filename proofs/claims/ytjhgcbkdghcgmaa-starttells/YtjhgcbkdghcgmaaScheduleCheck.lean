/- schedule.Check: whether laws may be. Printed by gen_check.py. -/
import Derived.Test.YtjhgcbkdghcgmaaScheduleIn
import Derived.Test.YtjhgcbkdghcgmaaOrdKit
import Derived.WalkMore
namespace Go.Proofs.Ytjhgcbkdghcgmaa
namespace Hw
open Go.RowKit TabC Lk Ew

/-- A new closure: its own blocks, behind the laws' block. -/
theorem mk_rh {w W : World} {e : Nat × Obj} {L : List (Nat × Obj)} (h : Hv w W (e :: L)) (t : Tv) : Calls Try.prog 43 #[.agg (tc t)] W fun r w' => ∃ g, r = .returned (fr g) ∧ Hv w w' (e :: (g, tob t) :: L) :=
  (mk_r t W).mono fun r w' ⟨h1, h2⟩ => ⟨_, h1, by subst h2; exact ((h.tail.made (tob t)).add e (h.alloc (tob t)).head)⟩
theorem mk_ih {w W : World} {e : Nat × Obj} {L : List (Nat × Obj)} (h : Hv w W (e :: L)) (x y z : Int) : Calls Try.prog 46 #[.int .i64 x, .int .i64 y, .int .i64 z] W fun r w' => ∃ a b c, r = .returned (fi a b c) ∧ Hv w w' (e :: (c, nob z) :: (b, nob y) :: (a, nob x) :: L) :=
  (mk_i x y z W).mono fun r w' ⟨h1, h2⟩ => ⟨_, _, _, h1, by
    subst h2
    have k := ((h.tail.made (nob x)).made (nob y)).made (nob z)
    simp only [World.size_alloc] at k
    exact k.add e (((h.alloc (nob x)).alloc (nob y)).alloc (nob z)).head⟩

/-- An array of three function values. -/
abbrev r3 (a b c : Value) : Array Value := #[a, b, c]
abbrev o3 (a b c : Value) : Obj := .cells (r3 a b c) 62 (0, 0)
theorem info_3 : (Try.prog.info? 62).map (·.size) = some 3 := by kernel_rfl
section
variable {ops : Array Oper} {rest : List Oper} {op : Oper} {a : Act} {w : World} {Q : Exit → Act → World → Prop}
theorem ld3 (hw : Region.wanted op (yielded ops a.tmps) = true) (x : Operand) (ho : op.op = .load 62 x)
    (b : Nat) (u v z : Value) (hx : a.eval x = .pointer (some ⟨b, 0, none⟩)) (hP : w.heap[b]? = some (o3 u v z))
    (c : wpList Try.prog ops Q rest (a.put op.dst (.agg (r3 u v z))) w) : wpList Try.prog ops Q (op :: rest) a w :=
  Lk.wanted hw fun _ hK => wp_load_row 62 x ho b hx 62 (r3 u v z) (0, 0) _ hP Try.underlying62 rfl info_3 (hK _ _ c)
theorem st3 (hgd : op.guard = none) (x y : Operand) (ho : op.op = .store 62 x y) (hd : op.dst = none)
    (g : Nat) (q u v z : Value) (hx : a.eval x = .pointer (some ⟨g, 0, none⟩)) (hy : a.eval y = .agg (r3 u v z)) (hu : u.oneCell' = true) (hv : v.oneCell' = true) (hz : z.oneCell' = true) (hP : w.heap[g]? = some (o3 q q q))
    (h : ∀ w', w'.heap[g]? = some (o3 u v z) → Off g w w' → wpList Try.prog ops Q rest a w') : wpList Try.prog ops Q (op :: rest) a w := by
  refine wpList_plain hgd fun _ hK => wp_store_row 62 x y ho g (r3 u v z) hx hy 62 (r3 q q q) hP info_3 rfl (by simp [r3, hu, hv, hz]) (hK _ _ ?_)
  rw [hd]
  exact h _ (setRow_heap w g (r3 q q q) (r3 u v z) 62 (0, 0) hP) (Off.row w g _)
end

/-- All that is known behind the closures. -/
abbrev L9 (l : Lg) (n g0 g1 g2 x3 y3 z3 x4 y4 z4 x5 y5 z5 x6 y6 z6 x7 y7 z7 x8 y8 z8 : Nat) : List (Nat × Obj) := [(n, lo l), (z8, nob (1048576)), (y8, nob l.redE), (x8, nob l.margin), (z7, nob (1048576)), (y7, nob l.red2), (x7, nob l.margin), (z6, nob (1048576)), (y6, nob l.red1), (x6, nob l.margin), (z5, nob (10000)), (y5, nob l.patience), (x5, nob 1), (z4, nob (1048576)), (y4, nob l.idle), (x4, nob 1), (z3, nob (1048576)), (y3, nob l.margin), (x3, nob 1), (g2, tob l.s), (g1, tob l.d), (g0, tob l.a)]
theorem q0 {w V : World} {l : Lg} {n g0 g1 g2 x3 y3 z3 x4 y4 z4 x5 y5 z5 x6 y6 z6 x7 y7 z7 x8 y8 z8 : Nat} (h : Hv w V (L9 l n g0 g1 g2 x3 y3 z3 x4 y4 z4 x5 y5 z5 x6 y6 z6 x7 y7 z7 x8 y8 z8)) (hL : LawIn w l) : Calls Try.prog 44 #[.pointer (some ⟨g0, 0, none⟩)] V fun r w' => r = .returned (.bool (Tb.rsB l.a.xs l.a.ys)) ∧ Hv w w' (L9 l n g0 g1 g2 x3 y3 z3 x4 y4 z4 x5 y5 z5 x6 y6 z6 x7 y7 z7 x8 y8 z8) :=
  (ask_r g0 l.a V (h.has (g0, tob l.a) (by simp [L9])) (hL.a.below h.old)).mono fun r w' ⟨h1, h2⟩ => ⟨h1, h.grow h2⟩
theorem q1 {w V : World} {l : Lg} {n g0 g1 g2 x3 y3 z3 x4 y4 z4 x5 y5 z5 x6 y6 z6 x7 y7 z7 x8 y8 z8 : Nat} (h : Hv w V (L9 l n g0 g1 g2 x3 y3 z3 x4 y4 z4 x5 y5 z5 x6 y6 z6 x7 y7 z7 x8 y8 z8)) (hL : LawIn w l) : Calls Try.prog 44 #[.pointer (some ⟨g1, 0, none⟩)] V fun r w' => r = .returned (.bool (Tb.rsB l.d.xs l.d.ys)) ∧ Hv w w' (L9 l n g0 g1 g2 x3 y3 z3 x4 y4 z4 x5 y5 z5 x6 y6 z6 x7 y7 z7 x8 y8 z8) :=
  (ask_r g1 l.d V (h.has (g1, tob l.d) (by simp [L9])) (hL.d.below h.old)).mono fun r w' ⟨h1, h2⟩ => ⟨h1, h.grow h2⟩
theorem q2 {w V : World} {l : Lg} {n g0 g1 g2 x3 y3 z3 x4 y4 z4 x5 y5 z5 x6 y6 z6 x7 y7 z7 x8 y8 z8 : Nat} (h : Hv w V (L9 l n g0 g1 g2 x3 y3 z3 x4 y4 z4 x5 y5 z5 x6 y6 z6 x7 y7 z7 x8 y8 z8)) (hL : LawIn w l) : Calls Try.prog 44 #[.pointer (some ⟨g2, 0, none⟩)] V fun r w' => r = .returned (.bool (Tb.rsB l.s.xs l.s.ys)) ∧ Hv w w' (L9 l n g0 g1 g2 x3 y3 z3 x4 y4 z4 x5 y5 z5 x6 y6 z6 x7 y7 z7 x8 y8 z8) :=
  (ask_r g2 l.s V (h.has (g2, tob l.s) (by simp [L9])) (hL.s.below h.old)).mono fun r w' ⟨h1, h2⟩ => ⟨h1, h.grow h2⟩
theorem q3 {w V : World} {l : Lg} {n g0 g1 g2 x3 y3 z3 x4 y4 z4 x5 y5 z5 x6 y6 z6 x7 y7 z7 x8 y8 z8 : Nat} (h : Hv w V (L9 l n g0 g1 g2 x3 y3 z3 x4 y4 z4 x5 y5 z5 x6 y6 z6 x7 y7 z7 x8 y8 z8)) : Calls Try.prog 47 #[.pointer (some ⟨x3, 0, none⟩), .pointer (some ⟨y3, 0, none⟩), .pointer (some ⟨z3, 0, none⟩)] V fun r w' => r = .returned (.bool (Em.within l.margin 1 1048576)) ∧ Hv w w' (L9 l n g0 g1 g2 x3 y3 z3 x4 y4 z4 x5 y5 z5 x6 y6 z6 x7 y7 z7 x8 y8 z8) :=
  (ask_i x3 y3 z3 1 l.margin 1048576 V (Joins.cell_of_block (h.has (x3, nob 1) (by simp [L9])) 0) (Joins.cell_of_block (h.has (y3, nob l.margin) (by simp [L9])) 0) (Joins.cell_of_block (h.has (z3, nob 1048576) (by simp [L9])) 0)).mono fun r w' ⟨h1, h2⟩ => ⟨h1, h.grow h2⟩
theorem q4 {w V : World} {l : Lg} {n g0 g1 g2 x3 y3 z3 x4 y4 z4 x5 y5 z5 x6 y6 z6 x7 y7 z7 x8 y8 z8 : Nat} (h : Hv w V (L9 l n g0 g1 g2 x3 y3 z3 x4 y4 z4 x5 y5 z5 x6 y6 z6 x7 y7 z7 x8 y8 z8)) : Calls Try.prog 47 #[.pointer (some ⟨x4, 0, none⟩), .pointer (some ⟨y4, 0, none⟩), .pointer (some ⟨z4, 0, none⟩)] V fun r w' => r = .returned (.bool (Em.within l.idle 1 1048576)) ∧ Hv w w' (L9 l n g0 g1 g2 x3 y3 z3 x4 y4 z4 x5 y5 z5 x6 y6 z6 x7 y7 z7 x8 y8 z8) :=
  (ask_i x4 y4 z4 1 l.idle 1048576 V (Joins.cell_of_block (h.has (x4, nob 1) (by simp [L9])) 0) (Joins.cell_of_block (h.has (y4, nob l.idle) (by simp [L9])) 0) (Joins.cell_of_block (h.has (z4, nob 1048576) (by simp [L9])) 0)).mono fun r w' ⟨h1, h2⟩ => ⟨h1, h.grow h2⟩
theorem q5 {w V : World} {l : Lg} {n g0 g1 g2 x3 y3 z3 x4 y4 z4 x5 y5 z5 x6 y6 z6 x7 y7 z7 x8 y8 z8 : Nat} (h : Hv w V (L9 l n g0 g1 g2 x3 y3 z3 x4 y4 z4 x5 y5 z5 x6 y6 z6 x7 y7 z7 x8 y8 z8)) : Calls Try.prog 47 #[.pointer (some ⟨x5, 0, none⟩), .pointer (some ⟨y5, 0, none⟩), .pointer (some ⟨z5, 0, none⟩)] V fun r w' => r = .returned (.bool (Em.within l.patience 1 10000)) ∧ Hv w w' (L9 l n g0 g1 g2 x3 y3 z3 x4 y4 z4 x5 y5 z5 x6 y6 z6 x7 y7 z7 x8 y8 z8) :=
  (ask_i x5 y5 z5 1 l.patience 10000 V (Joins.cell_of_block (h.has (x5, nob 1) (by simp [L9])) 0) (Joins.cell_of_block (h.has (y5, nob l.patience) (by simp [L9])) 0) (Joins.cell_of_block (h.has (z5, nob 10000) (by simp [L9])) 0)).mono fun r w' ⟨h1, h2⟩ => ⟨h1, h.grow h2⟩
theorem q6 {w V : World} {l : Lg} {n g0 g1 g2 x3 y3 z3 x4 y4 z4 x5 y5 z5 x6 y6 z6 x7 y7 z7 x8 y8 z8 : Nat} (h : Hv w V (L9 l n g0 g1 g2 x3 y3 z3 x4 y4 z4 x5 y5 z5 x6 y6 z6 x7 y7 z7 x8 y8 z8)) : Calls Try.prog 47 #[.pointer (some ⟨x6, 0, none⟩), .pointer (some ⟨y6, 0, none⟩), .pointer (some ⟨z6, 0, none⟩)] V fun r w' => r = .returned (.bool (Em.within l.red1 l.margin 1048576)) ∧ Hv w w' (L9 l n g0 g1 g2 x3 y3 z3 x4 y4 z4 x5 y5 z5 x6 y6 z6 x7 y7 z7 x8 y8 z8) :=
  (ask_i x6 y6 z6 l.margin l.red1 1048576 V (Joins.cell_of_block (h.has (x6, nob l.margin) (by simp [L9])) 0) (Joins.cell_of_block (h.has (y6, nob l.red1) (by simp [L9])) 0) (Joins.cell_of_block (h.has (z6, nob 1048576) (by simp [L9])) 0)).mono fun r w' ⟨h1, h2⟩ => ⟨h1, h.grow h2⟩
theorem q7 {w V : World} {l : Lg} {n g0 g1 g2 x3 y3 z3 x4 y4 z4 x5 y5 z5 x6 y6 z6 x7 y7 z7 x8 y8 z8 : Nat} (h : Hv w V (L9 l n g0 g1 g2 x3 y3 z3 x4 y4 z4 x5 y5 z5 x6 y6 z6 x7 y7 z7 x8 y8 z8)) : Calls Try.prog 47 #[.pointer (some ⟨x7, 0, none⟩), .pointer (some ⟨y7, 0, none⟩), .pointer (some ⟨z7, 0, none⟩)] V fun r w' => r = .returned (.bool (Em.within l.red2 l.margin 1048576)) ∧ Hv w w' (L9 l n g0 g1 g2 x3 y3 z3 x4 y4 z4 x5 y5 z5 x6 y6 z6 x7 y7 z7 x8 y8 z8) :=
  (ask_i x7 y7 z7 l.margin l.red2 1048576 V (Joins.cell_of_block (h.has (x7, nob l.margin) (by simp [L9])) 0) (Joins.cell_of_block (h.has (y7, nob l.red2) (by simp [L9])) 0) (Joins.cell_of_block (h.has (z7, nob 1048576) (by simp [L9])) 0)).mono fun r w' ⟨h1, h2⟩ => ⟨h1, h.grow h2⟩
theorem q8 {w V : World} {l : Lg} {n g0 g1 g2 x3 y3 z3 x4 y4 z4 x5 y5 z5 x6 y6 z6 x7 y7 z7 x8 y8 z8 : Nat} (h : Hv w V (L9 l n g0 g1 g2 x3 y3 z3 x4 y4 z4 x5 y5 z5 x6 y6 z6 x7 y7 z7 x8 y8 z8)) : Calls Try.prog 47 #[.pointer (some ⟨x8, 0, none⟩), .pointer (some ⟨y8, 0, none⟩), .pointer (some ⟨z8, 0, none⟩)] V fun r w' => r = .returned (.bool (Em.within l.redE l.margin 1048576)) ∧ Hv w w' (L9 l n g0 g1 g2 x3 y3 z3 x4 y4 z4 x5 y5 z5 x6 y6 z6 x7 y7 z7 x8 y8 z8) :=
  (ask_i x8 y8 z8 l.margin l.redE 1048576 V (Joins.cell_of_block (h.has (x8, nob l.margin) (by simp [L9])) 0) (Joins.cell_of_block (h.has (y8, nob l.redE) (by simp [L9])) 0) (Joins.cell_of_block (h.has (z8, nob 1048576) (by simp [L9])) 0)).mono fun r w' ⟨h1, h2⟩ => ⟨h1, h.grow h2⟩

/-- The nine answers, in order. -/
def an (l : Lg) : Nat → Bool
  | 0 => Tb.rsB l.a.xs l.a.ys
  | 1 => Tb.rsB l.d.xs l.d.ys
  | 2 => Tb.rsB l.s.xs l.s.ys
  | 3 => Em.within l.margin 1 1048576
  | 4 => Em.within l.idle 1 1048576
  | 5 => Em.within l.patience 1 10000
  | 6 => Em.within l.red1 l.margin 1048576
  | 7 => Em.within l.red2 l.margin 1048576
  | 8 => Em.within l.redE l.margin 1048576
  | _ => true
def Said (l : Lg) (k : Nat) : Prop := ∀ j, j < k → an l j = true
theorem Said.next {l : Lg} {k : Nat} (h : Said l k) (hk : an l k = true) : Said l (k + 1) := fun j hj => by
  by_cases e : j = k
  · rw [e]; exact hk
  · exact h j (by omega)
theorem ok_nine (l : Lg) : Sd.okB (la l) = (an l 0 && an l 1 && an l 2 && (an l 3 && an l 4 && an l 5) && (an l 6 && an l 7 && an l 8)) := rfl
theorem err_no {l : Lg} {k : Nat} (hk : k < 9) (h : an l k = false) : Sd.err (la l) = 140 := by
  have : Sd.okB (la l) = false := by
    rw [ok_nine]
    obtain rfl | rfl | rfl | rfl | rfl | rfl | rfl | rfl | rfl : k = 0 ∨ k = 1 ∨ k = 2 ∨ k = 3 ∨ k = 4 ∨ k = 5 ∨ k = 6 ∨ k = 7 ∨ k = 8 := by omega
    all_goals simp [h]
  rw [Sd.err, this]; rfl
theorem err_yes {l : Lg} (h : Said l 9) : Sd.err (la l) = 0 := by
  have : Sd.okB (la l) = true := by
    rw [ok_nine]
    simp [h 0 (by omega), h 1 (by omega), h 2 (by omega), h 3 (by omega), h 4 (by omega), h 5 (by omega), h 6 (by omega), h 7 (by omega), h 8 (by omega)]
  rw [Sd.err, this]; rfl

theorem ord_check : Lk.orderedB (Lk.opsOf Try.f21 4) [(0, false), (1, false), (2, false), (4, false), (5, false), (6, false), (8, false), (9, false), (10, false), (13, false), (14, false), (15, false), (17, false), (18, false), (19, false), (21, false), (22, false), (23, false), (26, false), (27, false), (28, false), (29, false), (30, false), (32, false), (33, false), (34, false), (35, false), (36, false), (38, false), (39, false), (40, false), (41, false), (42, false), (46, false), (3, true), (7, true), (11, true), (12, false), (16, true), (20, true), (24, true), (25, false), (31, true), (37, true), (43, true), (44, false), (45, false)] = true := by kernel_rfl

set_option maxRecDepth 100000 in
set_option maxHeartbeats 8000000 in
theorem check_c (l : Lg) (w : World) (hL : LawIn w l) : Calls Try.prog 21 #[.agg (lc l)] w fun r w' => r = .returned (.int .i64 (Sd.err (la l))) ∧ Below w.heap.size w w' := by
  have HV := Lib.hid (one_l w l)
  have HL := Lib.hid hL
  clear hL
  go_enter Try.func21, Try.ntmps21
  go_wp2_with fail
  go_step3
  go_wp2_with fail
  go_step3
  go_wp2_with fail
  refine wp_region_noPanic (Lk.wp_region_ordered ord_check (fun V => LFld V w.heap.size l) (by kernel_rfl) (by kernel_rfl) (fun _ _ _ _ _ h => h) (by first | (with_reducible exact lfld HV.out.head) | (with_reducible exact lfld HV.out.drew.head)) ?_)
  replace HV := Lib.hid HV.out.drew
  iterate 34 (refine Lk.ord_take ?_ rfl rfl ?_ ?_; rotate_left; (focus (intro w' hS; (try dsimp only at hS); go_simp; try with_reducible rfl)); simp only [Act.put, List.setIfInBounds_toArray, List.set_cons_zero, List.set_cons_succ])
  refine Lk.ord_step rfl rfl (fun K hK => ?_)
  go_simp
  (with_reducible refine (mk_rh HV.out l.a).mono ?_)
  rintro r W ⟨g0, rfl, hv⟩
  replace HV := Lib.hid hv
  clear hv
  refine hK.out _ _ (by first | (with_reducible exact lfld HV.out.head) | (with_reducible exact lfld HV.out.drew.head)) ?_
  clear hK K
  try simp only [Act.put, List.setIfInBounds_toArray, List.set_cons_zero, List.set_cons_succ]
  refine Lk.ord_step rfl rfl (fun K hK => ?_)
  go_simp
  (with_reducible refine (mk_rh HV.out l.d).mono ?_)
  rintro r W ⟨g1, rfl, hv⟩
  replace HV := Lib.hid hv
  clear hv
  refine hK.out _ _ (by first | (with_reducible exact lfld HV.out.head) | (with_reducible exact lfld HV.out.drew.head)) ?_
  clear hK K
  try simp only [Act.put, List.setIfInBounds_toArray, List.set_cons_zero, List.set_cons_succ]
  refine Lk.ord_step rfl rfl (fun K hK => ?_)
  go_simp
  (with_reducible refine (mk_rh HV.out l.s).mono ?_)
  rintro r W ⟨g2, rfl, hv⟩
  replace HV := Lib.hid hv
  clear hv
  refine hK.out _ _ (by first | (with_reducible exact lfld HV.out.head) | (with_reducible exact lfld HV.out.drew.head)) ?_
  clear hK K
  try simp only [Act.put, List.setIfInBounds_toArray, List.set_cons_zero, List.set_cons_succ]
  iterate 1 (refine Lk.ord_take ?_ rfl rfl ?_ ?_; rotate_left; (focus (intro w' hS; (try dsimp only at hS); go_simp; try with_reducible rfl)); simp only [Act.put, List.setIfInBounds_toArray, List.set_cons_zero, List.set_cons_succ])
  refine Lk.ord_step rfl rfl (fun K hK => ?_)
  go_simp
  (with_reducible refine (mk_ih HV.out 1 l.margin 1048576).mono ?_)
  rintro r W ⟨x3, y3, z3, rfl, hv⟩
  replace HV := Lib.hid hv
  clear hv
  refine hK.out _ _ (by first | (with_reducible exact lfld HV.out.head) | (with_reducible exact lfld HV.out.drew.head)) ?_
  clear hK K
  try simp only [Act.put, List.setIfInBounds_toArray, List.set_cons_zero, List.set_cons_succ]
  refine Lk.ord_step rfl rfl (fun K hK => ?_)
  go_simp
  (with_reducible refine (mk_ih HV.out 1 l.idle 1048576).mono ?_)
  rintro r W ⟨x4, y4, z4, rfl, hv⟩
  replace HV := Lib.hid hv
  clear hv
  refine hK.out _ _ (by first | (with_reducible exact lfld HV.out.head) | (with_reducible exact lfld HV.out.drew.head)) ?_
  clear hK K
  try simp only [Act.put, List.setIfInBounds_toArray, List.set_cons_zero, List.set_cons_succ]
  refine Lk.ord_step rfl rfl (fun K hK => ?_)
  go_simp
  (with_reducible refine (mk_ih HV.out 1 l.patience 10000).mono ?_)
  rintro r W ⟨x5, y5, z5, rfl, hv⟩
  replace HV := Lib.hid hv
  clear hv
  refine hK.out _ _ (by first | (with_reducible exact lfld HV.out.head) | (with_reducible exact lfld HV.out.drew.head)) ?_
  clear hK K
  try simp only [Act.put, List.setIfInBounds_toArray, List.set_cons_zero, List.set_cons_succ]
  iterate 1 (refine Lk.ord_take ?_ rfl rfl ?_ ?_; rotate_left; (focus (intro w' hS; (try dsimp only at hS); go_simp; try with_reducible rfl)); simp only [Act.put, List.setIfInBounds_toArray, List.set_cons_zero, List.set_cons_succ])
  refine Lk.ord_step rfl rfl (fun K hK => ?_)
  go_simp
  (with_reducible refine (mk_ih HV.out l.margin l.red1 1048576).mono ?_)
  rintro r W ⟨x6, y6, z6, rfl, hv⟩
  replace HV := Lib.hid hv
  clear hv
  refine hK.out _ _ (by first | (with_reducible exact lfld HV.out.head) | (with_reducible exact lfld HV.out.drew.head)) ?_
  clear hK K
  try simp only [Act.put, List.setIfInBounds_toArray, List.set_cons_zero, List.set_cons_succ]
  refine Lk.ord_step rfl rfl (fun K hK => ?_)
  go_simp
  (with_reducible refine (mk_ih HV.out l.margin l.red2 1048576).mono ?_)
  rintro r W ⟨x7, y7, z7, rfl, hv⟩
  replace HV := Lib.hid hv
  clear hv
  refine hK.out _ _ (by first | (with_reducible exact lfld HV.out.head) | (with_reducible exact lfld HV.out.drew.head)) ?_
  clear hK K
  try simp only [Act.put, List.setIfInBounds_toArray, List.set_cons_zero, List.set_cons_succ]
  refine Lk.ord_step rfl rfl (fun K hK => ?_)
  go_simp
  (with_reducible refine (mk_ih HV.out l.margin l.redE 1048576).mono ?_)
  rintro r W ⟨x8, y8, z8, rfl, hv⟩
  replace HV := Lib.hid hv
  clear hv
  refine hK.out _ _ (by first | (with_reducible exact lfld HV.out.head) | (with_reducible exact lfld HV.out.drew.head)) ?_
  clear hK K
  try simp only [Act.put, List.setIfInBounds_toArray, List.set_cons_zero, List.set_cons_succ]
  iterate 2 (refine Lk.ord_take ?_ rfl rfl ?_ ?_; rotate_left; (focus (intro w' hS; (try dsimp only at hS); go_simp; try with_reducible rfl)); simp only [Act.put, List.setIfInBounds_toArray, List.set_cons_zero, List.set_cons_succ])
  refine Lk.ord_nil (NoPanic.normal ?_)
  go_wp2_with fail
  go_loopw [5, 56] (fun r i wr => ∃ k : Nat, k ≤ 3 ∧ i = .int .i64 k ∧ r = .int .i64 0 ∧ Hv w wr (L9 l w.heap.size g0 g1 g2 x3 y3 z3 x4 y4 z4 x5 y5 z5 x6 y6 z6 x7 y7 z7 x8 y8 z8) ∧ Said l (3 * k)) (fun _ i _ => 3 - (intOf i).toNat)
  case atStart => exact ⟨0, by omega, rfl, rfl, HV.out, fun j hj => by omega⟩
  case round =>
    clear HV
    obtain ⟨k, hk, rfl, rfl, hv, hsd⟩ := hrel
    have HV := Lib.hid hv
    have HS := Lib.hid hsd
    clear hv hsd
    obtain rfl | rfl | rfl | rfl : k = 0 ∨ k = 1 ∨ k = 2 ∨ k = 3 := by omega
    · have i0 : ∀ W, (Instr.index 63 (.agg #[fr g0, fr g1, fr g2, fi x3 y3 z3, fi x4 y4 z4, fi x5 y5 z5, fi x6 y6 z6, fi x7 y7 z7, fi x8 y8 z8]) (.int .i64 0)).run Try.prog W = .ok (.agg #[fr g0, fr g1, fr g2]) W := fun _ => by kernel_rfl
      have j0 : ∀ W, (Instr.index 62 (.agg #[fr g0, fr g1, fr g2]) (.int .i64 0)).run Try.prog W = .ok (fr g0) W := fun _ => by kernel_rfl
      have j1 : ∀ W, (Instr.index 62 (.agg #[fr g0, fr g1, fr g2]) (.int .i64 1)).run Try.prog W = .ok (fr g1) W := fun _ => by kernel_rfl
      have j2 : ∀ W, (Instr.index 62 (.agg #[fr g0, fr g1, fr g2]) (.int .i64 2)).run Try.prog W = .ok (fr g2) W := fun _ => by kernel_rfl
      have HN := Lib.hid (HV.out.made (o3 Value.nilFunc Value.nilFunc Value.nilFunc))
      rw [show ((0 : Nat) : Int) = 0 from rfl]
      go_wp2_with (first | (refine st3 rfl _ _ rfl rfl _ Value.nilFunc _ _ _ rfl rfl rfl rfl rfl HN.out.head ?_; intro W hP hO; replace HN := Lib.hid (HN.out.change hO hP (fun e he => by have := HV.out.lt he; omega) HV.out.old.size); clear hP hO) | (refine ld3 rfl _ rfl _ _ _ _ rfl HN.out.head ?_) | fail)
      replace HV := Lib.hid HN.out.tail
      clear HN i0
      go_loopw [5, 60] (fun r i wr => ∃ m : Nat, m ≤ 3 ∧ i = .int .i64 m ∧ r = .int .i64 0 ∧ Hv w wr (L9 l w.heap.size g0 g1 g2 x3 y3 z3 x4 y4 z4 x5 y5 z5 x6 y6 z6 x7 y7 z7 x8 y8 z8) ∧ Said l (0 + m)) (fun _ i _ => 3 - (intOf i).toNat)
      case atStart => exact ⟨0, by omega, rfl, rfl, HV.out, HS.out⟩
      case round =>
        clear HV HS
        obtain ⟨m, hm, rfl, rfl, hv, hsd⟩ := hrel
        have HV := Lib.hid hv
        have HS := Lib.hid hsd
        clear hv hsd
        obtain rfl | rfl | rfl | rfl : m = 0 ∨ m = 1 ∨ m = 2 ∨ m = 3 := by omega
        · cases hb : Tb.rsB l.a.xs l.a.ys with
          | false =>
            have CQ := Lib.hid (q0 HV.out HL.out)
            rw [hb] at CQ
            rw [show ((0 : Nat) : Int) = 0 from rfl]
            have HE := Lib.hid (err_no (l := l) (k := 0) (by omega) hb)
            clear hb
            go_wp2_with (first | (go_at_call 44; (with_reducible refine CQ.out.mono ?_); rintro r W ⟨rfl, hv⟩; replace HV := Lib.hid hv; clear hv CQ) | fail)
            try rw [Exit.noGoto_ret]
            go_ret
            exact ⟨ret_int HE.out.symm, HV.out.old⟩
          | true =>
            have CQ := Lib.hid (q0 HV.out HL.out)
            rw [hb] at CQ
            rw [show ((0 : Nat) : Int) = 0 from rfl]
            have HS2 := Lib.hid (HS.out.next (k := 0) hb)
            clear hb
            go_wp2_with (first | (go_at_call 44; (with_reducible refine CQ.out.mono ?_); rintro r W ⟨rfl, hv⟩; replace HV := Lib.hid hv; clear hv CQ) | fail)
            go_roundw
            case rel => exact ⟨0 + 1, by omega, by go_num, rfl, HV.out, HS2.out⟩
            case measure => simp [intOf]
        · cases hb : Tb.rsB l.d.xs l.d.ys with
          | false =>
            have CQ := Lib.hid (q1 HV.out HL.out)
            rw [hb] at CQ
            rw [show ((1 : Nat) : Int) = 1 from rfl]
            have HE := Lib.hid (err_no (l := l) (k := 1) (by omega) hb)
            clear hb
            go_wp2_with (first | (go_at_call 44; (with_reducible refine CQ.out.mono ?_); rintro r W ⟨rfl, hv⟩; replace HV := Lib.hid hv; clear hv CQ) | fail)
            try rw [Exit.noGoto_ret]
            go_ret
            exact ⟨ret_int HE.out.symm, HV.out.old⟩
          | true =>
            have CQ := Lib.hid (q1 HV.out HL.out)
            rw [hb] at CQ
            rw [show ((1 : Nat) : Int) = 1 from rfl]
            have HS2 := Lib.hid (HS.out.next (k := 1) hb)
            clear hb
            go_wp2_with (first | (go_at_call 44; (with_reducible refine CQ.out.mono ?_); rintro r W ⟨rfl, hv⟩; replace HV := Lib.hid hv; clear hv CQ) | fail)
            go_roundw
            case rel => exact ⟨1 + 1, by omega, by go_num, rfl, HV.out, HS2.out⟩
            case measure => simp [intOf]
        · cases hb : Tb.rsB l.s.xs l.s.ys with
          | false =>
            have CQ := Lib.hid (q2 HV.out HL.out)
            rw [hb] at CQ
            rw [show ((2 : Nat) : Int) = 2 from rfl]
            have HE := Lib.hid (err_no (l := l) (k := 2) (by omega) hb)
            clear hb
            go_wp2_with (first | (go_at_call 44; (with_reducible refine CQ.out.mono ?_); rintro r W ⟨rfl, hv⟩; replace HV := Lib.hid hv; clear hv CQ) | fail)
            try rw [Exit.noGoto_ret]
            go_ret
            exact ⟨ret_int HE.out.symm, HV.out.old⟩
          | true =>
            have CQ := Lib.hid (q2 HV.out HL.out)
            rw [hb] at CQ
            rw [show ((2 : Nat) : Int) = 2 from rfl]
            have HS2 := Lib.hid (HS.out.next (k := 2) hb)
            clear hb
            go_wp2_with (first | (go_at_call 44; (with_reducible refine CQ.out.mono ?_); rintro r W ⟨rfl, hv⟩; replace HV := Lib.hid hv; clear hv CQ) | fail)
            go_roundw
            case rel => exact ⟨2 + 1, by omega, by go_num, rfl, HV.out, HS2.out⟩
            case measure => simp [intOf]
        · rw [show ((3 : Nat) : Int) = 3 from rfl]
          go_wp2_with fail
          go_roundw
          case rel => exact ⟨0 + 1, by omega, by go_num, rfl, HV.out, HS.out⟩
          case measure => simp [intOf]
    · have i0 : ∀ W, (Instr.index 63 (.agg #[fr g0, fr g1, fr g2, fi x3 y3 z3, fi x4 y4 z4, fi x5 y5 z5, fi x6 y6 z6, fi x7 y7 z7, fi x8 y8 z8]) (.int .i64 1)).run Try.prog W = .ok (.agg #[fi x3 y3 z3, fi x4 y4 z4, fi x5 y5 z5]) W := fun _ => by kernel_rfl
      have j0 : ∀ W, (Instr.index 62 (.agg #[fi x3 y3 z3, fi x4 y4 z4, fi x5 y5 z5]) (.int .i64 0)).run Try.prog W = .ok (fi x3 y3 z3) W := fun _ => by kernel_rfl
      have j1 : ∀ W, (Instr.index 62 (.agg #[fi x3 y3 z3, fi x4 y4 z4, fi x5 y5 z5]) (.int .i64 1)).run Try.prog W = .ok (fi x4 y4 z4) W := fun _ => by kernel_rfl
      have j2 : ∀ W, (Instr.index 62 (.agg #[fi x3 y3 z3, fi x4 y4 z4, fi x5 y5 z5]) (.int .i64 2)).run Try.prog W = .ok (fi x5 y5 z5) W := fun _ => by kernel_rfl
      have HN := Lib.hid (HV.out.made (o3 Value.nilFunc Value.nilFunc Value.nilFunc))
      rw [show ((1 : Nat) : Int) = 1 from rfl]
      go_wp2_with (first | (refine st3 rfl _ _ rfl rfl _ Value.nilFunc _ _ _ rfl rfl rfl rfl rfl HN.out.head ?_; intro W hP hO; replace HN := Lib.hid (HN.out.change hO hP (fun e he => by have := HV.out.lt he; omega) HV.out.old.size); clear hP hO) | (refine ld3 rfl _ rfl _ _ _ _ rfl HN.out.head ?_) | fail)
      replace HV := Lib.hid HN.out.tail
      clear HN i0
      go_loopw [5, 60] (fun r i wr => ∃ m : Nat, m ≤ 3 ∧ i = .int .i64 m ∧ r = .int .i64 0 ∧ Hv w wr (L9 l w.heap.size g0 g1 g2 x3 y3 z3 x4 y4 z4 x5 y5 z5 x6 y6 z6 x7 y7 z7 x8 y8 z8) ∧ Said l (3 + m)) (fun _ i _ => 3 - (intOf i).toNat)
      case atStart => exact ⟨0, by omega, rfl, rfl, HV.out, HS.out⟩
      case round =>
        clear HV HS
        obtain ⟨m, hm, rfl, rfl, hv, hsd⟩ := hrel
        have HV := Lib.hid hv
        have HS := Lib.hid hsd
        clear hv hsd
        obtain rfl | rfl | rfl | rfl : m = 0 ∨ m = 1 ∨ m = 2 ∨ m = 3 := by omega
        · cases hb : Em.within l.margin 1 1048576 with
          | false =>
            have CQ := Lib.hid (q3 HV.out)
            rw [hb] at CQ
            rw [show ((0 : Nat) : Int) = 0 from rfl]
            have HE := Lib.hid (err_no (l := l) (k := 3) (by omega) hb)
            clear hb
            go_wp2_with (first | (go_at_call 47; (with_reducible refine CQ.out.mono ?_); rintro r W ⟨rfl, hv⟩; replace HV := Lib.hid hv; clear hv CQ) | fail)
            try rw [Exit.noGoto_ret]
            go_ret
            exact ⟨ret_int HE.out.symm, HV.out.old⟩
          | true =>
            have CQ := Lib.hid (q3 HV.out)
            rw [hb] at CQ
            rw [show ((0 : Nat) : Int) = 0 from rfl]
            have HS2 := Lib.hid (HS.out.next (k := 3) hb)
            clear hb
            go_wp2_with (first | (go_at_call 47; (with_reducible refine CQ.out.mono ?_); rintro r W ⟨rfl, hv⟩; replace HV := Lib.hid hv; clear hv CQ) | fail)
            go_roundw
            case rel => exact ⟨0 + 1, by omega, by go_num, rfl, HV.out, HS2.out⟩
            case measure => simp [intOf]
        · cases hb : Em.within l.idle 1 1048576 with
          | false =>
            have CQ := Lib.hid (q4 HV.out)
            rw [hb] at CQ
            rw [show ((1 : Nat) : Int) = 1 from rfl]
            have HE := Lib.hid (err_no (l := l) (k := 4) (by omega) hb)
            clear hb
            go_wp2_with (first | (go_at_call 47; (with_reducible refine CQ.out.mono ?_); rintro r W ⟨rfl, hv⟩; replace HV := Lib.hid hv; clear hv CQ) | fail)
            try rw [Exit.noGoto_ret]
            go_ret
            exact ⟨ret_int HE.out.symm, HV.out.old⟩
          | true =>
            have CQ := Lib.hid (q4 HV.out)
            rw [hb] at CQ
            rw [show ((1 : Nat) : Int) = 1 from rfl]
            have HS2 := Lib.hid (HS.out.next (k := 4) hb)
            clear hb
            go_wp2_with (first | (go_at_call 47; (with_reducible refine CQ.out.mono ?_); rintro r W ⟨rfl, hv⟩; replace HV := Lib.hid hv; clear hv CQ) | fail)
            go_roundw
            case rel => exact ⟨1 + 1, by omega, by go_num, rfl, HV.out, HS2.out⟩
            case measure => simp [intOf]
        · cases hb : Em.within l.patience 1 10000 with
          | false =>
            have CQ := Lib.hid (q5 HV.out)
            rw [hb] at CQ
            rw [show ((2 : Nat) : Int) = 2 from rfl]
            have HE := Lib.hid (err_no (l := l) (k := 5) (by omega) hb)
            clear hb
            go_wp2_with (first | (go_at_call 47; (with_reducible refine CQ.out.mono ?_); rintro r W ⟨rfl, hv⟩; replace HV := Lib.hid hv; clear hv CQ) | fail)
            try rw [Exit.noGoto_ret]
            go_ret
            exact ⟨ret_int HE.out.symm, HV.out.old⟩
          | true =>
            have CQ := Lib.hid (q5 HV.out)
            rw [hb] at CQ
            rw [show ((2 : Nat) : Int) = 2 from rfl]
            have HS2 := Lib.hid (HS.out.next (k := 5) hb)
            clear hb
            go_wp2_with (first | (go_at_call 47; (with_reducible refine CQ.out.mono ?_); rintro r W ⟨rfl, hv⟩; replace HV := Lib.hid hv; clear hv CQ) | fail)
            go_roundw
            case rel => exact ⟨2 + 1, by omega, by go_num, rfl, HV.out, HS2.out⟩
            case measure => simp [intOf]
        · rw [show ((3 : Nat) : Int) = 3 from rfl]
          go_wp2_with fail
          go_roundw
          case rel => exact ⟨1 + 1, by omega, by go_num, rfl, HV.out, HS.out⟩
          case measure => simp [intOf]
    · have i0 : ∀ W, (Instr.index 63 (.agg #[fr g0, fr g1, fr g2, fi x3 y3 z3, fi x4 y4 z4, fi x5 y5 z5, fi x6 y6 z6, fi x7 y7 z7, fi x8 y8 z8]) (.int .i64 2)).run Try.prog W = .ok (.agg #[fi x6 y6 z6, fi x7 y7 z7, fi x8 y8 z8]) W := fun _ => by kernel_rfl
      have j0 : ∀ W, (Instr.index 62 (.agg #[fi x6 y6 z6, fi x7 y7 z7, fi x8 y8 z8]) (.int .i64 0)).run Try.prog W = .ok (fi x6 y6 z6) W := fun _ => by kernel_rfl
      have j1 : ∀ W, (Instr.index 62 (.agg #[fi x6 y6 z6, fi x7 y7 z7, fi x8 y8 z8]) (.int .i64 1)).run Try.prog W = .ok (fi x7 y7 z7) W := fun _ => by kernel_rfl
      have j2 : ∀ W, (Instr.index 62 (.agg #[fi x6 y6 z6, fi x7 y7 z7, fi x8 y8 z8]) (.int .i64 2)).run Try.prog W = .ok (fi x8 y8 z8) W := fun _ => by kernel_rfl
      have HN := Lib.hid (HV.out.made (o3 Value.nilFunc Value.nilFunc Value.nilFunc))
      rw [show ((2 : Nat) : Int) = 2 from rfl]
      go_wp2_with (first | (refine st3 rfl _ _ rfl rfl _ Value.nilFunc _ _ _ rfl rfl rfl rfl rfl HN.out.head ?_; intro W hP hO; replace HN := Lib.hid (HN.out.change hO hP (fun e he => by have := HV.out.lt he; omega) HV.out.old.size); clear hP hO) | (refine ld3 rfl _ rfl _ _ _ _ rfl HN.out.head ?_) | fail)
      replace HV := Lib.hid HN.out.tail
      clear HN i0
      go_loopw [5, 60] (fun r i wr => ∃ m : Nat, m ≤ 3 ∧ i = .int .i64 m ∧ r = .int .i64 0 ∧ Hv w wr (L9 l w.heap.size g0 g1 g2 x3 y3 z3 x4 y4 z4 x5 y5 z5 x6 y6 z6 x7 y7 z7 x8 y8 z8) ∧ Said l (6 + m)) (fun _ i _ => 3 - (intOf i).toNat)
      case atStart => exact ⟨0, by omega, rfl, rfl, HV.out, HS.out⟩
      case round =>
        clear HV HS
        obtain ⟨m, hm, rfl, rfl, hv, hsd⟩ := hrel
        have HV := Lib.hid hv
        have HS := Lib.hid hsd
        clear hv hsd
        obtain rfl | rfl | rfl | rfl : m = 0 ∨ m = 1 ∨ m = 2 ∨ m = 3 := by omega
        · cases hb : Em.within l.red1 l.margin 1048576 with
          | false =>
            have CQ := Lib.hid (q6 HV.out)
            rw [hb] at CQ
            rw [show ((0 : Nat) : Int) = 0 from rfl]
            have HE := Lib.hid (err_no (l := l) (k := 6) (by omega) hb)
            clear hb
            go_wp2_with (first | (go_at_call 47; (with_reducible refine CQ.out.mono ?_); rintro r W ⟨rfl, hv⟩; replace HV := Lib.hid hv; clear hv CQ) | fail)
            try rw [Exit.noGoto_ret]
            go_ret
            exact ⟨ret_int HE.out.symm, HV.out.old⟩
          | true =>
            have CQ := Lib.hid (q6 HV.out)
            rw [hb] at CQ
            rw [show ((0 : Nat) : Int) = 0 from rfl]
            have HS2 := Lib.hid (HS.out.next (k := 6) hb)
            clear hb
            go_wp2_with (first | (go_at_call 47; (with_reducible refine CQ.out.mono ?_); rintro r W ⟨rfl, hv⟩; replace HV := Lib.hid hv; clear hv CQ) | fail)
            go_roundw
            case rel => exact ⟨0 + 1, by omega, by go_num, rfl, HV.out, HS2.out⟩
            case measure => simp [intOf]
        · cases hb : Em.within l.red2 l.margin 1048576 with
          | false =>
            have CQ := Lib.hid (q7 HV.out)
            rw [hb] at CQ
            rw [show ((1 : Nat) : Int) = 1 from rfl]
            have HE := Lib.hid (err_no (l := l) (k := 7) (by omega) hb)
            clear hb
            go_wp2_with (first | (go_at_call 47; (with_reducible refine CQ.out.mono ?_); rintro r W ⟨rfl, hv⟩; replace HV := Lib.hid hv; clear hv CQ) | fail)
            try rw [Exit.noGoto_ret]
            go_ret
            exact ⟨ret_int HE.out.symm, HV.out.old⟩
          | true =>
            have CQ := Lib.hid (q7 HV.out)
            rw [hb] at CQ
            rw [show ((1 : Nat) : Int) = 1 from rfl]
            have HS2 := Lib.hid (HS.out.next (k := 7) hb)
            clear hb
            go_wp2_with (first | (go_at_call 47; (with_reducible refine CQ.out.mono ?_); rintro r W ⟨rfl, hv⟩; replace HV := Lib.hid hv; clear hv CQ) | fail)
            go_roundw
            case rel => exact ⟨1 + 1, by omega, by go_num, rfl, HV.out, HS2.out⟩
            case measure => simp [intOf]
        · cases hb : Em.within l.redE l.margin 1048576 with
          | false =>
            have CQ := Lib.hid (q8 HV.out)
            rw [hb] at CQ
            rw [show ((2 : Nat) : Int) = 2 from rfl]
            have HE := Lib.hid (err_no (l := l) (k := 8) (by omega) hb)
            clear hb
            go_wp2_with (first | (go_at_call 47; (with_reducible refine CQ.out.mono ?_); rintro r W ⟨rfl, hv⟩; replace HV := Lib.hid hv; clear hv CQ) | fail)
            try rw [Exit.noGoto_ret]
            go_ret
            exact ⟨ret_int HE.out.symm, HV.out.old⟩
          | true =>
            have CQ := Lib.hid (q8 HV.out)
            rw [hb] at CQ
            rw [show ((2 : Nat) : Int) = 2 from rfl]
            have HS2 := Lib.hid (HS.out.next (k := 8) hb)
            clear hb
            go_wp2_with (first | (go_at_call 47; (with_reducible refine CQ.out.mono ?_); rintro r W ⟨rfl, hv⟩; replace HV := Lib.hid hv; clear hv CQ) | fail)
            go_roundw
            case rel => exact ⟨2 + 1, by omega, by go_num, rfl, HV.out, HS2.out⟩
            case measure => simp [intOf]
        · rw [show ((3 : Nat) : Int) = 3 from rfl]
          go_wp2_with fail
          go_roundw
          case rel => exact ⟨2 + 1, by omega, by go_num, rfl, HV.out, HS.out⟩
          case measure => simp [intOf]
    · rw [show ((3 : Nat) : Int) = 3 from rfl]
      have HE := Lib.hid (err_yes HS.out)
      go_wp2_with fail
      try rw [Exit.noGoto_ret]
      go_ret
      exact ⟨ret_int HE.out.symm, HV.out.old⟩
end Hw
end Go.Proofs.Ytjhgcbkdghcgmaa
