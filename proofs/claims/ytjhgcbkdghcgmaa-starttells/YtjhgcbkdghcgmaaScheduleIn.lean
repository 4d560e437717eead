/- Laws that came in, and their box; the closures that ask of them. -/
import Derived.Test.YtjhgcbkdghcgmaaSynthFld
import Derived.Test.YtjhgcbkdghcgmaaScheduleMath
import Derived.Laws.EntriesVeiled
namespace Go.Proofs.Ytjhgcbkdghcgmaa
namespace Hw
open Go.RowKit TabC Lk Ew

/-- Laws as they lie: three tables and six numbers. -/
structure Lg where
  a : Tv
  d : Tv
  s : Tv
  red1 : Int
  red2 : Int
  redE : Int
  margin : Int
  idle : Int
  patience : Int
def la (l : Lg) : Sd.Ls := ⟨l.a.xs, l.a.ys, l.d.xs, l.d.ys, l.s.xs, l.s.ys, l.red1, l.red2, l.redE, l.margin, l.idle, l.patience⟩
abbrev lc (l : Lg) : Array Value := #[.slice l.a.A l.a.xs.length l.a.ca, .slice l.a.B l.a.ys.length l.a.cb, .slice l.d.A l.d.xs.length l.d.ca, .slice l.d.B l.d.ys.length l.d.cb, .slice l.s.A l.s.xs.length l.s.ca, .slice l.s.B l.s.ys.length l.s.cb, .int .i64 l.red1, .int .i64 l.red2, .int .i64 l.redE, .int .i64 l.margin, .int .i64 l.idle, .int .i64 l.patience]
abbrev lo (l : Lg) : Obj := .cells (lc l) 28 (0, 0)
theorem info_l : (Try.prog.info? 28).map (·.size) = some 12 := by kernel_rfl
theorem lc_one (l : Lg) : (lc l).all (·.oneCell') = true := by simp [lc, Value.oneCell']
/-- The tables of laws can be read. -/
structure LawIn (W : World) (l : Lg) : Prop where
  a : TabIn W l.a.A l.a.B l.a.xs l.a.ys
  d : TabIn W l.d.A l.d.B l.d.xs l.d.ys
  s : TabIn W l.s.A l.s.B l.s.xs l.s.ys
theorem LawIn.below {W W' : World} {l : Lg} (h : LawIn W l) (hb : Below W.heap.size W W') : LawIn W' l := ⟨h.a.below hb, h.d.below hb, h.s.below hb⟩
theorem one_l (w : World) (l : Lg) : Hv w (w.alloc (lo l)) [(w.heap.size, lo l)] := (Hv.nil w).made (lo l)
/-- The cells of a laws' block. -/
abbrev LFld (V : World) (b : Nat) (l : Lg) : Prop :=
  V.cell? ⟨b, 0, none⟩ = some (.slice l.a.A l.a.xs.length l.a.ca) ∧ V.cell? ⟨b, 1, none⟩ = some (.slice l.a.B l.a.ys.length l.a.cb) ∧ V.cell? ⟨b, 2, none⟩ = some (.slice l.d.A l.d.xs.length l.d.ca) ∧ V.cell? ⟨b, 3, none⟩ = some (.slice l.d.B l.d.ys.length l.d.cb) ∧
  V.cell? ⟨b, 4, none⟩ = some (.slice l.s.A l.s.xs.length l.s.ca) ∧ V.cell? ⟨b, 5, none⟩ = some (.slice l.s.B l.s.ys.length l.s.cb) ∧
  V.cell? ⟨b, 6, none⟩ = some (.int .i64 l.red1) ∧ V.cell? ⟨b, 7, none⟩ = some (.int .i64 l.red2) ∧ V.cell? ⟨b, 8, none⟩ = some (.int .i64 l.redE) ∧ V.cell? ⟨b, 9, none⟩ = some (.int .i64 l.margin) ∧
  V.cell? ⟨b, 10, none⟩ = some (.int .i64 l.idle) ∧ V.cell? ⟨b, 11, none⟩ = some (.int .i64 l.patience)
theorem lfld {V : World} {b : Nat} {l : Lg} (h : V.heap[b]? = some (lo l)) : LFld V b l :=
  ⟨Joins.cell_of_block h 0, Joins.cell_of_block h 1, Joins.cell_of_block h 2, Joins.cell_of_block h 3, Joins.cell_of_block h 4, Joins.cell_of_block h 5, Joins.cell_of_block h 6, Joins.cell_of_block h 7,
   Joins.cell_of_block h 8, Joins.cell_of_block h 9, Joins.cell_of_block h 10, Joins.cell_of_block h 11⟩

section
variable {ops : Array Oper} {rest : List Oper} {op : Oper} {a : Act} {w : World} {Q : Exit → Act → World → Prop}
/-- Laws, loaded and stored as a whole. -/
theorem ldl (hw : Region.wanted op (yielded ops a.tmps) = true) (x : Operand) (ho : op.op = .load 28 x)
    (b : Nat) (l : Lg) (hx : a.eval x = .pointer (some ⟨b, 0, none⟩)) (hP : w.heap[b]? = some (lo l))
    (c : wpList Try.prog ops Q rest (a.put op.dst (.agg (lc l))) w) : wpList Try.prog ops Q (op :: rest) a w :=
  Lk.wanted hw fun _ hK => wp_load_row 28 x ho b hx 28 (lc l) (0, 0) _ hP Try.underlying28 rfl info_l (hK _ _ c)
theorem stl (hgd : op.guard = none) (x y : Operand) (ho : op.op = .store 28 x y) (hd : op.dst = none)
    (g : Nat) (q p : Lg) (hx : a.eval x = .pointer (some ⟨g, 0, none⟩)) (hy : a.eval y = .agg (lc p)) (hP : w.heap[g]? = some (lo q))
    (h : ∀ w', w'.heap[g]? = some (lo p) → Off g w w' → wpList Try.prog ops Q rest a w') : wpList Try.prog ops Q (op :: rest) a w := by
  refine wpList_plain hgd fun _ hK => wp_store_row 28 x y ho g (lc p) hx hy 28 (lc q) hP info_l rfl (lc_one p) (hK _ _ ?_)
  rw [hd]
  exact h _ (setRow_heap w g (lc q) (lc p) 28 (0, 0) hP) (Off.row w g _)
end

/-- A closure that asks whether a table rises; and one that asks whether a number lies between two. -/
abbrev fr (g : Nat) : Value := .func (.func 44) #[] #[.pointer (some ⟨g, 0, none⟩)]
abbrev fi (x y z : Nat) : Value := .func (.func 47) #[] #[.pointer (some ⟨x, 0, none⟩), .pointer (some ⟨y, 0, none⟩), .pointer (some ⟨z, 0, none⟩)]
abbrev nob (n : Int) : Obj := .cells #[.int .i64 n] 3 (0, 0)

theorem mk_r (t : Tv) (W : World) : Calls Try.prog 43 #[.agg (tc t)] W fun r w' => r = .returned (fr W.heap.size) ∧ w' = W.alloc (tob t) := by
  go_enter Try.func43, Try.ntmps43
  go_wp2
  go_ret
  exact ⟨rfl, rfl⟩

theorem mk_i (x y z : Int) (W : World) : Calls Try.prog 46 #[.int .i64 x, .int .i64 y, .int .i64 z] W fun r w' => r = .returned (fi W.heap.size (W.heap.size + 1) (W.heap.size + 1 + 1)) ∧ w' = ((W.alloc (nob x)).alloc (nob y)).alloc (nob z) := by
  go_enter Try.func46, Try.ntmps46
  go_wp2
  go_ret
  exact ⟨rfl, rfl⟩

theorem ask_r (g : Nat) (t : Tv) (W : World) (hg : W.heap[g]? = some (tob t)) (hT : TabIn W t.A t.B t.xs t.ys) : Calls Try.prog 44 #[.pointer (some ⟨g, 0, none⟩)] W fun r w' => r = .returned (.bool (Tb.rsB t.xs t.ys)) ∧ Below W.heap.size W w' := by
  have c0 := Joins.cell_of_block hg 0
  have c1 := Joins.cell_of_block hg 1
  simp only [List.getElem?_toArray, List.getElem?_cons_zero, List.getElem?_cons_succ] at c0 c1
  have HT := Lib.hid hT
  clear hT hg
  go_enter Try.func44, Try.ntmps44
  go_wp2_with (first | (go_at_call 45; (with_reducible refine (rising_c _ _ _ _ _ _ _ HT.out).mono ?_); rintro r W' ⟨rfl, hb⟩) | fail)
  go_ret
  exact ⟨rfl, hb⟩

theorem ask_i (x y z : Nat) (lo n hi : Int) (W : World) (h0 : W.cell? ⟨x, 0, none⟩ = some (.int .i64 lo)) (h1 : W.cell? ⟨y, 0, none⟩ = some (.int .i64 n)) (h2 : W.cell? ⟨z, 0, none⟩ = some (.int .i64 hi)) : Calls Try.prog 47 #[.pointer (some ⟨x, 0, none⟩), .pointer (some ⟨y, 0, none⟩), .pointer (some ⟨z, 0, none⟩)] W fun r w' => r = .returned (.bool (Em.within n lo hi)) ∧ Below W.heap.size W w' := by
  by_cases h : lo ≤ n
  · have E : Hid (decide (n ≤ hi) = Em.within n lo hi) := by show _ = _; simp [Em.within, h]
    go_enter Try.func47, Try.ntmps47
    go_wp2
    go_ret
    exact ⟨ret_bool E.out, Below.refl _ _⟩
  · have E : Hid (false = Em.within n lo hi) := by show _ = _; simp [Em.within, h]
    go_enter Try.func47, Try.ntmps47
    go_wp2
    go_ret
    exact ⟨ret_bool E.out, Below.refl _ _⟩

end Hw
end Go.Proofs.Ytjhgcbkdghcgmaa
