/- Cutoffs, pickups: as values, as objects; loaded and stored as a whole, out of the midst of a row; compared. -/
import Derived.Test.YtdfihcbmojggoaaChecked
import Derived.Test.YtdfihcbmojggoaaLawKit
import Derived.Test.YtdfihcbmojggoaaCutoffMath
import Derived.Test.YtdfihcbmojggoaaFixCalls
import Derived.Test.YtdfihcbmojggoaaObjKit
import Derived.WalkKit
import Derived.IntWalk
import Derived.WalkSpells
import Derived.Lib.Hide
import Derived.RegionTactic
import Derived.RegionCalls
import Derived.Handy
import Derived.Laws.StructEq
import Derived.ChangeKeysEq
import Derived.Deep.MidRow
import Derived.LoopTactic
import Derived.Deep.OwnRows
import Derived.OwnWalk
import Derived.Laws.MakeOwn
namespace Go.Proofs.Ytdfihcbmojggoaa
namespace Ow
open Go.RowKit Lk

/-- A cutoff; two pickups. -/
abbrev cc (q : Int) (s : Bool) : Array Value := #[.int .i64 q, .bool s]
abbrev co (q : Int) (s : Bool) : Obj := .cells (cc q s) 28 (0, 0)
abbrev pc (a b : Int) : Array Value := #[.int .i64 a, .int .i64 b]
abbrev po (a b : Int) : Obj := .cells (pc a b) 30 (0, 0)
abbrev io (n : Int) : Obj := .cells #[.int .i64 n] 3 (0, 0)
theorem ret_i {a b : Int} (h : a = b) : Ending.returned (.int .i64 a) = .returned (.int .i64 b) := by rw [h]
theorem info_c : (Try.prog.info? 28).map (·.size) = some 2 := by kernel_rfl
theorem info_p : (Try.prog.info? 30).map (·.size) = some 2 := by kernel_rfl
theorem eqin_c (q p : Int) (s r : Bool) (w : World) : (Op.equalIn 10000 28 (.agg (cc q s)) (.agg (cc p r))).run Try.prog w = .ok (decide (q = p) && s == r) w := by
  simp [go_sem, cc]
  by_cases h : q = p <;> cases s <;> cases r <;> simp [h]
theorem eq_c (q p : Int) (s r : Bool) (w : World) : (binOp .eql 28 (.agg (cc q s)) (.agg (cc p r))).run Try.prog w = .ok (.bool (decide (q = p) && s == r)) w := by
  rw [run_eql_struct, eqin_c]
  rfl

theorem run_fd (q : Int) (s : Bool) (w : World) : (Instr.field 28 (.agg (cc q s)) 1).run Try.prog w = .ok (.bool s) w := by kernel_rfl
section
variable {ops : Array Oper} {rest : List Oper} {op : Oper} {a : Act} {w : World} {Q : Exit → Act → World → Prop}
/-- Loaded as a whole, out of a block of its own, or out of the midst of a row; stored as a whole. -/
theorem ldc (hw : Region.wanted op (yielded ops a.tmps) = true) (x : Operand) (ho : op.op = .load 28 x) (b : Nat) (q : Int) (s : Bool) (hx : a.eval x = .pointer (some ⟨b, 0, none⟩)) (hP : w.heap[b]? = some (co q s))
    (c : wpList Try.prog ops Q rest (a.put op.dst (.agg (cc q s))) w) : wpList Try.prog ops Q (op :: rest) a w :=
  Lk.wanted hw fun _ hK => wp_load_row 28 x ho b hx 28 (cc q s) (0, 0) _ hP Try.underlying28 rfl info_c (hK _ _ c)
theorem ldm (hw : Region.wanted op (yielded ops a.tmps) = true) (x : Operand) (ho : op.op = .load 28 x) (g off : Nat) (q : Int) (s : Bool) (hx : a.eval x = .pointer (some ⟨g, off, none⟩)) (hP : w.rangeAt g off (cc q s).toList)
    (c : wpList Try.prog ops Q rest (a.put op.dst (.agg (cc q s))) w) : wpList Try.prog ops Q (op :: rest) a w := by
  refine Lk.wanted hw fun _ hK => ?_
  unfold Oper.wp execOp
  simp only [ho, hx, Instr.loadAt, Instr.sureAddr, Sem.run_bind, Sem.run_pure, Result.andThen_ok, run_loadVar_mid w g off 28 (cc q s).toList _ hP Try.underlying28 rfl info_c]
  exact hK _ _ c
theorem stc (hgd : op.guard = none) (x y : Operand) (ho : op.op = .store 28 x y) (hd : op.dst = none) (g : Nat) (q p : Int) (s r : Bool) (hx : a.eval x = .pointer (some ⟨g, 0, none⟩)) (hy : a.eval y = .agg (cc p r)) (hP : w.heap[g]? = some (co q s))
    (c : ∀ w', w'.heap[g]? = some (co p r) → Off g w w' → wpList Try.prog ops Q rest a w') : wpList Try.prog ops Q (op :: rest) a w := by
  refine wpList_plain hgd fun _ hK => wp_store_row 28 x y ho g (cc p r) hx hy 28 (cc q s) hP info_c rfl (by simp [Value.oneCell']) (hK _ _ ?_)
  rw [hd]
  exact c _ (setRow_heap w g (cc q s) (cc p r) 28 (0, 0) hP) (Off.row w g _)
theorem fld (hw : Region.wanted op (yielded ops a.tmps) = true) (x : Operand) (ho : op.op = .field 28 x 1) (q : Int) (s : Bool) (hx : a.eval x = .agg (cc q s))
    (c : wpList Try.prog ops Q rest (a.put op.dst (.bool s)) w) : wpList Try.prog ops Q (op :: rest) a w := by
  refine Lk.wanted hw fun _ hK => ?_
  unfold Oper.wp execOp
  simp only [ho, hx, Sem.run_bind, run_fd, Sem.run_pure, Result.andThen_ok]
  exact hK _ _ c
end
/-- The same where a region draws its order. -/
theorem rC {op : Oper} {u : Act} {w : World} {q : Int} {s : Bool} (x : Operand) (ho : op.op = .load 28 x) (g : Nat) (hx : u.eval x = .pointer (some ⟨g, 0, none⟩)) (hP : w.heap[g]? = some (co q s)) : (execOp u.eval op).run Try.prog w = .ok (.value (.agg (cc q s))) w := by
  unfold execOp
  simp only [ho, hx, Instr.loadAt, Instr.sureAddr, Sem.run_bind, Sem.run_pure, Result.andThen_ok, run_loadVar_row w g 28 28 (cc q s) (0, 0) _ hP Try.underlying28 rfl info_c]
theorem rP {op : Oper} {u : Act} {w : World} {a b : Int} (x : Operand) (ho : op.op = .load 30 x) (g off : Nat) (hx : u.eval x = .pointer (some ⟨g, off, none⟩)) (hP : w.rangeAt g off (pc a b).toList) : (execOp u.eval op).run Try.prog w = .ok (.value (.agg (pc a b))) w := by
  unfold execOp
  simp only [ho, hx, Instr.loadAt, Instr.sureAddr, Sem.run_bind, Sem.run_pure, Result.andThen_ok, run_loadVar_mid w g off 30 (pc a b).toList _ hP Try.underlying30 rfl info_p]
theorem rM {op : Oper} {u : Act} {w : World} {q : Int} {s : Bool} (x : Operand) (ho : op.op = .load 28 x) (g off : Nat) (hx : u.eval x = .pointer (some ⟨g, off, none⟩)) (hP : w.rangeAt g off (cc q s).toList) : (execOp u.eval op).run Try.prog w = .ok (.value (.agg (cc q s))) w := by
  unfold execOp
  simp only [ho, hx, Instr.loadAt, Instr.sureAddr, Sem.run_bind, Sem.run_pure, Result.andThen_ok, run_loadVar_mid w g off 28 (cc q s).toList _ hP Try.underlying28 rfl info_c]
theorem guard_n (s t : Operand) (xs ys : Array Value) (w : World) : (eqGuard .neq 28 s t (.agg xs) (.agg ys)).run Try.prog w = .ok () w := by
  simp [go_sem]
theorem ne_same (q : Int) (s : Bool) (w : World) : (binOp .neq 28 (.agg (cc q s)) (.agg (cc q s))).run Try.prog w = .ok (.bool false) w := by
  rw [run_neq_struct, eqin_c]
  cases s <;> simp [Result.andThen]
theorem rN {q : Int} {r : Bool} {o : Oper} {u : Act} {w : World} (s t : Operand) (ho : o.op = .binOp .neq 28 s t 28) (hs : u.eval s = .agg (cc q r)) (ht : u.eval t = .agg (cc q r)) :
    (execOp u.eval o).run Try.prog w = .ok (.value (.bool false)) w := by
  unfold execOp
  simp only [ho, hs, ht, Sem.run_bind, guard_n, ne_same, Sem.run_pure, Result.andThen_ok]
/-- A result that is a cutoff, in a cell. -/
theorem res_c {fn : Func} {p : Tmp} (h : fn.results = #[.cell p 28]) (tmps : Array Value) (w : World) (g : Nat) (q : Int) (s : Bool) (hp : tmps.getD p undef = .pointer (some ⟨g, 0, none⟩)) (hP : w.heap[g]? = some (co q s)) :
    (results fn tmps).run Try.prog w = .ok (.agg (cc q s)) w := by
  have hp' : tmps[p]?.getD undef = .pointer (some ⟨g, 0, none⟩) := by simpa using hp
  simp [results, h, hp', asAddr, run_loadVar_row (P := Try.prog) w g 28 28 (cc q s) (0, 0) _ hP Try.underlying28 rfl info_c]

/-- Blocks that are known, and all that lay below m as it was. -/
structure Hm (m : Nat) (w W : World) (L : List (Nat × Obj)) : Prop where
  has : ∀ e ∈ L, W.heap[e.1]? = some e.2
  old : Below m w W
  le : m ≤ W.heap.size
namespace Hm
variable {m : Nat} {w W W' : World} {L : List (Nat × Obj)}
theorem grow (h : Hm m w W L) (hb : Below W.heap.size W W') : Hm m w W' L :=
  ⟨fun e he => (hb.block e.1 (Array.getElem?_eq_some_iff.1 (h.has e he)).1).trans (h.has e he), h.old.trans (hb.mono h.le), Nat.le_trans h.le hb.size⟩
theorem add (h : Hm m w W L) (e : Nat × Obj) (he : W.heap[e.1]? = some e.2) : Hm m w W (e :: L) := ⟨fun x hx => (List.mem_cons.1 hx).elim (fun q => q ▸ he) (h.has x), h.old, h.le⟩
theorem made (h : Hm m w W L) (o : Obj) : Hm m w (W.alloc o) ((W.heap.size, o) :: L) := (h.grow ((Below.refl W.heap.size W).alloc (Nat.le_refl _) o)).add _ (heap_alloc_last W o)
theorem head {e : Nat × Obj} (h : Hm m w W (e :: L)) : W.heap[e.1]? = some e.2 := h.has e List.mem_cons_self
theorem turn {j : Nat} {o' : Obj} (h : Hm m w W L) (ho : Off j W W') (hP : W'.heap[j]? = some o') (L' : List (Nat × Obj)) (hL : ∀ e ∈ L', e ∈ L) (hj : ∀ e ∈ L', e.1 ≠ j) (h3 : m ≤ j) : Hm m w W' ((j, o') :: L') :=
  ⟨fun x hx => (List.mem_cons.1 hx).elim (fun q => q ▸ hP) (fun k => (ho.block x.1 (hj x k)).trans (h.has x (hL x k))), h.old.trans (ho.below h3), by rw [ho.size]; exact h.le⟩
end Hm

/-- Pickups, bools that came in. -/
def Prs (W : World) (A : Option Addr) (L : List (Int × Int)) : Prop := ∀ i p, L[i]? = some p → ∃ g o, A = some ⟨g, o, none⟩ ∧ g < W.heap.size ∧ W.rangeAt g (o + i * 2) (pc p.1 p.2).toList
theorem Prs.below {W W' : World} {A : Option Addr} {L : List (Int × Int)} (h : Prs W A L) (hb : Below W.heap.size W W') : Prs W' A L := fun i p hi => by
  obtain ⟨g, o, e, hg, hr⟩ := h i p hi
  exact ⟨g, o, e, Nat.lt_of_lt_of_le hg hb.size, fun j v hv => (hb.cell (p := ⟨g, o + i * 2 + j, none⟩) hg).trans (hr j v hv)⟩
def Bls (W : World) (A : Option Addr) (L : List Bool) : Prop := ∀ (i : Nat) (b : Bool), L[i]? = some b → ∃ g o, A = some ⟨g, o, none⟩ ∧ g < W.heap.size ∧ W.cell? ⟨g, o + i, none⟩ = some (.bool b)
theorem Bls.below {W W' : World} {A : Option Addr} {L : List Bool} (h : Bls W A L) (hb : Below W.heap.size W W') : Bls W' A L := fun i b hi => by
  obtain ⟨g, o, e, hg, hr⟩ := h i b hi
  exact ⟨g, o, e, Nat.lt_of_lt_of_le hg hb.size, (hb.cell (p := ⟨g, o + i, none⟩) hg).trans hr⟩
theorem bls_nil (W : World) : Bls W none [] := fun i b hi => by simp at hi
theorem two_cells {W : World} {g o : Nat} {u v : Value} (h : W.rangeAt g o [u, v]) : W.cell? ⟨g, o, none⟩ = some u ∧ W.cell? ⟨g, o + 1, none⟩ = some v :=
  ⟨h 0 _ rfl, h 1 _ rfl⟩
/-- Cutoffs as a Run answers them: n, in a block. -/
structure Ct (W : World) (g n : Nat) (c : Nat → Int × Bool) : Prop where
  lt : g < W.heap.size
  has : ∀ m, m < n → W.rangeAt g (m * 2) (cc (c m).1 (c m).2).toList
theorem Ct.grow {W W' : World} {g n : Nat} {c : Nat → Int × Bool} (h : Ct W g n c) (hb : Below W.heap.size W W') : Ct W' g n c :=
  ⟨Nat.lt_of_lt_of_le h.lt hb.size, fun m hm j v hv => (hb.cell (p := ⟨g, m * 2 + j, none⟩) h.lt).trans (h.has m hm j v hv)⟩
theorem Ct.off {W W' : World} {g n j : Nat} {c : Nat → Int × Bool} (h : Ct W g n c) (hb : Off j W W') (hj : g ≠ j) : Ct W' g n c :=
  ⟨by rw [hb.size]; exact h.lt, fun m hm k v hv => (hb.cell (p := ⟨g, m * 2 + k, none⟩) hj).trans (h.has m hm k v hv)⟩
theorem Ct.at_ {W : World} {g n : Nat} {c : Nat → Int × Bool} (h : Ct W g n c) {m : Nat} (hm : m < n) {q : Int} {s : Bool} (e : c m = (q, s)) : W.rangeAt g (m * 2) (cc q s).toList := by
  have := h.has m hm
  rw [e] at this
  exact this
end Ow
end Go.Proofs.Ytdfihcbmojggoaa
