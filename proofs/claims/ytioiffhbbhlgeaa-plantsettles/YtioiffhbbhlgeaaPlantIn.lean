/- A plant, a drive: as values, as objects; loaded and stored as a whole, out of the midst of a row, in a region that draws; compared; the closures that a Step makes. -/
import Derived.Test.YtioiffhbbhlgeaaSynthIn
import Derived.Test.YtioiffhbbhlgeaaPlantMath
import Derived.Test.YtioiffhbbhlgeaaObjKit
import Derived.Test.YtioiffhbbhlgeaaFixCalls
import Derived.Laws.StructEq
import Derived.ChangeKeysEq
import Derived.Deep.MidRow
namespace Go.Proofs.Ytioiffhbbhlgeaa
namespace Plw
open Go.RowKit TabC Lk Ew

abbrev pc (p : Pl.Pt) : Array Value := #[.int .i64 p.n1, .int .i64 p.n2, .int .i64 p.heat, .int .i64 p.valve, .bool p.lit]
abbrev po (p : Pl.Pt) : Obj := .cells (pc p) 28 (0, 0)
abbrev dc (d : Pl.Dr) : Array Value := #[.int .i64 d.fuel, .bool d.opn, .bool d.ign, .bool d.start, .int .i64 d.g0, .int .i64 d.g1, .int .i64 d.g2, .bool d.blow]
abbrev dro (d : Pl.Dr) : Obj := .cells (dc d) 31 (0, 0)
abbrev xo (n : Int) : Obj := .cells #[.int .i64 n] 3 (0, 0)
abbrev qo (e : Eg) : Obj := .cells (ec e) 57 (0, 0)
/-- What goes on, by its box; a method of an engine as a value. -/
abbrev gf (b : Nat) : Value := .func (.func 56) #[] #[.pointer (some ⟨b, 0, none⟩)]
abbrev mf2 (e : Eg) : Value := .func (.func 36) #[.agg (ec e)] #[]
abbrev mfh (e : Eg) : Value := .func (.func 38) #[.agg (ec e)] #[]
theorem info_p : (Try.prog.info? 28).map (·.size) = some 5 := by kernel_rfl
theorem info_d : (Try.prog.info? 31).map (·.size) = some 8 := by kernel_rfl
theorem info_q : (Try.prog.info? 57).map (·.size) = some 16 := by kernel_rfl
theorem ret_i {a b : Int} (h : a = b) : Ending.returned (.int .i64 a) = .returned (.int .i64 b) := by rw [h]
theorem ret_p {p q : Pl.Pt} (h : p = q) : Ending.returned (.agg (pc p)) = .returned (.agg (pc q)) := by rw [h]

theorem eqin_p (p : Pl.Pt) (w : World) : (Op.equalIn 10000 28 (.agg (pc p)) (.agg (pc p))).run Try.prog w = .ok true w := by
  simp [go_sem, pc]
theorem eq_p (p : Pl.Pt) (w : World) : (binOp .eql 28 (.agg (pc p)) (.agg (pc p))).run Try.prog w = .ok (.bool true) w := by
  rw [run_eql_struct, eqin_p]
  rfl
theorem guard_p (s t : Operand) (xs ys : Array Value) (w : World) : (eqGuard .eql 28 s t (.agg xs) (.agg ys)).run Try.prog w = .ok () w := by
  simp [go_sem]
/-- In a region that draws: two plants that are the same. -/
theorem rEq {p : Pl.Pt} {o : Oper} {u : Act} {w : World} (s t : Operand) (ho : o.op = .binOp .eql 28 s t 28) (hs : u.eval s = .agg (pc p)) (ht : u.eval t = .agg (pc p)) :
    (execOp u.eval o).run Try.prog w = .ok (.value (.bool true)) w := by
  unfold execOp
  simp only [ho, hs, ht, Sem.run_bind, guard_p, eq_p, Sem.run_pure, Result.andThen_ok]
section
variable {ops : Array Oper} {rest : List Oper} {op : Oper} {a : Act} {w : World} {Q : Exit → Act → World → Prop}
theorem ldp (hw : Region.wanted op (yielded ops a.tmps) = true) (x : Operand) (ho : op.op = .load 28 x) (b : Nat) (p : Pl.Pt) (hx : a.eval x = .pointer (some ⟨b, 0, none⟩)) (hP : w.heap[b]? = some (po p))
    (c : wpList Try.prog ops Q rest (a.put op.dst (.agg (pc p))) w) : wpList Try.prog ops Q (op :: rest) a w :=
  Lk.wanted hw fun _ hK => wp_load_row 28 x ho b hx 28 (pc p) (0, 0) _ hP Try.underlying28 rfl info_p (hK _ _ c)
theorem ldd (hw : Region.wanted op (yielded ops a.tmps) = true) (x : Operand) (ho : op.op = .load 31 x) (b : Nat) (d : Pl.Dr) (hx : a.eval x = .pointer (some ⟨b, 0, none⟩)) (hP : w.heap[b]? = some (dro d))
    (c : wpList Try.prog ops Q rest (a.put op.dst (.agg (dc d))) w) : wpList Try.prog ops Q (op :: rest) a w :=
  Lk.wanted hw fun _ hK => wp_load_row 31 x ho b hx 31 (dc d) (0, 0) _ hP Try.underlying31 rfl info_d (hK _ _ c)
theorem ldm (hw : Region.wanted op (yielded ops a.tmps) = true) (x : Operand) (ho : op.op = .load 31 x) (g off : Nat) (d : Pl.Dr) (hx : a.eval x = .pointer (some ⟨g, off, none⟩)) (hP : w.rangeAt g off (dc d).toList)
    (c : wpList Try.prog ops Q rest (a.put op.dst (.agg (dc d))) w) : wpList Try.prog ops Q (op :: rest) a w := by
  refine Lk.wanted hw fun _ hK => ?_
  unfold Oper.wp execOp
  simp only [ho, hx, Instr.loadAt, Instr.sureAddr, Sem.run_bind, Sem.run_pure, Result.andThen_ok, run_loadVar_mid w g off 31 (dc d).toList _ hP Try.underlying31 rfl info_d]
  exact hK _ _ c
theorem stp (hgd : op.guard = none) (x y : Operand) (ho : op.op = .store 28 x y) (hd : op.dst = none) (g : Nat) (q p : Pl.Pt) (hx : a.eval x = .pointer (some ⟨g, 0, none⟩)) (hy : a.eval y = .agg (pc p)) (hP : w.heap[g]? = some (po q))
    (c : ∀ w', w'.heap[g]? = some (po p) → Off g w w' → wpList Try.prog ops Q rest a w') : wpList Try.prog ops Q (op :: rest) a w := by
  refine wpList_plain hgd fun _ hK => wp_store_row 28 x y ho g (pc p) hx hy 28 (pc q) hP info_p rfl (by simp [Value.oneCell']) (hK _ _ ?_)
  rw [hd]
  exact c _ (setRow_heap w g (pc q) (pc p) 28 (0, 0) hP) (Off.row w g _)
theorem eqp (hw : Region.wanted op (yielded ops a.tmps) = true) (s t : Operand) (ho : op.op = .binOp .eql 28 s t 28) (p : Pl.Pt) (hs : a.eval s = .agg (pc p)) (ht : a.eval t = .agg (pc p))
    (c : wpList Try.prog ops Q rest (a.put op.dst (.bool true)) w) : wpList Try.prog ops Q (op :: rest) a w := by
  refine Lk.wanted hw fun _ hK => ?_
  unfold Oper.wp
  rw [rEq s t ho hs ht]
  exact hK _ _ c
end
section
variable {op : Oper} {a : Act} {w : World} {b : Nat}
/-- Loaded where a region draws its order. -/
theorem rE {e : Eg} (hP : w.heap[b]? = some (eo e)) (x : Operand) (ho : op.op = .load 26 x) (hx : a.eval x = .pointer (some ⟨b, 0, none⟩)) : (execOp a.eval op).run Try.prog w = .ok (.value (.agg (ec e))) w := by
  unfold execOp
  simp only [ho, hx, Instr.loadAt, Instr.sureAddr, Sem.run_bind, Sem.run_pure, Result.andThen_ok, run_loadVar_row w b 26 26 (ec e) (0, 0) _ hP Try.underlying26 rfl info_e]
theorem rQ {e : Eg} (hP : w.heap[b]? = some (qo e)) (x : Operand) (ho : op.op = .load 57 x) (hx : a.eval x = .pointer (some ⟨b, 0, none⟩)) : (execOp a.eval op).run Try.prog w = .ok (.value (.agg (ec e))) w := by
  unfold execOp
  simp only [ho, hx, Instr.loadAt, Instr.sureAddr, Sem.run_bind, Sem.run_pure, Result.andThen_ok, run_loadVar_row w b 57 57 (ec e) (0, 0) _ hP Try.underlying57 rfl info_q]
theorem rPl {p : Pl.Pt} (hP : w.heap[b]? = some (po p)) (x : Operand) (ho : op.op = .load 28 x) (hx : a.eval x = .pointer (some ⟨b, 0, none⟩)) : (execOp a.eval op).run Try.prog w = .ok (.value (.agg (pc p))) w := by
  unfold execOp
  simp only [ho, hx, Instr.loadAt, Instr.sureAddr, Sem.run_bind, Sem.run_pure, Result.andThen_ok, run_loadVar_row w b 28 28 (pc p) (0, 0) _ hP Try.underlying28 rfl info_p]
theorem rDr {d : Pl.Dr} (hP : w.heap[b]? = some (dro d)) (x : Operand) (ho : op.op = .load 31 x) (hx : a.eval x = .pointer (some ⟨b, 0, none⟩)) : (execOp a.eval op).run Try.prog w = .ok (.value (.agg (dc d))) w := by
  unfold execOp
  simp only [ho, hx, Instr.loadAt, Instr.sureAddr, Sem.run_bind, Sem.run_pure, Result.andThen_ok, run_loadVar_row w b 31 31 (dc d) (0, 0) _ hP Try.underlying31 rfl info_d]
end
/-- A result that is a plant, in a cell. -/
theorem res_p {fn : Func} {t : Tmp} (h : fn.results = #[.cell t 28]) (tmps : Array Value) (w : World) (g : Nat) (p : Pl.Pt) (hp : tmps.getD t undef = .pointer (some ⟨g, 0, none⟩)) (hP : w.heap[g]? = some (po p)) :
    (results fn tmps).run Try.prog w = .ok (.agg (pc p)) w := by
  have hp' : tmps[t]?.getD undef = .pointer (some ⟨g, 0, none⟩) := by simpa using hp
  simp [results, h, hp', asAddr, run_loadVar_row (P := Try.prog) w g 28 28 (pc p) (0, 0) _ hP Try.underlying28 rfl info_p]

/-! ### the numbers -/
theorem clamp_num (n : Int) : Fx.clamp n 0 1048576 = Pl.num n := by
  unfold Fx.clamp Fx.bound Fx.sat Pl.num
  (repeat' split) <;> omega
theorem clamp_gs {D : Int} (h0 : 0 ≤ D) (h1 : D ≤ 1048576) (g : Int) : Fx.clamp g (-D) D = Pl.gs D g := by
  unfold Fx.clamp Fx.bound Fx.sat Pl.gs
  (repeat' split) <;> omega
end Plw
end Go.Proofs.Ytioiffhbbhlgeaa
