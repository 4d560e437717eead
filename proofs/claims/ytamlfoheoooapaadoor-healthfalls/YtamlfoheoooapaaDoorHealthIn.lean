/- Health, which signals are lost, the counts: as values, as objects; loaded and stored as a whole; the library's own atomics with whatever number. -/
import Derived.Test.YtamlfoheoooapaaDoorCrcSync
import Derived.Test.YtamlfoheoooapaaDoorObjKit
import Derived.Test.YtamlfoheoooapaaDoorHealthMath
import Derived.LoopTactic
import Derived.Deep.OwnRows
namespace Go.Proofs.YtamlfoheoooapaaDoor
namespace Sy
open Go.RowKit

theorem iadd_n (b o : Nat) (d y : Int) (w : World) (h0 : -4611686018427387904 ≤ d + y) (h1 : d + y < 4611686018427387904) (hc : w.cell? ⟨b, o, none⟩ = some (.int .i64 d)) (hz : w.frozen? ⟨b, o, none⟩ = false) :
    Calls Tryd.prog 16 #[.pointer (some ⟨b, o, none⟩), .int .i64 y] w fun e w' => e = .returned (.int .i64 (d + y)) ∧ w' = w.setCell ⟨b, o, none⟩ (.int .i64 (d + y)) := by
  have hadd := run_call_add (P := Tryd.prog) Tryd.func20 (by kernel_rfl) (by kernel_rfl) (by kernel_rfl) .i64 (by kernel_rfl) (y := y) (s := d + y) hc hz (by simp [go_sem, IntKind.wrap, IntKind.bits, IntKind.signed]; omega)
  go_enter Tryd.func16, Tryd.ntmps16
  go_wp2
  go_ret
  exact ⟨rfl, rfl⟩

theorem istore (b o : Nat) (d y : Int) (w : World) (hc : w.cell? ⟨b, o, none⟩ = some (.int .i64 d)) (hz : w.frozen? ⟨b, o, none⟩ = false) :
    Calls Tryd.prog 15 #[.pointer (some ⟨b, o, none⟩), .int .i64 y] w fun e w' => e = .returned (.tuple #[]) ∧ w' = w.setCell ⟨b, o, none⟩ (.int .i64 y) := by
  have hst := run_call_store (P := Tryd.prog) Tryd.func19 (by kernel_rfl) (by kernel_rfl) (by kernel_rfl) (by kernel_rfl) (k := .i64) (y := y) hc hz
  go_enter Tryd.func15, Tryd.ntmps15
  go_wp2
  go_end0
  exact ⟨rfl, rfl⟩

end Sy
namespace Qw
open Go.RowKit Lk

abbrev g5 (f : Nat → Bool) : Array Value := #[.bool (f 0), .bool (f 1), .bool (f 2), .bool (f 3), .bool (f 4)]
abbrev go (f : Nat → Bool) : Obj := .cells (g5 f) 24 (0, 0)
abbrev hc (q s : Int) : Array Value := #[.int .i64 q, .int .i64 s]
abbrev ho (q s : Int) : Obj := .cells (hc q s) 23 (0, 0)
/-- The counts. -/
abbrev cc : Array Value := #[.int .i64 60, .int .i64 100, .int .i64 60, .int .i64 40, .int .i64 40]
theorem info_g : (Tryd.prog.info? 24).map (·.size) = some 5 := by kernel_rfl
theorem info_h : (Tryd.prog.info? 23).map (·.size) = some 2 := by kernel_rfl

theorem put_g {k : Nat} (hk : k < 5) (f : Nat → Bool) : (g5 f).setIfInBounds k (.bool true) = g5 (Hh.put f k) := by
  obtain rfl | rfl | rfl | rfl | rfl : k = 0 ∨ k = 1 ∨ k = 2 ∨ k = 3 ∨ k = 4 := by omega
  all_goals rfl
theorem cell_g {W : World} {b : Nat} {f : Nat → Bool} (h : W.heap[b]? = some (go f)) {k : Nat} (hk : k < 5) : W.cell? ⟨b, k, none⟩ = some (.bool (f k)) := by
  obtain rfl | rfl | rfl | rfl | rfl : k = 0 ∨ k = 1 ∨ k = 2 ∨ k = 3 ∨ k = 4 := by omega
  · exact Joins.cell_of_block h 0
  · exact Joins.cell_of_block h 1
  · exact Joins.cell_of_block h 2
  · exact Joins.cell_of_block h 3
  · exact Joins.cell_of_block h 4
/-- A signal is lost. -/
theorem put_b {W : World} {b : Nat} {k : Nat} {f : Nat → Bool} (h : W.heap[b]? = some (go f)) (hk : k < 5) : (W.setCell ⟨b, k, none⟩ (.bool true)).heap[b]? = some (go (Hh.put f k)) := by
  have := Joins.block_setCell h (i := k) (.bool true)
  rw [put_g hk] at this
  exact this

theorem run_ix (f : Nat → Bool) (k : Nat) (hk : k < 5) (w : World) : (Instr.index 24 (.agg (g5 f)) (.int .i64 k)).run Tryd.prog w = .ok (.bool (f k)) w := by
  obtain rfl | rfl | rfl | rfl | rfl : k = 0 ∨ k = 1 ∨ k = 2 ∨ k = 3 ∨ k = 4 := by omega
  all_goals kernel_rfl
section
variable {ops : Array Oper} {rest : List Oper} {op : Oper} {a : Act} {w : World} {Q : Exit → Act → World → Prop}
/-- Loaded as a whole; stored as a whole. -/
theorem ldg (hw : Region.wanted op (yielded ops a.tmps) = true) (x : Operand) (ho : op.op = .load 24 x) (b : Nat) (f : Nat → Bool) (hx : a.eval x = .pointer (some ⟨b, 0, none⟩)) (hP : w.heap[b]? = some (go f))
    (c : wpList Tryd.prog ops Q rest (a.put op.dst (.agg (g5 f))) w) : wpList Tryd.prog ops Q (op :: rest) a w :=
  Lk.wanted hw fun _ hK => wp_load_row 24 x ho b hx 24 (g5 f) (0, 0) _ hP Tryd.underlying24 rfl info_g (hK _ _ c)
theorem ixg (hw : Region.wanted op (yielded ops a.tmps) = true) (x y : Operand) (ho : op.op = .index 24 x y) (f : Nat → Bool) (hx : a.eval x = .agg (g5 f)) (k : Nat) (hk : k < 5) (hy : a.eval y = .int .i64 k) (v : Bool) (hv : f k = v)
    (c : wpList Tryd.prog ops Q rest (a.put op.dst (.bool v)) w) : wpList Tryd.prog ops Q (op :: rest) a w := by
  subst hv
  refine Lk.wanted hw fun _ hK => ?_
  unfold Oper.wp execOp
  simp only [ho, hx, hy, Sem.run_bind, run_ix f k hk, Sem.run_pure, Result.andThen_ok]
  exact hK _ _ c
theorem ldh (hw : Region.wanted op (yielded ops a.tmps) = true) (x : Operand) (ho : op.op = .load 23 x) (b : Nat) (q s : Int) (hx : a.eval x = .pointer (some ⟨b, 0, none⟩)) (hP : w.heap[b]? = some (Qw.ho q s))
    (c : wpList Tryd.prog ops Q rest (a.put op.dst (.agg (hc q s))) w) : wpList Tryd.prog ops Q (op :: rest) a w :=
  Lk.wanted hw fun _ hK => wp_load_row 23 x ho b hx 23 (hc q s) (0, 0) _ hP Tryd.underlying23 rfl info_h (hK _ _ c)
theorem stg (hgd : op.guard = none) (x y : Operand) (ho : op.op = .store 24 x y) (hd : op.dst = none) (g : Nat) (f h : Nat → Bool) (hx : a.eval x = .pointer (some ⟨g, 0, none⟩)) (hy : a.eval y = .agg (g5 h)) (hP : w.heap[g]? = some (go f))
    (c : ∀ w', w'.heap[g]? = some (go h) → Off g w w' → wpList Tryd.prog ops Q rest a w') : wpList Tryd.prog ops Q (op :: rest) a w := by
  refine wpList_plain hgd fun _ hK => wp_store_row 24 x y ho g (g5 h) hx hy 24 (g5 f) hP info_g rfl (by simp [Value.oneCell']) (hK _ _ ?_)
  rw [hd]
  exact c _ (setRow_heap w g (g5 f) (g5 h) 24 (0, 0) hP) (Off.row w g _)
theorem sth (hgd : op.guard = none) (x y : Operand) (ho : op.op = .store 23 x y) (hd : op.dst = none) (g : Nat) (q s p t : Int) (hx : a.eval x = .pointer (some ⟨g, 0, none⟩)) (hy : a.eval y = .agg (hc p t)) (hP : w.heap[g]? = some (Qw.ho q s))
    (c : ∀ w', w'.heap[g]? = some (Qw.ho p t) → Off g w w' → wpList Tryd.prog ops Q rest a w') : wpList Tryd.prog ops Q (op :: rest) a w := by
  refine wpList_plain hgd fun _ hK => wp_store_row 23 x y ho g (hc p t) hx hy 23 (hc q s) hP info_h rfl (by simp [Value.oneCell']) (hK _ _ ?_)
  rw [hd]
  exact c _ (setRow_heap w g (hc q s) (hc p t) 23 (0, 0) hP) (Off.row w g _)
end
/-- A result that is a health, in a cell. -/
theorem res_h {fn : Func} {p : Tmp} (h : fn.results = #[.cell p 23]) (tmps : Array Value) (w : World) (g : Nat) (q s : Int) (hp : tmps.getD p undef = .pointer (some ⟨g, 0, none⟩)) (hP : w.heap[g]? = some (ho q s)) :
    (results fn tmps).run Tryd.prog w = .ok (.agg (hc q s)) w := by
  have hp' : tmps[p]?.getD undef = .pointer (some ⟨g, 0, none⟩) := by simpa using hp
  simp [results, h, hp', asAddr, run_loadVar_row (P := Tryd.prog) w g 23 23 (hc q s) (0, 0) _ hP Tryd.underlying23 rfl info_h]
end Qw
end Go.Proofs.YtamlfoheoooapaaDoor
