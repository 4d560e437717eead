/- A scale as a value; a value's count: sensor's method count; within; the document's count. -/
import Derived.Test.YtildceoakohhmaaSensorMath
import Derived.Test.YtildceoakohhmaaFixRef
import Derived.BigQuiet
import Derived.Deep.RegionHeld3
import Derived.Laws.Tables
import Derived.Deep.MidRow
import Derived.Handy
import Derived.Deep.WholeRow
import Derived.Lib.SmallJoins
namespace Go.Proofs.Ytildceoakohhmaa
namespace Sw
open Go.RowKit

/-- A scale's cells. -/
abbrev sc (g o l h : Int) : Array Value := #[.int .i64 g, .int .i64 o, .int .i64 l, .int .i64 h]

/-- A scale in a block: its fields' cells. -/
abbrev Fld (W : World) (b : Nat) (g o l h : Int) : Prop := W.cell? ⟨b, 0, none⟩ = some (.int .i64 g) ∧ W.cell? ⟨b, 1, none⟩ = some (.int .i64 o) ∧ W.cell? ⟨b, 2, none⟩ = some (.int .i64 l) ∧ W.cell? ⟨b, 3, none⟩ = some (.int .i64 h)
/-- A scale in a block. -/
def Scl (W : World) (b : Nat) (t : TypeId) (g o l h : Int) : Prop := W.heap[b]? = some (.cells (sc g o l h) t (0, 0))
theorem Scl.fld {W : World} {b : Nat} {t : TypeId} {g o l h : Int} (k : Scl W b t g o l h) : Fld W b g o l h :=
  ⟨Joins.cell_of_block k 0, Joins.cell_of_block k 1, Joins.cell_of_block k 2, Joins.cell_of_block k 3⟩
theorem Scl.new (w : World) (t : TypeId) (g o l h : Int) : Scl (w.alloc (.cells (sc g o l h) t)) w.heap.size t g o l h := heap_alloc_last w _
theorem fld_new (w : World) (t : TypeId) (g o l h : Int) : Fld (w.alloc (.cells (sc g o l h) t)) w.heap.size g o l h := (Scl.new w t g o l h).fld

theorem info_sc : (Try.prog.info? 24).map (·.size) = some 4 := by kernel_rfl
theorem wpList_wanted {P : Program} {ops : Array Oper} {Q : Exit → Act → World → Prop} {a : Act} {w : World} {rest : List Oper} {o : Oper} (hw : Region.wanted o (yielded ops a.tmps) = true)
    (h : ∀ K : Act → World → Prop, (∀ a w, wpList P ops Q rest a w → K a w) → o.wp P a w K Q) : wpList P ops Q (o :: rest) a w :=
  wpList_step fun K hK => by rw [if_pos hw]; exact h K hK
/-- A scale loaded as a whole. -/
theorem ld_sc {ops : Array Oper} {rest : List Oper} {op : Oper} {a : Act} {w : World} {Q : Exit → Act → World → Prop} (hw : Region.wanted op (yielded ops a.tmps) = true) (x : Operand) (ho : op.op = .load 24 x)
    (b : Nat) (g o l h : Int) (hx : a.eval x = .pointer (some ⟨b, 0, none⟩)) (hP : Scl w b 24 g o l h)
    (k : wpList Try.prog ops Q rest (a.put op.dst (.agg (sc g o l h))) w) : wpList Try.prog ops Q (op :: rest) a w :=
  wpList_wanted hw fun _ hK => wp_load_row 24 x ho b hx 24 (sc g o l h) (0, 0) _ hP Try.underlying24 rfl info_sc (hK _ _ k)
theorem Scl.lt {W : World} {b : Nat} {t : TypeId} {g o l h : Int} (k : Scl W b t g o l h) : b < W.heap.size := (Array.getElem?_eq_some_iff.1 k).1
theorem Scl.grow {W W' : World} {b : Nat} {t : TypeId} {g o l h : Int} (k : Scl W b t g o l h) (hb : Below W.heap.size W W') : Scl W' b t g o l h := (hb.block b k.lt).trans k
theorem Scl.drew {W : World} {b : Nat} {t : TypeId} {g o l h : Int} (k : Scl W b t g o l h) : Scl W.drew b t g o l h := k

theorem within_t {n lo hi : Int} (hb : lo ≤ n ∧ n ≤ hi) (w : World) : Calls Try.prog 18 #[.int .i64 n, .int .i64 lo, .int .i64 hi] w fun e w' => e = .returned (.bool true) ∧ w = w' := by
  obtain ⟨h1, h2⟩ := hb
  go_enter Try.func18, Try.ntmps18
  go_wp2_with fail
  go_ret
  exact ⟨rfl, rfl⟩
theorem within_f {n lo hi : Int} (hb : ¬ (lo ≤ n ∧ n ≤ hi)) (w : World) : Calls Try.prog 18 #[.int .i64 n, .int .i64 lo, .int .i64 hi] w fun e w' => e = .returned (.bool false) ∧ w = w' := by
  by_cases h1 : lo ≤ n
  · have h2 : decide (n ≤ hi) = false := decide_eq_false (by omega)
    clear hb
    go_enter Try.func18, Try.ntmps18
    go_wp2_with fail
    go_ret
    exact ⟨rfl, rfl⟩
  · clear hb
    go_enter Try.func18, Try.ntmps18
    go_wp2_with fail
    go_ret
    exact ⟨rfl, rfl⟩

set_option maxRecDepth 100000 in
theorem count_c (g o l h v : Int) (h1 : -1048576 ≤ v ∧ v ≤ 1048576) (h2 : 1 ≤ g ∧ g ≤ 1048576) (h3 : 0 ≤ o ∧ o ≤ 65535) (w : World) :
    Calls Try.prog 19 #[.agg (sc g o l h), .int .i64 v] w fun e w' => e = .returned (.int .i64 (Sn.cnt g o v)) ∧ Below w.heap.size w w' := by
  have M := Sn.mul_small h1.1 h1.2 h2.1 h2.2
  have EM : Hid (Sn.cnt g o v = o + Fx.mul v g 16) := by show _ = _; rw [M.1]; rfl
  obtain ⟨m, hm⟩ : ∃ m, Fx.mul v g 16 = m := ⟨_, rfl⟩
  rw [← M.1, hm] at M
  obtain ⟨_, m1, m2⟩ := M
  rw [hm] at EM
  have HM := Lib.hid hm
  clear h1 h2 hm
  obtain ⟨o1, o2⟩ := h3
  have HW : Hid (IntKind.i64.wrap (o + m) = o + m) := IntWalk.i64_in _ (by omega)
  have HB : Hid (Below w.heap.size w (w.alloc (.cells (sc g o l h) 35))) := (Below.refl _ _).alloc (Nat.le_refl _) _
  go_enter Try.func19, Try.ntmps19
  go_wp2_with fail
  have SS : Hid (Fld (w.alloc (.cells (sc g o l h) 35)) w.heap.size g o l h) := fld_new w 35 g o l h
  generalize World.alloc _ _ = W0 at *
  go_region_held3 (fun V => V.cell? ⟨w.heap.size, 0, none⟩ = some (.int .i64 g) ∧ V.cell? ⟨w.heap.size, 1, none⟩ = some (.int .i64 o)) (first | exact ⟨SS.out.1, SS.out.2.1⟩ | fail)
    (first | (go_at_call 25; refine (FixC.mul_c _ _ _ _).mono ?_; rintro e w' ⟨rfl, rfl⟩; rw [HM.out]) | fail)
  all_goals
    go_wp2_with fail
    go_ret
    exact ⟨FixC.ret_int (by rw [HW.out]; exact EM.out.symm), HB.out.drew⟩
end Sw
end Go.Proofs.Ytildceoakohhmaa
