/- Arrays of five, as functions of the index: their cells, and rows that are filled in a loop. -/
import Derived.Test.YtcbnfpnlkjkgaaaPickLaw1
import Derived.Deep.DeepCutAuto
namespace Go.Proofs.Ytcbnfpnlkjkgaaa
namespace Pw
open Go.RowKit Pc Lk FixC

abbrev i5 (f : Nat → Int) : Array Value := #[.int .i64 (f 0), .int .i64 (f 1), .int .i64 (f 2), .int .i64 (f 3), .int .i64 (f 4)]
abbrev g5 (f : Nat → Bool) : Array Value := #[.bool (f 0), .bool (f 1), .bool (f 2), .bool (f 3), .bool (f 4)]
abbrev io (f : Nat → Int) : Obj := .cells (i5 f) 26 (0, 0)
abbrev go (f : Nat → Bool) : Obj := .cells (g5 f) 27 (0, 0)
theorem info_i5 : (Try.prog.info? 26).map (·.size) = some 5 := by kernel_rfl
theorem info_g5 : (Try.prog.info? 27).map (·.size) = some 5 := by kernel_rfl
/-- What is filled up to k. -/
def upto (k : Nat) (f : Nat → Int) : Nat → Int := fun j => if j < k then f j else 0
theorem upto_five (f : Nat → Int) : i5 (upto 5 f) = i5 f := rfl
theorem upto_none (f : Nat → Int) : i5 (upto 0 f) = #[.int .i64 0, .int .i64 0, .int .i64 0, .int .i64 0, .int .i64 0] := rfl
theorem upto_set {k : Nat} (hk : k < 5) (f : Nat → Int) : (i5 (upto k f)).setIfInBounds k (.int .i64 (f k)) = i5 (upto (k + 1) f) := by
  obtain rfl | rfl | rfl | rfl | rfl : k = 0 ∨ k = 1 ∨ k = 2 ∨ k = 3 ∨ k = 4 := by omega
  all_goals rfl
theorem cell_i {W : World} {b : Nat} {f : Nat → Int} (h : W.heap[b]? = some (io f)) {k : Nat} (hk : k < 5) : W.cell? ⟨b, k, none⟩ = some (.int .i64 (f k)) := by
  obtain rfl | rfl | rfl | rfl | rfl : k = 0 ∨ k = 1 ∨ k = 2 ∨ k = 3 ∨ k = 4 := by omega
  · exact Joins.cell_of_block h 0
  · exact Joins.cell_of_block h 1
  · exact Joins.cell_of_block h 2
  · exact Joins.cell_of_block h 3
  · exact Joins.cell_of_block h 4
theorem cell_g {W : World} {b : Nat} {f : Nat → Bool} (h : W.heap[b]? = some (go f)) {k : Nat} (hk : k < 5) : W.cell? ⟨b, k, none⟩ = some (.bool (f k)) := by
  obtain rfl | rfl | rfl | rfl | rfl : k = 0 ∨ k = 1 ∨ k = 2 ∨ k = 3 ∨ k = 4 := by omega
  · exact Joins.cell_of_block h 0
  · exact Joins.cell_of_block h 1
  · exact Joins.cell_of_block h 2
  · exact Joins.cell_of_block h 3
  · exact Joins.cell_of_block h 4
theorem put_i {W : World} {b : Nat} {k : Nat} {f : Nat → Int} (h : W.heap[b]? = some (io (upto k f))) (hk : k < 5) : (W.setCell ⟨b, k, none⟩ (.int .i64 (f k))).heap[b]? = some (io (upto (k + 1) f)) := by
  have := Joins.block_setCell h (i := k) (.int .i64 (f k))
  rw [upto_set hk] at this
  exact this
end Pw
end Go.Proofs.Ytcbnfpnlkjkgaaa
