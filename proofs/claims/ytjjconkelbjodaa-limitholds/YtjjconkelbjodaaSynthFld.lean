/- An engine's cells, in its block; slices of integers that a call makes. -/
import Derived.Test.YtjjconkelbjodaaSynthRising
import Derived.Deep.RegionHeld3
namespace Go.Proofs.Ytjjconkelbjodaa
namespace Ew
open Go.RowKit TabC Lk

/-- A row of integers of the call's own. -/
abbrev ro (l : List Int) : Obj := .cells (l.map (fun v => Value.int .i64 v)).toArray 3 (0, 0)
theorem ints_row {W : World} {n : Nat} {l : List Int} (h : W.heap[n]? = some (ro l)) : Lk.IntsAt W .i64 (some ⟨n, 0, none⟩) l := by
  intro i hi
  refine ⟨n, 0, rfl, ?_⟩
  have := Joins.cell_of_block h i
  rw [show (0 : Nat) + i = i from by omega, this]
  simp [hi]

theorem fw_v {t : Tv} {b : Bool} (h : fewB t.xs t.ys = b) (W : World) : Calls Try.prog 22 #[.agg #[.slice t.A t.xs.length t.ca, .slice t.B t.ys.length t.cb]] W fun r w' => r = .returned (.bool b) ∧ Below W.heap.size W w' := h ▸ few_c t.A t.B t.ca t.cb t.xs t.ys W

end Ew
end Go.Proofs.Ytjjconkelbjodaa
