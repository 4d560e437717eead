/- The small functions of package synth: its methods, at, back, within. -/
import Derived.Test.YtjjconkelbjodaaSynthIn
import Derived.Test.YtjjconkelbjodaaTabBack2
namespace Go.Proofs.Ytjjconkelbjodaa
namespace Ew
open Go.RowKit TabC Lk

abbrev tob (t : Tv) : Obj := .cells (tc t) 27 (0, 0)
theorem info_t : (Try.prog.info? 27).map (·.size) = some 2 := by kernel_rfl
/-- A result that is a table, in a cell. -/
theorem res_t {fn : Func} {p : Tmp} (h : fn.results = #[.cell p 27]) (tmps : Array Value) (w : World) (g : Nat) (t : Tv) (hp : tmps.getD p undef = .pointer (some ⟨g, 0, none⟩)) (hP : w.heap[g]? = some (tob t)) :
    (results fn tmps).run Try.prog w = .ok (.agg (tc t)) w := by
  have hp' : tmps[p]?.getD undef = .pointer (some ⟨g, 0, none⟩) := by simpa using hp
  simp [results, h, hp', asAddr, run_loadVar_row (P := Try.prog) w g 27 27 (tc t) (0, 0) _ hP Try.underlying27 rfl info_t]

end Ew
end Go.Proofs.Ytjjconkelbjodaa
