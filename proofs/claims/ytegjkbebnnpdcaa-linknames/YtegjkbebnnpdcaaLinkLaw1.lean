/- The walk of LinkNames. -/
import Derived.Test.YtegjkbebnnpdcaaLinkAwake
namespace Go.Proofs.Ytegjkbebnnpdcaa
namespace Lw
open Go.RowKit
theorem LinkNames_walk (w : World) : Calls Try.prog 3 #[] w fun e w' => e = .returned (.bool true) ∧ Below w.heap.size w w' := by
  go_enter Try.func3, Try.ntmps3
  go_wp2_with (go_at_call 9; refine (awake_c _).mono ?_; rintro e w1 ⟨rfl, hb⟩)
  go_ret
  exact ⟨rfl, by assumption⟩
end Lw
end Go.Proofs.Ytegjkbebnnpdcaa
