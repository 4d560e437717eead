/- Contracts of the document's own answers for layer 1: they come to the same plain functions. -/
import Derived.Test.YtjjconkelbjodaaFixCalls
namespace Go.Proofs.Ytjjconkelbjodaa
namespace FixC
open Go.RowKit

theorem rsat_c (x : Int) (w : World) :
    Calls Try.prog 21 #[.int .i64 x] w fun e w' => e = .returned (.int .i64 (Fx.sat x)) ∧ w = w' := by
  go_enter Try.func21, Try.ntmps21
  go_wp2
  all_goals
    go_ret
    exact ⟨ret_int (by unfold Fx.sat; (repeat' split) <;> omega), rfl⟩

end FixC
end Go.Proofs.Ytjjconkelbjodaa
