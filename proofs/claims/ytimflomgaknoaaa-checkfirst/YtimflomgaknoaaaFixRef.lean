/- Contracts of the document's own answers for layer 1: they come to the same plain functions. -/
import Derived.Test.YtimflomgaknoaaaFixCalls
namespace Go.Proofs.Ytimflomgaknoaaa
namespace FixC
open Go.RowKit

theorem rsat_c (x : Int) (w : World) :
    Calls Try.prog 18 #[.int .i64 x] w fun e w' => e = .returned (.int .i64 (Fx.sat x)) ∧ w = w' := by
  go_enter Try.func18, Try.ntmps18
  go_wp2
  all_goals
    go_ret
    exact ⟨ret_int (by unfold Fx.sat; (repeat' split) <;> omega), rfl⟩

theorem rsub_c (a b : Int) (w : World) :
    Calls Try.prog 22 #[.int .i64 a, .int .i64 b] w fun e w' => e = .returned (.int .i64 (Fx.sub a b)) ∧ w = w' := by
  have h1 := Fx.sat_ge a
  have h2 := Fx.sat_le a
  have h3 := Fx.sat_ge b
  have h4 := Fx.sat_le b
  go_enter Try.func22, Try.ntmps22
  go_wp2_with (go_at_call 18; refine (rsat_c _ _).mono ?_; rintro e w' ⟨rfl, rfl⟩)
  go_ret
  exact ⟨ret_int rfl, rfl⟩

end FixC
end Go.Proofs.Ytimflomgaknoaaa
