/- Contracts of the document's own answers for layer 1: they come to the same plain functions. -/
import Derived.Test.YtioiffhbbhlgeaaFixCalls
namespace Go.Proofs.Ytioiffhbbhlgeaa
namespace FixC
open Go.RowKit

theorem rsat_c (x : Int) (w : World) :
    Calls Try.prog 62 #[.int .i64 x] w fun e w' => e = .returned (.int .i64 (Fx.sat x)) ∧ w = w' := by
  go_enter Try.func62, Try.ntmps62
  go_wp2
  all_goals
    go_ret
    exact ⟨ret_int (by unfold Fx.sat; (repeat' split) <;> omega), rfl⟩

theorem radd_c (a b : Int) (w : World) :
    Calls Try.prog 63 #[.int .i64 a, .int .i64 b] w fun e w' => e = .returned (.int .i64 (Fx.add a b)) ∧ w = w' := by
  have h1 := Fx.sat_ge a
  have h2 := Fx.sat_le a
  have h3 := Fx.sat_ge b
  have h4 := Fx.sat_le b
  go_enter Try.func63, Try.ntmps63
  go_wp2_with (go_at_call 62; refine (rsat_c _ _).mono ?_; rintro e w' ⟨rfl, rfl⟩)
  go_ret
  exact ⟨ret_int rfl, rfl⟩

theorem rsub_c (a b : Int) (w : World) :
    Calls Try.prog 64 #[.int .i64 a, .int .i64 b] w fun e w' => e = .returned (.int .i64 (Fx.sub a b)) ∧ w = w' := by
  have h1 := Fx.sat_ge a
  have h2 := Fx.sat_le a
  have h3 := Fx.sat_ge b
  have h4 := Fx.sat_le b
  go_enter Try.func64, Try.ntmps64
  go_wp2_with (go_at_call 62; refine (rsat_c _ _).mono ?_; rintro e w' ⟨rfl, rfl⟩)
  go_ret
  exact ⟨ret_int rfl, rfl⟩

theorem rslew_c (x y n : Int) (w : World) :
    Calls Try.prog 39 #[.int .i64 x, .int .i64 y, .int .i64 n] w fun e w' => e = .returned (.int .i64 (Fx.slew x y n)) ∧ w = w' := by
  have h1 := Fx.sat_ge x
  have h2 := Fx.sat_le x
  have h3 := Fx.sat_ge y
  have h4 := Fx.sat_le y
  have h5 := Fx.sat_ge n
  have h6 := Fx.sat_le n
  have E := Lib.hid (Fx.slew_ref x y n)
  go_enter Try.func39, Try.ntmps39
  go_wp2_with (first | (go_at_call 62; refine (rsat_c _ _).mono ?_; rintro e w' ⟨rfl, rfl⟩) | (go_at_call 63; refine (radd_c _ _ _).mono ?_; rintro e w' ⟨rfl, rfl⟩) | (go_at_call 64; refine (rsub_c _ _ _).mono ?_; rintro e w' ⟨rfl, rfl⟩))
  all_goals
    go_ret
    exact ⟨ret_int (by rw [E.out]; clear E; (repeat' split) <;> first | rfl | omega), rfl⟩

end FixC
end Go.Proofs.Ytioiffhbbhlgeaa
