/- Contracts of the document's own answers for layer 1: they come to the same plain functions. -/
import Derived.Test.YthjnodchmedlfaaFixCalls
namespace Go.Proofs.Ythjnodchmedlfaa
namespace FixC
open Go.RowKit

theorem rsat_c (x : Int) (w : World) :
    Calls Try.prog 51 #[.int .i64 x] w fun e w' => e = .returned (.int .i64 (Fx.sat x)) ∧ w = w' := by
  go_enter Try.func51, Try.ntmps51
  go_wp2
  all_goals
    go_ret
    exact ⟨ret_int (by unfold Fx.sat; (repeat' split) <;> omega), rfl⟩

theorem radd_c (a b : Int) (w : World) :
    Calls Try.prog 54 #[.int .i64 a, .int .i64 b] w fun e w' => e = .returned (.int .i64 (Fx.add a b)) ∧ w = w' := by
  have h1 := Fx.sat_ge a
  have h2 := Fx.sat_le a
  have h3 := Fx.sat_ge b
  have h4 := Fx.sat_le b
  go_enter Try.func54, Try.ntmps54
  go_wp2_with (go_at_call 51; refine (rsat_c _ _).mono ?_; rintro e w' ⟨rfl, rfl⟩)
  go_ret
  exact ⟨ret_int rfl, rfl⟩

theorem rsub_c (a b : Int) (w : World) :
    Calls Try.prog 55 #[.int .i64 a, .int .i64 b] w fun e w' => e = .returned (.int .i64 (Fx.sub a b)) ∧ w = w' := by
  have h1 := Fx.sat_ge a
  have h2 := Fx.sat_le a
  have h3 := Fx.sat_ge b
  have h4 := Fx.sat_le b
  go_enter Try.func55, Try.ntmps55
  go_wp2_with (go_at_call 51; refine (rsat_c _ _).mono ?_; rintro e w' ⟨rfl, rfl⟩)
  go_ret
  exact ⟨ret_int rfl, rfl⟩

theorem rclamp_c (x lo hi : Int) (w : World) :
    Calls Try.prog 33 #[.int .i64 x, .int .i64 lo, .int .i64 hi] w fun e w' => e = .returned (.int .i64 (Fx.clamp x lo hi)) ∧ w = w' := by
  unfold Fx.clamp Fx.bound
  by_cases h1 : Fx.sat x < Fx.sat lo <;> by_cases h2 : Fx.sat hi < Fx.sat lo <;> by_cases h3 : Fx.sat hi < Fx.sat x
  all_goals try omega
  all_goals
    go_enter Try.func33, Try.ntmps33
    go_wp2_with (go_at_call 51; refine (rsat_c _ _).mono ?_; rintro e w' ⟨rfl, rfl⟩)
    go_ret
    exact ⟨ret_int (by (repeat' split) <;> omega), rfl⟩

theorem rslew_c (x y n : Int) (w : World) :
    Calls Try.prog 35 #[.int .i64 x, .int .i64 y, .int .i64 n] w fun e w' => e = .returned (.int .i64 (Fx.slew x y n)) ∧ w = w' := by
  have h1 := Fx.sat_ge x
  have h2 := Fx.sat_le x
  have h3 := Fx.sat_ge y
  have h4 := Fx.sat_le y
  have h5 := Fx.sat_ge n
  have h6 := Fx.sat_le n
  have E := Lib.hid (Fx.slew_ref x y n)
  go_enter Try.func35, Try.ntmps35
  go_wp2_with (first | (go_at_call 51; refine (rsat_c _ _).mono ?_; rintro e w' ⟨rfl, rfl⟩) | (go_at_call 54; refine (radd_c _ _ _).mono ?_; rintro e w' ⟨rfl, rfl⟩) | (go_at_call 55; refine (rsub_c _ _ _).mono ?_; rintro e w' ⟨rfl, rfl⟩))
  all_goals
    go_ret
    exact ⟨ret_int (by rw [E.out]; clear E; (repeat' split) <;> first | rfl | omega), rfl⟩

end FixC
end Go.Proofs.Ythjnodchmedlfaa
