/- Contracts of package fix's functions, over this seat's program: each answers what FixMath says, and leaves the world alone. -/
import Derived.Test.YtioiffhbbhlgeaaChecked
import Derived.Test.YtioiffhbbhlgeaaFixMath
import Derived.Test.YtioiffhbbhlgeaaLawKit
import Derived.WalkKit
import Derived.IntWalk
import Derived.WalkSpells
import Derived.Lib.Hide
namespace Go.Proofs.Ytioiffhbbhlgeaa
namespace FixC
open Go.RowKit

theorem ret_int {k : IntKind} {a b : Int} (h : a = b) : Ending.returned (.int k a) = .returned (.int k b) := by rw [h]
theorem ret_int2 {k l : IntKind} {a b c d : Int} (h : a = b) (g : c = d) : Ending.returned (.tuple #[.int k a, .int l c]) = .returned (.tuple #[.int k b, .int l d]) := by rw [h, g]

theorem bound_c (x lo hi : Int) (w : World) :
    Calls Try.prog 59 #[.int .i64 x, .int .i64 lo, .int .i64 hi] w fun e w' => e = .returned (.int .i64 (Fx.bound x lo hi)) ∧ w = w' := by
  go_enter Try.func59, Try.ntmps59
  go_wp2
  all_goals
    go_ret
    exact ⟨ret_int (by unfold Fx.bound; (repeat' split) <;> omega), rfl⟩

theorem sat_c (x : Int) (w : World) :
    Calls Try.prog 58 #[.int .i64 x] w fun e w' => e = .returned (.int .i64 (Fx.sat x)) ∧ w = w' := by
  go_enter Try.func58, Try.ntmps58
  go_wp2_with fail
  refine (bound_c _ _ _ _).mono ?_
  rintro e w' ⟨rfl, rfl⟩
  go_wp2_with fail
  go_ret
  exact ⟨ret_int (Fx.bound_sat x), rfl⟩

theorem add_c (a b : Int) (w : World) :
    Calls Try.prog 60 #[.int .i64 a, .int .i64 b] w fun e w' => e = .returned (.int .i64 (Fx.add a b)) ∧ w = w' := by
  have h1 := Fx.sat_ge a
  have h2 := Fx.sat_le a
  have h3 := Fx.sat_ge b
  have h4 := Fx.sat_le b
  go_enter Try.func60, Try.ntmps60
  go_wp2_with (go_at_call 58; refine (sat_c _ _).mono ?_; rintro e w' ⟨rfl, rfl⟩)
  go_ret
  exact ⟨ret_int rfl, rfl⟩

theorem sub_c (a b : Int) (w : World) :
    Calls Try.prog 61 #[.int .i64 a, .int .i64 b] w fun e w' => e = .returned (.int .i64 (Fx.sub a b)) ∧ w = w' := by
  have h1 := Fx.sat_ge a
  have h2 := Fx.sat_le a
  have h3 := Fx.sat_ge b
  have h4 := Fx.sat_le b
  go_enter Try.func61, Try.ntmps61
  go_wp2_with (go_at_call 58; refine (sat_c _ _).mono ?_; rintro e w' ⟨rfl, rfl⟩)
  go_ret
  exact ⟨ret_int rfl, rfl⟩

theorem clamp_c (x lo hi : Int) (w : World) :
    Calls Try.prog 57 #[.int .i64 x, .int .i64 lo, .int .i64 hi] w fun e w' => e = .returned (.int .i64 (Fx.clamp x lo hi)) ∧ w = w' := by
  go_enter Try.func57, Try.ntmps57
  go_wp2_with (first | (go_at_call 58; refine (sat_c _ _).mono ?_; rintro e w' ⟨rfl, rfl⟩) | (go_at_call 59; refine (bound_c _ _ _ _).mono ?_; rintro e w' ⟨rfl, rfl⟩))
  go_ret
  exact ⟨ret_int rfl, rfl⟩

theorem slew_c (x y n : Int) (w : World) :
    Calls Try.prog 31 #[.int .i64 x, .int .i64 y, .int .i64 n] w fun e w' => e = .returned (.int .i64 (Fx.slew x y n)) ∧ w = w' := by
  have h1 := Fx.sat_ge x
  have h2 := Fx.sat_le x
  have h3 := Fx.sat_ge y
  have h4 := Fx.sat_le y
  have hs0 := Fx.bound_ge n 0 2147483647
  have hs1 := Fx.bound_le n 0 2147483647 (by omega)
  go_enter Try.func31, Try.ntmps31
  go_wp2_with (first | (go_at_call 58; refine (sat_c _ _).mono ?_; rintro e w' ⟨rfl, rfl⟩) | (go_at_call 59; refine (bound_c _ _ _ _).mono ?_; rintro e w' ⟨rfl, rfl⟩) | (go_at_call 60; refine (add_c _ _ _).mono ?_; rintro e w' ⟨rfl, rfl⟩) | (go_at_call 61; refine (sub_c _ _ _).mono ?_; rintro e w' ⟨rfl, rfl⟩))
  all_goals
    go_ret
    exact ⟨ret_int (by unfold Fx.slew; (repeat' split) <;> first | rfl | omega), rfl⟩

end FixC
end Go.Proofs.Ytioiffhbbhlgeaa
