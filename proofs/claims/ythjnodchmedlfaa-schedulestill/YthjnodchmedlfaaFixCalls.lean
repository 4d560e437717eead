/- Contracts of package fix's functions, over this seat's program: each answers what FixMath says, and leaves the world alone. -/
import Derived.Test.YthjnodchmedlfaaChecked
import Derived.Test.YthjnodchmedlfaaFixMath
import Derived.Test.YthjnodchmedlfaaLawKit
import Derived.WalkKit
import Derived.IntWalk
import Derived.WalkSpells
import Derived.Lib.Hide
namespace Go.Proofs.Ythjnodchmedlfaa
namespace FixC
open Go.RowKit

theorem ret_int {k : IntKind} {a b : Int} (h : a = b) : Ending.returned (.int k a) = .returned (.int k b) := by rw [h]
theorem ret_int2 {k l : IntKind} {a b c d : Int} (h : a = b) (g : c = d) : Ending.returned (.tuple #[.int k a, .int l c]) = .returned (.tuple #[.int k b, .int l d]) := by rw [h, g]

theorem bound_c (x lo hi : Int) (w : World) :
    Calls Try.prog 47 #[.int .i64 x, .int .i64 lo, .int .i64 hi] w fun e w' => e = .returned (.int .i64 (Fx.bound x lo hi)) ∧ w = w' := by
  go_enter Try.func47, Try.ntmps47
  go_wp2
  all_goals
    go_ret
    exact ⟨ret_int (by unfold Fx.bound; (repeat' split) <;> omega), rfl⟩

theorem sat_c (x : Int) (w : World) :
    Calls Try.prog 48 #[.int .i64 x] w fun e w' => e = .returned (.int .i64 (Fx.sat x)) ∧ w = w' := by
  go_enter Try.func48, Try.ntmps48
  go_wp2_with fail
  refine (bound_c _ _ _ _).mono ?_
  rintro e w' ⟨rfl, rfl⟩
  go_wp2_with fail
  go_ret
  exact ⟨ret_int (Fx.bound_sat x), rfl⟩

theorem add_c (a b : Int) (w : World) :
    Calls Try.prog 52 #[.int .i64 a, .int .i64 b] w fun e w' => e = .returned (.int .i64 (Fx.add a b)) ∧ w = w' := by
  have h1 := Fx.sat_ge a
  have h2 := Fx.sat_le a
  have h3 := Fx.sat_ge b
  have h4 := Fx.sat_le b
  go_enter Try.func52, Try.ntmps52
  go_wp2_with (go_at_call 48; refine (sat_c _ _).mono ?_; rintro e w' ⟨rfl, rfl⟩)
  go_ret
  exact ⟨ret_int rfl, rfl⟩

theorem sub_c (a b : Int) (w : World) :
    Calls Try.prog 53 #[.int .i64 a, .int .i64 b] w fun e w' => e = .returned (.int .i64 (Fx.sub a b)) ∧ w = w' := by
  have h1 := Fx.sat_ge a
  have h2 := Fx.sat_le a
  have h3 := Fx.sat_ge b
  have h4 := Fx.sat_le b
  go_enter Try.func53, Try.ntmps53
  go_wp2_with (go_at_call 48; refine (sat_c _ _).mono ?_; rintro e w' ⟨rfl, rfl⟩)
  go_ret
  exact ⟨ret_int rfl, rfl⟩

theorem clamp_c (x lo hi : Int) (w : World) :
    Calls Try.prog 30 #[.int .i64 x, .int .i64 lo, .int .i64 hi] w fun e w' => e = .returned (.int .i64 (Fx.clamp x lo hi)) ∧ w = w' := by
  go_enter Try.func30, Try.ntmps30
  go_wp2_with (first | (go_at_call 48; refine (sat_c _ _).mono ?_; rintro e w' ⟨rfl, rfl⟩) | (go_at_call 47; refine (bound_c _ _ _ _).mono ?_; rintro e w' ⟨rfl, rfl⟩))
  go_ret
  exact ⟨ret_int rfl, rfl⟩

theorem slew_c (x y n : Int) (w : World) :
    Calls Try.prog 34 #[.int .i64 x, .int .i64 y, .int .i64 n] w fun e w' => e = .returned (.int .i64 (Fx.slew x y n)) ∧ w = w' := by
  have h1 := Fx.sat_ge x
  have h2 := Fx.sat_le x
  have h3 := Fx.sat_ge y
  have h4 := Fx.sat_le y
  have hs0 := Fx.bound_ge n 0 2147483647
  have hs1 := Fx.bound_le n 0 2147483647 (by omega)
  go_enter Try.func34, Try.ntmps34
  go_wp2_with (first | (go_at_call 48; refine (sat_c _ _).mono ?_; rintro e w' ⟨rfl, rfl⟩) | (go_at_call 47; refine (bound_c _ _ _ _).mono ?_; rintro e w' ⟨rfl, rfl⟩) | (go_at_call 52; refine (add_c _ _ _).mono ?_; rintro e w' ⟨rfl, rfl⟩) | (go_at_call 53; refine (sub_c _ _ _).mono ?_; rintro e w' ⟨rfl, rfl⟩))
  all_goals
    go_ret
    exact ⟨ret_int (by unfold Fx.slew; (repeat' split) <;> first | rfl | omega), rfl⟩

end FixC
end Go.Proofs.Ythjnodchmedlfaa
