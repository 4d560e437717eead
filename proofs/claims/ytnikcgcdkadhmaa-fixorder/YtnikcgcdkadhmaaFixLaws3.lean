/- The walk of FixOrder. -/
import Derived.Test.YtnikcgcdkadhmaaFixAwake
import Derived.OpenShut
namespace Go.Proofs.Ytnikcgcdkadhmaa
namespace FixC
open Go.RowKit

set_option maxHeartbeats 4000000 in
theorem FixOrder_walk (x y z : Int) (w0 : (Lit.int .i32 x).wf = true) (w1 : (Lit.int .i32 y).wf = true) (w2 : (Lit.int .i32 z).wf = true) (w : World) :
    Calls Try.prog 7 #[.int .i32 x, .int .i32 y, .int .i32 z] w fun e w' => e = .returned (.bool true) ∧ Grown w w' := by
  have hx := bounds_i32 w0
  have hy := bounds_i32 w1
  have hz := bounds_i32 w2
  clear w0 w1 w2
  have c1 : (Fx.add x y == Fx.add y x) = true := by rw [Fx.add_comm]; simp
  have c2 : (Fx.mul x y 0 == Fx.mul y x 0) = true := by rw [Fx.mul_comm]; simp
  have c3 : (Fx.mul x 65536 16 == x) = true := by rw [Fx.mul_16 hx]; simp
  have c4 : x - y ≤ 2147483647 → -2147483648 ≤ x - y → (Fx.add (Fx.sub x y) y == x) = true := fun h1 h2 => by rw [Fx.sub_add hx hy h2 h1]; simp
  have c5 : x ≤ y → Fx.add x z ≤ Fx.add y z := fun h => Fx.add_mono z h
  have c6 : x ≤ y → 0 ≤ z → Fx.mul x z 3 ≤ Fx.mul y z 3 := fun h => Fx.mul_mono3 h
  by_cases h1 : y < x <;> by_cases h2 : 2147483647 < x - y <;> by_cases h3 : x - y < -2147483648 <;> by_cases h4 : z < 0
  all_goals try omega
  all_goals
    try have d4 := c4 (by omega) (by omega)
    try have d5 := c5 (by omega)
    try have d6 := c6 (by omega) (by omega)
    clear c4 c5 c6
    go_enter Try.func7, Try.ntmps7
    go_wp2_with (first
      | (go_at_call 10; refine (awake_c _).mono ?_; rintro e w1 ⟨rfl, hg, hb⟩; clear hb)
      | (go_at_call 15; refine (add_c _ _ _).mono ?_; rintro e w' ⟨rfl, rfl⟩)
      | (go_at_call 17; refine (sub_c _ _ _).mono ?_; rintro e w' ⟨rfl, rfl⟩)
      | (go_at_call 19; refine (mul_c _ _ _ _).mono ?_; rintro e w' ⟨rfl, rfl⟩))
    go_ret
    exact ⟨rfl, by assumption⟩

end FixC
end Go.Proofs.Ytnikcgcdkadhmaa
