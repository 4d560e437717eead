/- 'awake' of layer 1's statements answers true; it lays one new block. -/
import Derived.Test.YtnikcgcdkadhmaaFixCalls
import Derived.Below
namespace Go.Proofs.Ytnikcgcdkadhmaa
namespace FixC
open Go.RowKit

theorem awake_c (w : World) :
    Calls Try.prog 10 #[] w fun e w' => e = .returned (.bool true) ∧ Grown w w' ∧ Below w.heap.size w w' := by
  have d1 : Fx.divq (-7) 2 = -3 := by decide +kernel
  have d2 : Fx.dive 2 = 0 := by decide +kernel
  have d3 : Fx.dive 0 = 10 := by decide +kernel
  have d4 : Fx.divq 1 0 = 0 := by decide +kernel
  have d5 : Fx.sat 1099511627776 = 2147483647 := by decide +kernel
  have d6 : Fx.add 2147483647 1 = 2147483647 := by decide +kernel
  have d7 : Fx.sub (-2147483648) 1 = -2147483648 := by decide +kernel
  have d8 : Fx.mul 3 (-1) 1 = -2 := by decide +kernel
  have d9 : Fx.clamp 5 7 3 = 7 := by decide +kernel
  have d10 : Fx.slew 10 3 4 = 6 := by decide +kernel
  have hs := sum_c (some ⟨w.heap.size, 0, none⟩) 3 [1, 2, 3] (w.alloc (.cells #[.int .i64 1, .int .i64 2, .int .i64 3] 3)) (by simp) (by
    intro k hk
    refine ⟨w.heap.size, 0, rfl, ?_⟩
    have : k = 0 ∨ k = 1 ∨ k = 2 := by simp at hk; omega
    rcases this with rfl | rfl | rfl <;> simp)
  have d11 : Fx.sum [1, 2, 3] = 6 := by decide +kernel
  rw [d11] at hs
  have HS := Lib.hid hs
  clear hs d11
  go_enter Try.func10, Try.ntmps10
  go_wp2_with (first
    | (go_at_call 11; refine (div_c _ _ _).mono ?_; rintro e w' ⟨rfl, rfl⟩)
    | (go_at_call 13; refine (sat_c _ _).mono ?_; rintro e w' ⟨rfl, rfl⟩)
    | (go_at_call 15; refine (add_c _ _ _).mono ?_; rintro e w' ⟨rfl, rfl⟩)
    | (go_at_call 17; refine (sub_c _ _ _).mono ?_; rintro e w' ⟨rfl, rfl⟩)
    | (go_at_call 19; refine (mul_c _ _ _ _).mono ?_; rintro e w' ⟨rfl, rfl⟩)
    | (go_at_call 21; refine (clamp_c _ _ _ _).mono ?_; rintro e w' ⟨rfl, rfl⟩)
    | (go_at_call 23; refine (slew_c _ _ _ _).mono ?_; rintro e w' ⟨rfl, rfl⟩)
    | (go_at_call 25; refine HS.out.mono ?_; rintro e w' ⟨rfl, rfl⟩))
  go_ret
  exact ⟨rfl, (Grown.refl _).alloc _ _, (Below.refl _ _).alloc (Nat.le_refl _) _⟩

end FixC
end Go.Proofs.Ytnikcgcdkadhmaa
