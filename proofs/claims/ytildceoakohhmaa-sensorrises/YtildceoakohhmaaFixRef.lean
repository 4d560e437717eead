/- Contracts of the document's own answers for layer 1: they come to the same plain functions. -/
import Derived.Test.YtildceoakohhmaaFixCalls
namespace Go.Proofs.Ytildceoakohhmaa
namespace FixC
open Go.RowKit

theorem rsat_c (x : Int) (w : World) :
    Calls Try.prog 29 #[.int .i64 x] w fun e w' => e = .returned (.int .i64 (Fx.sat x)) ∧ w = w' := by
  go_enter Try.func29, Try.ntmps29
  go_wp2
  all_goals
    go_ret
    exact ⟨ret_int (by unfold Fx.sat; (repeat' split) <;> omega), rfl⟩

theorem rclamp_c (x lo hi : Int) (w : World) :
    Calls Try.prog 22 #[.int .i64 x, .int .i64 lo, .int .i64 hi] w fun e w' => e = .returned (.int .i64 (Fx.clamp x lo hi)) ∧ w = w' := by
  unfold Fx.clamp Fx.bound
  by_cases h1 : Fx.sat x < Fx.sat lo <;> by_cases h2 : Fx.sat hi < Fx.sat lo <;> by_cases h3 : Fx.sat hi < Fx.sat x
  all_goals try omega
  all_goals
    go_enter Try.func22, Try.ntmps22
    go_wp2_with (go_at_call 29; refine (rsat_c _ _).mono ?_; rintro e w' ⟨rfl, rfl⟩)
    go_ret
    exact ⟨ret_int (by (repeat' split) <;> omega), rfl⟩

theorem rmul_c (a b s : Int) (w : World) :
    Calls Try.prog 26 #[.int .i64 a, .int .i64 b, .int .i64 s] w fun e w' => e = .returned (.int .i64 (Fx.mul a b s)) ∧ w = w' := by
  have hp := Fx.prod_bd a b
  unfold Fx.mul
  go_enter Try.func26, Try.ntmps26
  go_wp2_with (go_at_call 29; refine (rsat_c _ _).mono ?_; rintro e w' ⟨rfl, rfl⟩)
  generalize hP : Fx.sat a * Fx.sat b = P at *
  have HP := Lib.hid hP
  clear hP
  go_loop [7, 8] (fun p i => ∃ k : Nat, k ≤ 62 ∧ (k = 0 ∨ (k : Int) ≤ s) ∧ i = .int .i64 k ∧ p = .int .i64 (P / 2 ^ k)) (fun _ i => 62 - (intOf i).toNat)
  case atStart => exact ⟨0, by omega, by omega, rfl, by simp⟩
  case round =>
    obtain ⟨k, hk, hks, rfl, rfl⟩ := hrel
    have hb := Fx.pow_bd P k _ hp.1 hp.2
    have HN := Lib.hid (Fx.pow_half P k)
    by_cases h1 : (k : Int) < s
    · by_cases h2 : k < 62
      · clear hp hks
        generalize P / 2 ^ k = p at *
        by_cases h3 : p.tmod 2 = 0
        · have t3 : (p.tmod 2 != 0) = false := by simp [h3]
          have HE := Lib.hid (Fx.half_even p h3)
          clear h3
          go_wp2_with fail
          go_round
          case rel => exact ⟨k + 1, by omega, by omega, by go_num, by rw [HN.out, ← HE.out]⟩
          case measure => simp [intOf]; omega
        · have t3 : (p.tmod 2 != 0) = true := by simp [h3]
          have HE := Lib.hid (Fx.half_odd p h3)
          clear h3
          go_wp2_with fail
          go_round
          case rel => exact ⟨k + 1, by omega, by omega, by go_num, by rw [HN.out, ← HE.out]⟩
          case measure => simp [intOf]; omega
      · have HB : Hid ((Fx.bound s 0 62).toNat = k) := by show _ = _; unfold Fx.bound; (repeat' split) <;> omega
        go_wp2_with (go_at_call 29; refine (rsat_c _ _).mono ?_; rintro e w' ⟨rfl, rfl⟩)
        go_ret
        exact ⟨ret_int (by rw [HB.out, HP.out]), rfl⟩
    · have HB : Hid ((Fx.bound s 0 62).toNat = k) := by show _ = _; unfold Fx.bound; (repeat' split) <;> omega
      go_wp2_with (go_at_call 29; refine (rsat_c _ _).mono ?_; rintro e w' ⟨rfl, rfl⟩)
      go_ret
      exact ⟨ret_int (by rw [HB.out, HP.out]), rfl⟩

end FixC
end Go.Proofs.Ytildceoakohhmaa
