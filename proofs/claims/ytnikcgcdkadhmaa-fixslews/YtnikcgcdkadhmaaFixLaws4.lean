/- The walk of FixSlews. -/
import Derived.Test.YtnikcgcdkadhmaaFixAwake
import Derived.OpenShut
namespace Go.Proofs.Ytnikcgcdkadhmaa
namespace FixC
open Go.RowKit

set_option maxHeartbeats 4000000 in
theorem FixSlews_walk (x y n : Int) (w0 : (Lit.int .i32 x).wf = true) (w1 : (Lit.int .i32 y).wf = true) (w2 : (Lit.int .u16 n).wf = true) (w : World) :
    Calls Try.prog 8 #[.int .i32 x, .int .i32 y, .int .u16 n] w fun e w' => e = .returned (.bool true) ∧ Grown w w' := by
  have hx := bounds_i32 w0
  have hy := bounds_i32 w1
  have hn := bounds_u16 w2
  clear w0 w1 w2
  go_enter Try.func8, Try.ntmps8
  go_wp2_with (go_at_call 10; refine (awake_c _).mono ?_; rintro e w1 ⟨rfl, hg, hb⟩; clear hb)
  go_loop [11, 12] (fun t i => ∃ (k : Nat) (a : Int), k ≤ 100 ∧ -2147483648 ≤ a ∧ a ≤ 2147483647 ∧ i = .int .i64 k ∧ t = .int .i64 a) (fun _ i => 100 - (intOf i).toNat)
  case atStart => exact ⟨0, x, by omega, hx.1, hx.2, rfl, rfl⟩
  case round =>
    obtain ⟨k, a, hk, ha1, ha2, rfl, rfl⟩ := hrel
    by_cases hlt : k < 100
    · have s1 := Fx.slew_up (n := n + 1) ⟨ha1, ha2⟩ hy (by omega)
      have s2 := Fx.slew_down (n := n + 1) ⟨ha1, ha2⟩ hy (by omega)
      have s3 := Fx.slew_there (n := n + 1) ⟨ha1, ha2⟩ hy (by omega)
      rcases (by omega : n + 1 < y - a ∨ n + 1 < a - y ∨ (y - a ≤ n + 1 ∧ a - y ≤ n + 1)) with h1 | h1 | h1
      · have hs := s1 h1
        clear s1 s2 s3
        go_wp2_with (go_at_call 23; refine (slew_c _ _ _ _).mono ?_; rintro e w' ⟨rfl, rfl⟩)
        go_round
        case rel => exact ⟨k + 1, a + (n + 1), by omega, by omega, by omega, by go_num, rfl⟩
        case measure => simp [intOf]; omega
      · have hs := s2 h1
        clear s1 s2 s3
        go_wp2_with (go_at_call 23; refine (slew_c _ _ _ _).mono ?_; rintro e w' ⟨rfl, rfl⟩)
        go_round
        case rel => exact ⟨k + 1, a - (n + 1), by omega, by omega, by omega, by go_num, rfl⟩
        case measure => simp [intOf]; omega
      · have hs := s3 h1.1 h1.2
        clear s1 s2 s3
        go_wp2_with (go_at_call 23; refine (slew_c _ _ _ _).mono ?_; rintro e w' ⟨rfl, rfl⟩)
        all_goals
          go_round
          case rel => exact ⟨k + 1, y, by omega, by omega, by omega, by go_num, rfl⟩
          case measure => simp [intOf]; omega
    · have t1 : Fx.slew x y 0 = x := Fx.slew_still hx hy (by omega)
      have t2 : Fx.slew x y (-5) = x := Fx.slew_still hx hy (by omega)
      have t3 : Fx.slew x x (n + 1) = x := Fx.slew_there hx hx (by omega) (by omega) (by omega)
      go_wp2_with (go_at_call 23; refine (slew_c _ _ _ _).mono ?_; rintro e w' ⟨rfl, rfl⟩)
      go_ret
      exact ⟨rfl, hg⟩

end FixC
end Go.Proofs.Ytnikcgcdkadhmaa
