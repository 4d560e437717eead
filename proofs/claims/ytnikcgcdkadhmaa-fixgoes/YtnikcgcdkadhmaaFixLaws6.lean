/- The walk of FixGoes. -/
import Derived.Test.YtnikcgcdkadhmaaFixAwake
import Derived.Test.YtnikcgcdkadhmaaFixRef
namespace Go.Proofs.Ytnikcgcdkadhmaa
namespace FixC
open Go.RowKit

set_option maxHeartbeats 1000000 in
theorem FixGoes_walk (x lo hi : Int) (A : Option Addr) (l : List Int) (c : Nat) (hl : l.length ≤ 9223372036854775807) (w : World) (hA : Lk.IntsAt w .i64 A l) :
    Calls Try.prog 5 #[.int .i64 x, .int .i64 lo, .int .i64 hi, .slice A l.length c] w fun e w' => e = .returned (.bool true) ∧ Below w.heap.size w w' := by
  have HA0 := Lib.hid hA
  clear hA
  by_cases h50 : 50 < l.length
  · go_enter Try.func5, Try.ntmps5
    go_wp2_with (go_at_call 10; refine (awake_c _).mono ?_; rintro e w1 ⟨rfl, hg, hb⟩; clear hg)
    go_ret
    exact ⟨rfl, by assumption⟩
  · go_enter Try.func5, Try.ntmps5
    go_wp2_with fail
    refine (awake_c _).mono ?_
    rintro e w1 ⟨rfl, hg, hb⟩
    clear hg
    have HA := Lib.hid (HA0.out.below hb)
    clear HA0
    go_wp2_with fail
    go_loop [10, 11] (fun t i => ∃ k : Nat, k ≤ l.length ∧ i = .int .i64 k ∧ t = .int .i64 (Fx.sum (l.take k))) (fun _ i => l.length - (intOf i).toNat)
    case atStart => exact ⟨0, Nat.zero_le _, rfl, rfl⟩
    case round =>
      obtain ⟨k, hk, rfl, rfl⟩ := hrel
      by_cases hlt : k < l.length
      · obtain ⟨b, off, rfl, hc⟩ := HA.out k hlt
        have HS := Lib.hid (Fx.sum_take l k hlt)
        generalize l.getD k 0 = v at hc HS
        go_wp2_with (go_at_call 16; refine (radd_c _ _ _).mono ?_; rintro e w' ⟨rfl, rfl⟩)
        go_round
        case rel => exact ⟨k + 1, by omega, by go_num, by rw [HS.out]⟩
        case measure => simp [intOf]; omega
      · rw [List.take_of_length_le (by omega)]
        go_wp2_with (first
          | (go_at_call 21; refine (clamp_c _ _ _ _).mono ?_; rintro e w' ⟨rfl, rfl⟩)
          | (go_at_call 22; refine (rclamp_c _ _ _ _).mono ?_; rintro e w' ⟨rfl, rfl⟩)
          | (go_at_call 23; refine (slew_c _ _ _ _).mono ?_; rintro e w' ⟨rfl, rfl⟩)
          | (go_at_call 24; refine (rslew_c _ _ _ _).mono ?_; rintro e w' ⟨rfl, rfl⟩)
          | (go_at_call 25; refine (sum_c _ _ l _ hl HA.out).mono ?_; rintro e w' ⟨rfl, rfl⟩))
        go_ret
        exact ⟨rfl, hb⟩

end FixC
end Go.Proofs.Ytnikcgcdkadhmaa
