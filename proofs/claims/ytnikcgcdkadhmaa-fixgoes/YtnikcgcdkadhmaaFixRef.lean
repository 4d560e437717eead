/- Contracts of the document's own answers for layer 1: they come to the same plain functions. -/
import Derived.Test.YtnikcgcdkadhmaaFixCalls
namespace Go.Proofs.Ytnikcgcdkadhmaa
namespace FixC
open Go.RowKit

theorem rsat_c (x : Int) (w : World) :
    Calls Try.prog 14 #[.int .i64 x] w fun e w' => e = .returned (.int .i64 (Fx.sat x)) ∧ w = w' := by
  go_enter Try.func14, Try.ntmps14
  go_wp2
  all_goals
    go_ret
    exact ⟨ret_int (by unfold Fx.sat; (repeat' split) <;> omega), rfl⟩

theorem radd_c (a b : Int) (w : World) :
    Calls Try.prog 16 #[.int .i64 a, .int .i64 b] w fun e w' => e = .returned (.int .i64 (Fx.add a b)) ∧ w = w' := by
  have h1 := Fx.sat_ge a
  have h2 := Fx.sat_le a
  have h3 := Fx.sat_ge b
  have h4 := Fx.sat_le b
  go_enter Try.func16, Try.ntmps16
  go_wp2_with (go_at_call 14; refine (rsat_c _ _).mono ?_; rintro e w' ⟨rfl, rfl⟩)
  go_ret
  exact ⟨ret_int rfl, rfl⟩

theorem rsub_c (a b : Int) (w : World) :
    Calls Try.prog 18 #[.int .i64 a, .int .i64 b] w fun e w' => e = .returned (.int .i64 (Fx.sub a b)) ∧ w = w' := by
  have h1 := Fx.sat_ge a
  have h2 := Fx.sat_le a
  have h3 := Fx.sat_ge b
  have h4 := Fx.sat_le b
  go_enter Try.func18, Try.ntmps18
  go_wp2_with (go_at_call 14; refine (rsat_c _ _).mono ?_; rintro e w' ⟨rfl, rfl⟩)
  go_ret
  exact ⟨ret_int rfl, rfl⟩

theorem rdiv_c (a b : Int) (w : World) :
    Calls Try.prog 12 #[.int .i64 a, .int .i64 b] w fun e w' => e = .returned (.tuple #[.int .i64 (Fx.divq a b), .int .i64 (Fx.dive b)]) ∧ w = w' := by
  have h1 := Fx.sat_ge a
  have h2 := Fx.sat_le a
  have h3 := Fx.sat_ge b
  have h4 := Fx.sat_le b
  have h5 := Fx.tdiv_bd (Fx.sat a) (Fx.sat b) (by omega) (by omega)
  have hz := Fx.sat_zero b
  by_cases h : b = 0
  · have hb : (b == 0) = true := by simp [h]
    have e1 : Fx.divq a b = 0 := by simp [Fx.divq, hz.2 h]
    have e2 : Fx.dive b = 10 := by simp [Fx.dive, hz.2 h]
    rw [e1, e2]
    clear h5 e1 e2 h hz
    go_enter Try.func12, Try.ntmps12
    go_wp2_with (go_at_call 14; refine (rsat_c _ _).mono ?_; rintro e w' ⟨rfl, rfl⟩)
    go_ret2
    exact ⟨rfl, rfl⟩
  · have hb : (b == 0) = false := by simp [h]
    have h' : ¬ Fx.sat b = 0 := fun e => h (hz.1 e)
    have e1 : Fx.divq a b = Fx.sat ((Fx.sat a).tdiv (Fx.sat b)) := by simp [Fx.divq, h']
    have e2 : Fx.dive b = 0 := by simp [Fx.dive, h']
    rw [e1, e2]
    clear e1 e2 hz h
    go_enter Try.func12, Try.ntmps12
    go_wp2_with (go_at_call 14; refine (rsat_c _ _).mono ?_; rintro e w' ⟨rfl, rfl⟩)
    go_ret2
    exact ⟨rfl, rfl⟩

theorem rclamp_c (x lo hi : Int) (w : World) :
    Calls Try.prog 22 #[.int .i64 x, .int .i64 lo, .int .i64 hi] w fun e w' => e = .returned (.int .i64 (Fx.clamp x lo hi)) ∧ w = w' := by
  unfold Fx.clamp Fx.bound
  by_cases h1 : Fx.sat x < Fx.sat lo <;> by_cases h2 : Fx.sat hi < Fx.sat lo <;> by_cases h3 : Fx.sat hi < Fx.sat x
  all_goals try omega
  all_goals
    go_enter Try.func22, Try.ntmps22
    go_wp2_with (go_at_call 14; refine (rsat_c _ _).mono ?_; rintro e w' ⟨rfl, rfl⟩)
    go_ret
    exact ⟨ret_int (by (repeat' split) <;> omega), rfl⟩

theorem rslew_c (x y n : Int) (w : World) :
    Calls Try.prog 24 #[.int .i64 x, .int .i64 y, .int .i64 n] w fun e w' => e = .returned (.int .i64 (Fx.slew x y n)) ∧ w = w' := by
  have h1 := Fx.sat_ge x
  have h2 := Fx.sat_le x
  have h3 := Fx.sat_ge y
  have h4 := Fx.sat_le y
  have h5 := Fx.sat_ge n
  have h6 := Fx.sat_le n
  have E := Lib.hid (Fx.slew_ref x y n)
  go_enter Try.func24, Try.ntmps24
  go_wp2_with (first | (go_at_call 14; refine (rsat_c _ _).mono ?_; rintro e w' ⟨rfl, rfl⟩) | (go_at_call 16; refine (radd_c _ _ _).mono ?_; rintro e w' ⟨rfl, rfl⟩) | (go_at_call 18; refine (rsub_c _ _ _).mono ?_; rintro e w' ⟨rfl, rfl⟩))
  all_goals
    go_ret
    exact ⟨ret_int (by rw [E.out]; clear E; (repeat' split) <;> first | rfl | omega), rfl⟩

theorem rmul_c (a b s : Int) (w : World) :
    Calls Try.prog 20 #[.int .i64 a, .int .i64 b, .int .i64 s] w fun e w' => e = .returned (.int .i64 (Fx.mul a b s)) ∧ w = w' := by
  have hp := Fx.prod_bd a b
  unfold Fx.mul
  go_enter Try.func20, Try.ntmps20
  go_wp2_with (go_at_call 14; refine (rsat_c _ _).mono ?_; rintro e w' ⟨rfl, rfl⟩)
  generalize hP : Fx.sat a * Fx.sat b = P at *
  have HP := Lib.hid hP
  clear hP
  go_loop [7, 8] (fun p i => ∃ k : Nat, k ≤ 62 ∧ (k = 0 ∨ (k : Int) ≤ s) ∧ i = .int .i64 k ∧ p = .int .i64 (P / 2 ^ k)) (fun _ i => 62 - (intOf i).toNat)
  case atStart => exact ⟨0, by omega, by omega, rfl, by simp⟩
  case round =>
    obtain ⟨k, hk, hks, rfl, rfl⟩ := hrel
    have hb := Fx.pow_bd P k _ hp.1 hp.2
    have HN := Lib.hid (Fx.pow_half P k)
    by_cases h1 : (k : Int) < s
    · by_cases h2 : k < 62
      · clear hp hks
        generalize P / 2 ^ k = p at *
        by_cases h3 : p.tmod 2 = 0
        · have t3 : (p.tmod 2 != 0) = false := by simp [h3]
          have HE := Lib.hid (Fx.half_even p h3)
          clear h3
          go_wp2_with fail
          go_round
          case rel => exact ⟨k + 1, by omega, by omega, by go_num, by rw [HN.out, ← HE.out]⟩
          case measure => simp [intOf]; omega
        · have t3 : (p.tmod 2 != 0) = true := by simp [h3]
          have HE := Lib.hid (Fx.half_odd p h3)
          clear h3
          go_wp2_with fail
          go_round
          case rel => exact ⟨k + 1, by omega, by omega, by go_num, by rw [HN.out, ← HE.out]⟩
          case measure => simp [intOf]; omega
      · have HB : Hid ((Fx.bound s 0 62).toNat = k) := by show _ = _; unfold Fx.bound; (repeat' split) <;> omega
        go_wp2_with (go_at_call 14; refine (rsat_c _ _).mono ?_; rintro e w' ⟨rfl, rfl⟩)
        go_ret
        exact ⟨ret_int (by rw [HB.out, HP.out]), rfl⟩
    · have HB : Hid ((Fx.bound s 0 62).toNat = k) := by show _ = _; unfold Fx.bound; (repeat' split) <;> omega
      go_wp2_with (go_at_call 14; refine (rsat_c _ _).mono ?_; rintro e w' ⟨rfl, rfl⟩)
      go_ret
      exact ⟨ret_int (by rw [HB.out, HP.out]), rfl⟩

end FixC
end Go.Proofs.Ytnikcgcdkadhmaa
