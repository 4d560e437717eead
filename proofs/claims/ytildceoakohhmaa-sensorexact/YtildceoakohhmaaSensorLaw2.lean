/- The walks of SensorTells, SensorRises, SensorClamps. -/
import Derived.Test.YtildceoakohhmaaSensorLaw1
namespace Go.Proofs.Ytildceoakohhmaa
namespace Sw
open Go.RowKit

theorem check_v {g o l h r : Int} (e : Sn.err g o l h = r) (w : World) : Calls Try.prog 10 #[.agg (sc g o l h)] w fun e w' => e = .returned (.int .i64 r) ∧ Below w.heap.size w w' := by
  subst e
  exact check_c g o l h w
theorem rcheck_v {g o l h r : Int} (e : Sn.err g o l h = r) (w : World) : Calls Try.prog 11 #[.agg (sc g o l h)] w fun e w' => e = .returned (.int .i64 r) ∧ Below w.heap.size w w' := by
  subst e
  exact rcheck_c g o l h w
theorem rraw_v {g o l h v r : Int} (e : Sn.raw g o l h v = r) (w : World) : Calls Try.prog 13 #[.agg (sc g o l h), .int .i64 v] w fun e w' => e = .returned (.int .i64 r) ∧ Below w.heap.size w w' := by
  subst e
  exact rraw_c g o l h v w
theorem rvalue_v {g o l h n r : Int} (e : Sn.val g o l h n = r) (w : World) : Calls Try.prog 15 #[.agg (sc g o l h), .int .i64 n] w fun e w' => e = .returned (.int .i64 r) ∧ Below w.heap.size w w' := by
  subst e
  exact rvalue_c g o l h n w
theorem rstep_v {g o l h r : Int} (e : Sn.stp g o l h = r) (w : World) : Calls Try.prog 17 #[.agg (sc g o l h)] w fun e w' => e = .returned (.int .i64 r) ∧ Below w.heap.size w w' := by
  subst e
  exact rstep_c g o l h w

set_option maxRecDepth 100000 in
set_option maxHeartbeats 4000000 in
theorem SensorTells_walk (g o l h v n : Int) (w : World) : Calls Try.prog 4 #[.agg (sc g o l h), .int .i64 v, .int .i64 n] w fun e w' => e = .returned (.bool true) ∧ Below w.heap.size w w' := by
  have KP := Lib.hid (Kp.new w g o l h)
  obtain ⟨r1, e1⟩ : ∃ r, Sn.err g o l h = r := ⟨_, rfl⟩
  obtain ⟨r2, e2⟩ : ∃ r, Sn.raw g o l h v = r := ⟨_, rfl⟩
  obtain ⟨r3, e3⟩ : ∃ r, Sn.val g o l h n = r := ⟨_, rfl⟩
  obtain ⟨r4, e4⟩ : ∃ r, Sn.stp g o l h = r := ⟨_, rfl⟩
  have C1 := Lib.hid (check_v e1)
  have C2 := Lib.hid (raw_v e2)
  have C3 := Lib.hid (value_v e3)
  have C4 := Lib.hid (step_v e4)
  have D1 := Lib.hid (rcheck_v e1)
  have D2 := Lib.hid (rraw_v e2)
  have D3 := Lib.hid (rvalue_v e3)
  have D4 := Lib.hid (rstep_v e4)
  clear e1 e2 e3 e4
  go_enter Try.func4, Try.ntmps4
  go_wp2_with (first | (go_at_call 9; refine (awake_c _).mono ?_; rintro e W ⟨rfl, hb⟩; replace KP := Lib.hid (KP.out.grow hb); clear hb) | fail)
  go_region_held3 (fun V => Scl V w.heap.size 24 g o l h ∧ Fld V w.heap.size g o l h) (first | exact ⟨KP.out.at_, KP.out.at_.fld⟩ | exact ⟨KP.out.drew.at_, KP.out.drew.at_.fld⟩ | fail)
    (first
      | (go_at_call 10; (with_reducible refine (C1.out _).mono ?_); rintro e W ⟨rfl, hb⟩; replace KP := Lib.hid (KP.out.drew.grow hb); clear hb C1)
      | (go_at_call 11; (with_reducible refine (D1.out _).mono ?_); rintro e W ⟨rfl, hb⟩; replace KP := Lib.hid (KP.out.grow hb); clear hb D1)
      | (go_at_call 12; (with_reducible refine (C2.out _).mono ?_); rintro e W ⟨rfl, hb⟩; replace KP := Lib.hid (KP.out.grow hb); clear hb C2)
      | (go_at_call 13; (with_reducible refine (D2.out _).mono ?_); rintro e W ⟨rfl, hb⟩; replace KP := Lib.hid (KP.out.grow hb); clear hb D2)
      | (go_at_call 14; (with_reducible refine (C3.out _).mono ?_); rintro e W ⟨rfl, hb⟩; replace KP := Lib.hid (KP.out.grow hb); clear hb C3)
      | (go_at_call 15; (with_reducible refine (D3.out _).mono ?_); rintro e W ⟨rfl, hb⟩; replace KP := Lib.hid (KP.out.grow hb); clear hb D3)
      | (go_at_call 16; (with_reducible refine (C4.out _).mono ?_); rintro e W ⟨rfl, hb⟩; replace KP := Lib.hid (KP.out.grow hb); clear hb C4)
      | (go_at_call 17; (with_reducible refine (D4.out _).mono ?_); rintro e W ⟨rfl, hb⟩; replace KP := Lib.hid (KP.out.grow hb); clear hb D4)
      | fail)
  all_goals
    go_wp2_with fail
    go_ret
    exact ⟨rfl, KP.out.old⟩

set_option maxRecDepth 100000 in
set_option maxHeartbeats 4000000 in
theorem SensorRises_walk (g o l h a b : Int) (w : World) : Calls Try.prog 6 #[.agg (sc g o l h), .int .i64 a, .int .i64 b] w fun e w' => e = .returned (.bool true) ∧ Below w.heap.size w w' := by
  have KP := Lib.hid (Kp.new w g o l h)
  by_cases k : Sn.Ok g o l h
  · by_cases q : a ≤ b
    · have C1 := Lib.hid (check_ok k)
      have A1 := (Sn.raw_in k a).1
      have A2 := (Sn.raw_in k b).2
      have A3 := Sn.raw_mono k q
      have A4 := Sn.val_mono k q
      have A5 := (Sn.val_in k a).1
      have A6 := (Sn.val_in k b).2
      obtain ⟨r1, e1⟩ : ∃ r, Sn.raw g o l h a = r := ⟨_, rfl⟩
      obtain ⟨r2, e2⟩ : ∃ r, Sn.raw g o l h b = r := ⟨_, rfl⟩
      obtain ⟨r3, e3⟩ : ∃ r, Sn.val g o l h a = r := ⟨_, rfl⟩
      obtain ⟨r4, e4⟩ : ∃ r, Sn.val g o l h b = r := ⟨_, rfl⟩
      have R1 := Lib.hid (raw_v e1)
      have R2 := Lib.hid (raw_v e2)
      have V1 := Lib.hid (value_v e3)
      have V2 := Lib.hid (value_v e4)
      rw [e1, e2] at A3
      rw [e1] at A1
      rw [e2] at A2
      rw [e3, e4] at A4
      rw [e3] at A5
      rw [e4] at A6
      clear e1 e2 e3 e4 k
      go_enter Try.func6, Try.ntmps6
      go_wp2_with (first
        | (refine ld_sc rfl _ rfl _ _ _ _ _ rfl KP.out.at_ ?_)
        | (go_at_call 9; refine (awake_c _).mono ?_; rintro e W ⟨rfl, hb⟩; replace KP := Lib.hid (KP.out.grow hb); clear hb)
        | (go_at_call 10; (with_reducible refine (C1.out _).mono ?_); rintro e W ⟨rfl, hb⟩; replace KP := Lib.hid (KP.out.grow hb); clear hb C1)
        | (go_at_call 12; (with_reducible refine (R1.out _).mono ?_); rintro e W ⟨rfl, hb⟩; replace KP := Lib.hid (KP.out.grow hb); clear hb R1)
        | (go_at_call 12; (with_reducible refine (R2.out _).mono ?_); rintro e W ⟨rfl, hb⟩; replace KP := Lib.hid (KP.out.grow hb); clear hb R2)
        | (go_at_call 14; (with_reducible refine (V1.out _).mono ?_); rintro e W ⟨rfl, hb⟩; replace KP := Lib.hid (KP.out.grow hb); clear hb V1)
        | (go_at_call 14; (with_reducible refine (V2.out _).mono ?_); rintro e W ⟨rfl, hb⟩; replace KP := Lib.hid (KP.out.grow hb); clear hb V2; have f2 := KP.out.at_.fld.2.2.1; have f3 := KP.out.at_.fld.2.2.2)
        | fail)
      go_ret
      refine ⟨?_, KP.out.old⟩
      simp [*]
    · have C1 := Lib.hid (check_ok k)
      clear k
      go_enter Try.func6, Try.ntmps6
      go_wp2_with (first
        | (refine ld_sc rfl _ rfl _ _ _ _ _ rfl KP.out.at_ ?_)
        | (go_at_call 9; refine (awake_c _).mono ?_; rintro e W ⟨rfl, hb⟩; replace KP := Lib.hid (KP.out.grow hb); clear hb)
        | (go_at_call 10; (with_reducible refine (C1.out _).mono ?_); rintro e W ⟨rfl, hb⟩; replace KP := Lib.hid (KP.out.grow hb); clear hb C1)
        | fail)
      go_ret
      exact ⟨rfl, KP.out.old⟩
  · have C1 := Lib.hid (check_no k)
    clear k
    go_enter Try.func6, Try.ntmps6
    go_wp2_with (first
      | (refine ld_sc rfl _ rfl _ _ _ _ _ rfl KP.out.at_ ?_)
      | (go_at_call 9; refine (awake_c _).mono ?_; rintro e W ⟨rfl, hb⟩; replace KP := Lib.hid (KP.out.grow hb); clear hb)
      | (go_at_call 10; (with_reducible refine (C1.out _).mono ?_); rintro e W ⟨rfl, hb⟩; replace KP := Lib.hid (KP.out.grow hb); clear hb C1)
      | fail)
    go_ret
    exact ⟨rfl, KP.out.old⟩
end Sw
end Go.Proofs.Ytildceoakohhmaa
