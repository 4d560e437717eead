/- The walks of SensorBack, SensorClamps, SensorExact. -/
import Derived.Test.YtildceoakohhmaaSensorLaw2
namespace Go.Proofs.Ytildceoakohhmaa
namespace Sw
open Go.RowKit

set_option maxRecDepth 100000 in
set_option maxHeartbeats 4000000 in
theorem back_no (g o l h v : Int) (k : ¬ Sn.Ok g o l h) (w : World) : Calls Try.prog 5 #[.agg (sc g o l h), .int .i64 v] w fun e w' => e = .returned (.bool true) ∧ Below w.heap.size w w' := by
  have KP := Lib.hid (Kp.new w g o l h)
  have C1 := Lib.hid (check_no k)
  clear k
  go_enter Try.func5, Try.ntmps5
  go_wp2_with (first
    | (refine ld_sc rfl _ rfl _ _ _ _ _ rfl KP.out.at_ ?_)
    | (go_at_call 9; refine (awake_c _).mono ?_; rintro e W ⟨rfl, hb⟩; replace KP := Lib.hid (KP.out.grow hb); clear hb)
    | (go_at_call 10; (with_reducible refine (C1.out _).mono ?_); rintro e W ⟨rfl, hb⟩; replace KP := Lib.hid (KP.out.grow hb); clear hb C1)
    | fail)
  go_ret
  exact ⟨rfl, KP.out.old⟩

set_option maxRecDepth 100000 in
set_option maxHeartbeats 4000000 in
theorem back_out (g o l h v : Int) (k : Sn.Ok g o l h) (q : v < l ∨ (l ≤ v ∧ h < v)) (w : World) : Calls Try.prog 5 #[.agg (sc g o l h), .int .i64 v] w fun e w' => e = .returned (.bool true) ∧ Below w.heap.size w w' := by
  have KP := Lib.hid (Kp.new w g o l h)
  have C1 := Lib.hid (check_ok k)
  clear k
  rcases q with q | ⟨q, q2⟩
  · go_enter Try.func5, Try.ntmps5
    go_wp2_with (first
      | (refine ld_sc rfl _ rfl _ _ _ _ _ rfl KP.out.at_ ?_)
      | (go_at_call 9; refine (awake_c _).mono ?_; rintro e W ⟨rfl, hb⟩; replace KP := Lib.hid (KP.out.grow hb); clear hb)
      | (go_at_call 10; (with_reducible refine (C1.out _).mono ?_); rintro e W ⟨rfl, hb⟩; replace KP := Lib.hid (KP.out.grow hb); clear hb C1; have f0 := KP.out.at_.fld.1; have f2 := KP.out.at_.fld.2.2.1; have f3 := KP.out.at_.fld.2.2.2)
      | fail)
    go_ret
    exact ⟨rfl, KP.out.old⟩
  · go_enter Try.func5, Try.ntmps5
    go_wp2_with (first
      | (refine ld_sc rfl _ rfl _ _ _ _ _ rfl KP.out.at_ ?_)
      | (go_at_call 9; refine (awake_c _).mono ?_; rintro e W ⟨rfl, hb⟩; replace KP := Lib.hid (KP.out.grow hb); clear hb)
      | (go_at_call 10; (with_reducible refine (C1.out _).mono ?_); rintro e W ⟨rfl, hb⟩; replace KP := Lib.hid (KP.out.grow hb); clear hb C1; have f0 := KP.out.at_.fld.1; have f2 := KP.out.at_.fld.2.2.1; have f3 := KP.out.at_.fld.2.2.2)
      | fail)
    go_ret
    exact ⟨rfl, KP.out.old⟩

set_option maxRecDepth 100000 in
set_option maxHeartbeats 4000000 in
theorem back_in (g o l h v : Int) (k : Sn.Ok g o l h) (q1 : l ≤ v) (q2 : v ≤ h) (w : World) : Calls Try.prog 5 #[.agg (sc g o l h), .int .i64 v] w fun e w' => e = .returned (.bool true) ∧ Below w.heap.size w w' := by
  have KP := Lib.hid (Kp.new w g o l h)
  have C1 := Lib.hid (check_ok k)
  obtain ⟨b1, b2, b3⟩ := Sn.back k q1 q2
  have e1 := Sn.raw_at k q1 q2
  have hi := Sn.val_in k (Sn.cnt g o v)
  have e2 := Sn.raw_at k hi.1 hi.2
  have e3 := Sn.stp_ok k
  obtain ⟨l1, l2, l3⟩ := ok_lh k
  rw [b2] at e2
  rw [← e3] at b3
  clear e3 b2
  obtain ⟨r, er⟩ : ∃ r, Sn.cnt g o v = r := ⟨_, rfl⟩
  rw [er] at b1 b3 e1 e2 hi
  obtain ⟨u, eu⟩ : ∃ u, Sn.val g o l h r = u := ⟨_, rfl⟩
  rw [eu] at b1 b3 e2 hi
  obtain ⟨s, es⟩ : ∃ s, Sn.stp g o l h = s := ⟨_, rfl⟩
  rw [es] at b3
  obtain ⟨u1, u2⟩ := hi
  have R1 := Lib.hid (raw_v e1)
  have R2 := Lib.hid (raw_v e2)
  have V1 := Lib.hid (value_v eu)
  have S1 := Lib.hid (step_v es)
  have W1 : IntKind.i64.wrap (v - u) = v - u := IntWalk.i64_in _ (by omega)
  have d1 : decide (u ≤ v) = true := decide_eq_true b1
  have d2 : decide (v - u ≤ s) = true := decide_eq_true b3
  clear e1 e2 er eu es k
  go_enter Try.func5, Try.ntmps5
  go_wp2_with (first
    | (refine ld_sc rfl _ rfl _ _ _ _ _ rfl KP.out.at_ ?_)
    | (go_at_call 9; refine (awake_c _).mono ?_; rintro e W ⟨rfl, hb⟩; replace KP := Lib.hid (KP.out.grow hb); clear hb)
    | (go_at_call 10; (with_reducible refine (C1.out _).mono ?_); rintro e W ⟨rfl, hb⟩; replace KP := Lib.hid (KP.out.grow hb); clear hb C1; have f0 := KP.out.at_.fld.1; have f2 := KP.out.at_.fld.2.2.1; have f3 := KP.out.at_.fld.2.2.2)
    | (go_at_call 12; (with_reducible refine (R1.out _).mono ?_); rintro e W ⟨rfl, hb⟩; replace KP := Lib.hid (KP.out.grow hb); clear hb R1 f0 f2 f3)
    | (go_at_call 14; (with_reducible refine (V1.out _).mono ?_); rintro e W ⟨rfl, hb⟩; replace KP := Lib.hid (KP.out.grow hb); clear hb)
    | fail)
  go_region_held3 (fun V => Scl V w.heap.size 24 g o l h ∧ Fld V w.heap.size g o l h) (first | exact ⟨KP.out.at_, KP.out.at_.fld⟩ | exact ⟨KP.out.drew.at_, KP.out.drew.at_.fld⟩ | fail)
    (first
      | (go_at_call 12; (with_reducible refine (R2.out _).mono ?_); rintro e W ⟨rfl, hb⟩; (first | replace KP := Lib.hid (KP.out.grow hb) | replace KP := Lib.hid (KP.out.drew.grow hb)); clear hb)
      | (go_at_call 16; (with_reducible refine (S1.out _).mono ?_); rintro e W ⟨rfl, hb⟩; (first | replace KP := Lib.hid (KP.out.grow hb) | replace KP := Lib.hid (KP.out.drew.grow hb)); clear hb S1)
      | (go_at_call 14; (with_reducible refine (V1.out _).mono ?_); rintro e W ⟨rfl, hb⟩; (first | replace KP := Lib.hid (KP.out.grow hb) | replace KP := Lib.hid (KP.out.drew.grow hb)); clear hb)
      | fail)
  all_goals
    go_wp2_with fail
    go_ret
    exact ⟨rfl, KP.out.old⟩

theorem SensorBack_walk (g o l h v : Int) (w : World) : Calls Try.prog 5 #[.agg (sc g o l h), .int .i64 v] w fun e w' => e = .returned (.bool true) ∧ Below w.heap.size w w' := by
  by_cases k : Sn.Ok g o l h
  · by_cases q : l ≤ v ∧ v ≤ h
    · exact back_in g o l h v k q.1 q.2 w
    · exact back_out g o l h v k (by omega) w
  · exact back_no g o l h v k w

set_option maxRecDepth 100000 in
set_option maxHeartbeats 4000000 in
theorem exact_no (g o l h v : Int) (k : ¬ Sn.Ok g o l h) (w : World) : Calls Try.prog 8 #[.agg (sc g o l h), .int .i64 v] w fun e w' => e = .returned (.bool true) ∧ Below w.heap.size w w' := by
  have KP := Lib.hid (Kp.new w g o l h)
  have C1 := Lib.hid (check_no k)
  clear k
  go_enter Try.func8, Try.ntmps8
  go_wp2_with (first
    | (refine ld_sc rfl _ rfl _ _ _ _ _ rfl KP.out.at_ ?_)
    | (go_at_call 9; refine (awake_c _).mono ?_; rintro e W ⟨rfl, hb⟩; replace KP := Lib.hid (KP.out.grow hb); clear hb)
    | (go_at_call 10; (with_reducible refine (C1.out _).mono ?_); rintro e W ⟨rfl, hb⟩; replace KP := Lib.hid (KP.out.grow hb); clear hb C1)
    | fail)
  go_ret
  exact ⟨rfl, KP.out.old⟩

set_option maxRecDepth 100000 in
set_option maxHeartbeats 4000000 in
theorem exact_out (g o l h v : Int) (k : Sn.Ok g o l h) (q : g < 65536 ∨ (65536 ≤ g ∧ v < l) ∨ (65536 ≤ g ∧ l ≤ v ∧ h < v)) (w : World) : Calls Try.prog 8 #[.agg (sc g o l h), .int .i64 v] w fun e w' => e = .returned (.bool true) ∧ Below w.heap.size w w' := by
  have KP := Lib.hid (Kp.new w g o l h)
  have C1 := Lib.hid (check_ok k)
  clear k
  rcases q with q | ⟨q, q2⟩ | ⟨q, q2, q3⟩
  · go_enter Try.func8, Try.ntmps8
    go_wp2_with (first
      | (refine ld_sc rfl _ rfl _ _ _ _ _ rfl KP.out.at_ ?_)
      | (go_at_call 9; refine (awake_c _).mono ?_; rintro e W ⟨rfl, hb⟩; replace KP := Lib.hid (KP.out.grow hb); clear hb)
      | (go_at_call 10; (with_reducible refine (C1.out _).mono ?_); rintro e W ⟨rfl, hb⟩; replace KP := Lib.hid (KP.out.grow hb); clear hb C1; have f0 := KP.out.at_.fld.1; have f2 := KP.out.at_.fld.2.2.1; have f3 := KP.out.at_.fld.2.2.2)
      | fail)
    go_ret
    exact ⟨rfl, KP.out.old⟩
  · go_enter Try.func8, Try.ntmps8
    go_wp2_with (first
      | (refine ld_sc rfl _ rfl _ _ _ _ _ rfl KP.out.at_ ?_)
      | (go_at_call 9; refine (awake_c _).mono ?_; rintro e W ⟨rfl, hb⟩; replace KP := Lib.hid (KP.out.grow hb); clear hb)
      | (go_at_call 10; (with_reducible refine (C1.out _).mono ?_); rintro e W ⟨rfl, hb⟩; replace KP := Lib.hid (KP.out.grow hb); clear hb C1; have f0 := KP.out.at_.fld.1; have f2 := KP.out.at_.fld.2.2.1; have f3 := KP.out.at_.fld.2.2.2)
      | fail)
    go_ret
    exact ⟨rfl, KP.out.old⟩
  · go_enter Try.func8, Try.ntmps8
    go_wp2_with (first
      | (refine ld_sc rfl _ rfl _ _ _ _ _ rfl KP.out.at_ ?_)
      | (go_at_call 9; refine (awake_c _).mono ?_; rintro e W ⟨rfl, hb⟩; replace KP := Lib.hid (KP.out.grow hb); clear hb)
      | (go_at_call 10; (with_reducible refine (C1.out _).mono ?_); rintro e W ⟨rfl, hb⟩; replace KP := Lib.hid (KP.out.grow hb); clear hb C1; have f0 := KP.out.at_.fld.1; have f2 := KP.out.at_.fld.2.2.1; have f3 := KP.out.at_.fld.2.2.2)
      | fail)
    go_ret
    exact ⟨rfl, KP.out.old⟩

set_option maxRecDepth 100000 in
set_option maxHeartbeats 4000000 in
theorem exact_in (g o l h v : Int) (k : Sn.Ok g o l h) (q0 : 65536 ≤ g) (q1 : l ≤ v) (q2 : v ≤ h) (w : World) : Calls Try.prog 8 #[.agg (sc g o l h), .int .i64 v] w fun e w' => e = .returned (.bool true) ∧ Below w.heap.size w w' := by
  have KP := Lib.hid (Kp.new w g o l h)
  have C1 := Lib.hid (check_ok k)
  obtain ⟨b1, b2, b3⟩ := Sn.back k q1 q2
  have e1 := Sn.raw_at k q1 q2
  have es : Sn.stp g o l h = 0 := (Sn.stp_ok k).trans (Sn.step_zero k q0)
  rw [Sn.step_zero k q0] at b3
  obtain ⟨r, er⟩ : ∃ r, Sn.cnt g o v = r := ⟨_, rfl⟩
  rw [er] at b1 b3 e1
  have eu : Sn.val g o l h r = v := by omega
  have R1 := Lib.hid (raw_v e1)
  have V1 := Lib.hid (value_v eu)
  have S1 := Lib.hid (step_v es)
  clear e1 er eu es k b1 b2 b3
  go_enter Try.func8, Try.ntmps8
  go_wp2_with (first
    | (refine ld_sc rfl _ rfl _ _ _ _ _ rfl KP.out.at_ ?_)
    | (go_at_call 9; refine (awake_c _).mono ?_; rintro e W ⟨rfl, hb⟩; replace KP := Lib.hid (KP.out.grow hb); clear hb)
    | (go_at_call 10; (with_reducible refine (C1.out _).mono ?_); rintro e W ⟨rfl, hb⟩; replace KP := Lib.hid (KP.out.grow hb); clear hb C1; have f0 := KP.out.at_.fld.1; have f2 := KP.out.at_.fld.2.2.1; have f3 := KP.out.at_.fld.2.2.2)
    | fail)
  clear f0 f2 f3
  go_region_held3 (fun V => Scl V w.heap.size 24 g o l h ∧ Fld V w.heap.size g o l h) (first | exact ⟨KP.out.at_, KP.out.at_.fld⟩ | exact ⟨KP.out.drew.at_, KP.out.drew.at_.fld⟩ | fail)
    (first
      | (go_at_call 16; (with_reducible refine (S1.out _).mono ?_); rintro e W ⟨rfl, hb⟩; (first | replace KP := Lib.hid (KP.out.grow hb) | replace KP := Lib.hid (KP.out.drew.grow hb)); clear hb S1)
      | (go_at_call 12; (with_reducible refine (R1.out _).mono ?_); rintro e W ⟨rfl, hb⟩; (first | replace KP := Lib.hid (KP.out.grow hb) | replace KP := Lib.hid (KP.out.drew.grow hb)); clear hb R1)
      | (go_at_call 14; (with_reducible refine (V1.out _).mono ?_); rintro e W ⟨rfl, hb⟩; (first | replace KP := Lib.hid (KP.out.grow hb) | replace KP := Lib.hid (KP.out.drew.grow hb)); clear hb V1)
      | fail)
  all_goals
    go_wp2_with fail
    go_ret
    exact ⟨rfl, KP.out.old⟩

theorem SensorExact_walk (g o l h v : Int) (w : World) : Calls Try.prog 8 #[.agg (sc g o l h), .int .i64 v] w fun e w' => e = .returned (.bool true) ∧ Below w.heap.size w w' := by
  by_cases k : Sn.Ok g o l h
  · by_cases q : 65536 ≤ g ∧ l ≤ v ∧ v ≤ h
    · exact exact_in g o l h v k q.1 q.2.1 q.2.2 w
    · exact exact_out g o l h v k (by omega) w
  · exact exact_no g o l h v k w
end Sw
end Go.Proofs.Ytildceoakohhmaa
