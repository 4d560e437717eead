/- The walk of SensorClamps. -/
import Derived.Test.YtildceoakohhmaaSensorLaw2
namespace Go.Proofs.Ytildceoakohhmaa
namespace Sw
open Go.RowKit

set_option maxRecDepth 100000 in
set_option maxHeartbeats 4000000 in
theorem clamps_no (g o l h m : Int) (k : ¬ Sn.Ok g o l h) (w : World) : Calls Try.prog 7 #[.agg (sc g o l h), .int .u32 m] w fun e w' => e = .returned (.bool true) ∧ Below w.heap.size w w' := by
  have KP := Lib.hid (Kp.new w g o l h)
  have C1 := Lib.hid (check_no k)
  have R1 := Lib.hid (raw_v (Sn.raw_no (v := 5) k))
  have V1 := Lib.hid (value_v (Sn.val_no (v := 5) k))
  have S1 := Lib.hid (step_v (Sn.stp_no k))
  clear k
  go_enter Try.func7, Try.ntmps7
  go_wp2_with (first
    | (refine ld_sc rfl _ rfl _ _ _ _ _ rfl KP.out.at_ ?_)
    | (go_at_call 9; refine (awake_c _).mono ?_; rintro e W ⟨rfl, hb⟩; replace KP := Lib.hid (KP.out.grow hb); clear hb)
    | (go_at_call 10; (with_reducible refine (C1.out _).mono ?_); rintro e W ⟨rfl, hb⟩; replace KP := Lib.hid (KP.out.grow hb); clear hb C1)
    | (go_at_call 12; (with_reducible refine (R1.out _).mono ?_); rintro e W ⟨rfl, hb⟩; replace KP := Lib.hid (KP.out.grow hb); clear hb R1)
    | (go_at_call 14; (with_reducible refine (V1.out _).mono ?_); rintro e W ⟨rfl, hb⟩; replace KP := Lib.hid (KP.out.grow hb); clear hb V1)
    | (go_at_call 16; (with_reducible refine (S1.out _).mono ?_); rintro e W ⟨rfl, hb⟩; replace KP := Lib.hid (KP.out.grow hb); clear hb S1)
    | fail)
  go_ret
  exact ⟨rfl, KP.out.old⟩

set_option maxRecDepth 100000 in
set_option maxHeartbeats 4000000 in
theorem clamps_ok (g o l h m : Int) (k : Sn.Ok g o l h) (m1 : 0 ≤ m) (m2 : m ≤ 4294967295) (w : World) : Calls Try.prog 7 #[.agg (sc g o l h), .int .u32 m] w fun e w' => e = .returned (.bool true) ∧ Below w.heap.size w w' := by
  have KP := Lib.hid (Kp.new w g o l h)
  have C1 := Lib.hid (check_ok k)
  obtain ⟨l1, l2, l3⟩ := ok_lh k
  have e1 := Sn.raw_low k (v := l - m) (by omega)
  have e2 := Sn.raw_low k (v := l) (by omega)
  have e3 := Sn.raw_high k (v := h + m) (by omega)
  have e4 := Sn.raw_high k (v := h) (by omega)
  have e5 := Sn.val_low k (n := -1 - m) (by omega)
  have e6 := Sn.val_high k (n := 65536 + m) (by omega)
  obtain ⟨a, ea⟩ : ∃ a, Sn.cnt g o l = a := ⟨_, rfl⟩
  obtain ⟨b, eb⟩ : ∃ b, Sn.cnt g o h = b := ⟨_, rfl⟩
  rw [ea] at e1 e2
  rw [eb] at e3 e4
  have R1 := Lib.hid (raw_v e1)
  have R2 := Lib.hid (raw_v e2)
  have R3 := Lib.hid (raw_v e3)
  have R4 := Lib.hid (raw_v e4)
  have V1 := Lib.hid (value_v e5)
  have V2 := Lib.hid (value_v e6)
  have W0 : IntKind.i64.wrap m = m := IntWalk.i64_in _ (by omega)
  have W1 : IntKind.i64.wrap (l - m) = l - m := IntWalk.i64_in _ (by omega)
  have W2 : IntKind.i64.wrap (h + m) = h + m := IntWalk.i64_in _ (by omega)
  have W3 : IntKind.i64.wrap (-1 - m) = -1 - m := IntWalk.i64_in _ (by omega)
  have W4 : IntKind.i64.wrap (65536 + m) = 65536 + m := IntWalk.i64_in _ (by omega)
  clear e1 e2 e3 e4 e5 e6 ea eb k
  go_enter Try.func7, Try.ntmps7
  go_wp2_with (first
    | (refine ld_sc rfl _ rfl _ _ _ _ _ rfl KP.out.at_ ?_)
    | (go_at_call 9; refine (awake_c _).mono ?_; rintro e W ⟨rfl, hb⟩; replace KP := Lib.hid (KP.out.grow hb); clear hb)
    | (go_at_call 10; (with_reducible refine (C1.out _).mono ?_); rintro e W ⟨rfl, hb⟩; replace KP := Lib.hid (KP.out.grow hb); clear hb C1)
    | fail)
  go_region_held3 (fun V => Scl V w.heap.size 24 g o l h ∧ Fld V w.heap.size g o l h) (first | exact ⟨KP.out.at_, KP.out.at_.fld⟩ | exact ⟨KP.out.drew.at_, KP.out.drew.at_.fld⟩ | fail)
    (first
      | (go_at_call 12; (with_reducible refine (R1.out _).mono ?_); rintro e W ⟨rfl, hb⟩; (first | replace KP := Lib.hid (KP.out.grow hb) | replace KP := Lib.hid (KP.out.drew.grow hb)); clear hb R1)
      | (go_at_call 12; (with_reducible refine (R2.out _).mono ?_); rintro e W ⟨rfl, hb⟩; (first | replace KP := Lib.hid (KP.out.grow hb) | replace KP := Lib.hid (KP.out.drew.grow hb)); clear hb R2)
      | (go_at_call 12; (with_reducible refine (R3.out _).mono ?_); rintro e W ⟨rfl, hb⟩; (first | replace KP := Lib.hid (KP.out.grow hb) | replace KP := Lib.hid (KP.out.drew.grow hb)); clear hb R3)
      | (go_at_call 12; (with_reducible refine (R4.out _).mono ?_); rintro e W ⟨rfl, hb⟩; (first | replace KP := Lib.hid (KP.out.grow hb) | replace KP := Lib.hid (KP.out.drew.grow hb)); clear hb R4)
      | (go_at_call 14; (with_reducible refine (V1.out _).mono ?_); rintro e W ⟨rfl, hb⟩; (first | replace KP := Lib.hid (KP.out.grow hb) | replace KP := Lib.hid (KP.out.drew.grow hb)); clear hb V1)
      | (go_at_call 14; (with_reducible refine (V2.out _).mono ?_); rintro e W ⟨rfl, hb⟩; (first | replace KP := Lib.hid (KP.out.grow hb) | replace KP := Lib.hid (KP.out.drew.grow hb)); clear hb V2)
      | fail)
  all_goals
    go_wp2_with fail
    go_ret
    exact ⟨rfl, KP.out.old⟩

theorem SensorClamps_walk (g o l h m : Int) (hm : (Lit.int .u32 m).wf = true) (w : World) : Calls Try.prog 7 #[.agg (sc g o l h), .int .u32 m] w fun e w' => e = .returned (.bool true) ∧ Below w.heap.size w w' := by
  have hm' : 0 ≤ m ∧ m ≤ 4294967295 := by
    simp only [Lit.wf, IntKind.min, IntKind.max, IntKind.signed, IntKind.bits, Bool.and_eq_true, decide_eq_true_eq, Bool.false_eq_true, if_false] at hm
    omega
  by_cases k : Sn.Ok g o l h
  · exact clamps_ok g o l h m k hm'.1 hm'.2 w
  · exact clamps_no g o l h m k w
end Sw
end Go.Proofs.Ytildceoakohhmaa
