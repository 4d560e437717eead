/- 'awake' of layer 6's statements answers true, and leaves all that lay; SensorNames. -/
import Derived.Test.YtildceoakohhmaaSensorRef2
namespace Go.Proofs.Ytildceoakohhmaa
namespace Sw
open Go.RowKit

theorem raw_v {g o l h v r : Int} (e : Sn.raw g o l h v = r) (w : World) : Calls Try.prog 12 #[.agg (sc g o l h), .int .i64 v] w fun e w' => e = .returned (.int .i64 r) ∧ Below w.heap.size w w' := by
  subst e
  exact raw_c g o l h v w
theorem value_v {g o l h n r : Int} (e : Sn.val g o l h n = r) (w : World) : Calls Try.prog 14 #[.agg (sc g o l h), .int .i64 n] w fun e w' => e = .returned (.int .i64 r) ∧ Below w.heap.size w w' := by
  subst e
  exact value_c g o l h n w
theorem step_v {g o l h r : Int} (e : Sn.stp g o l h = r) (w : World) : Calls Try.prog 16 #[.agg (sc g o l h)] w fun e w' => e = .returned (.int .i64 r) ∧ Below w.heap.size w w' := by
  subst e
  exact step_c g o l h w

theorem ex_ok : Sn.Ok 32768 100 (-100) 1000 := by decide
theorem ex_no : ¬ Sn.Ok 0 0 0 0 := by decide
theorem ex_v1 : Sn.val 32768 100 (-100) 1000 105 = 10 := Sn.val_of ex_ok ⟨by decide, by decide, fun v _ _ => by unfold Sn.cnt; omega, fun _ => by decide⟩
theorem ex_v2 : Sn.val 32768 100 (-100) 1000 0 = -100 := Sn.val_low ex_ok (by decide)
theorem ex_v3 : Sn.val 32768 100 (-100) 1000 65535 = 1000 := Sn.val_of ex_ok ⟨by decide, by decide, fun v _ _ => by unfold Sn.cnt; omega, fun h => absurd h (by decide)⟩

set_option maxRecDepth 100000 in
set_option maxHeartbeats 4000000 in
theorem awake_c (w : World) : Calls Try.prog 9 #[] w fun e w' => e = .returned (.bool true) ∧ Below w.heap.size w w' := by
  have KP := Lib.hid (Kp.new w 32768 100 (-100) 1000)
  have C1 := Lib.hid (check_ok ex_ok)
  have C2 := Lib.hid (check_no ex_no)
  have R1 := Lib.hid (fun W => raw_v (g := 32768) (o := 100) (l := -100) (h := 1000) (v := 10) (r := 105) (by decide) W)
  have R2 := Lib.hid (fun W => raw_v (g := 32768) (o := 100) (l := -100) (h := 1000) (v := -7) (r := 96) (by decide) W)
  have R3 := Lib.hid (fun W => raw_v (g := 32768) (o := 100) (l := -100) (h := 1000) (v := 5000) (r := 600) (by decide) W)
  have V1 := Lib.hid (fun W => value_v ex_v1 W)
  have V2 := Lib.hid (fun W => value_v ex_v2 W)
  have V3 := Lib.hid (fun W => value_v ex_v3 W)
  have S1 := Lib.hid (fun W => step_v (g := 32768) (o := 100) (l := -100) (h := 1000) (r := 1) (by decide) W)
  go_enter Try.func9, Try.ntmps9
  go_wp2_with (first
    | (refine ld_sc rfl _ rfl _ _ _ _ _ rfl KP.out.at_ ?_)
    | (go_at_call 10; (with_reducible refine (C1.out _).mono ?_); rintro e W ⟨rfl, hb⟩; replace KP := Lib.hid (KP.out.grow hb); clear hb C1)
    | (go_at_call 10; (with_reducible refine (C2.out _).mono ?_); rintro e W ⟨rfl, hb⟩; replace KP := Lib.hid (KP.out.grow hb); clear hb C2)
    | (go_at_call 12; (with_reducible refine (R1.out _).mono ?_); rintro e W ⟨rfl, hb⟩; replace KP := Lib.hid (KP.out.grow hb); clear hb R1)
    | (go_at_call 12; (with_reducible refine (R2.out _).mono ?_); rintro e W ⟨rfl, hb⟩; replace KP := Lib.hid (KP.out.grow hb); clear hb R2)
    | (go_at_call 12; (with_reducible refine (R3.out _).mono ?_); rintro e W ⟨rfl, hb⟩; replace KP := Lib.hid (KP.out.grow hb); clear hb R3)
    | (go_at_call 14; (with_reducible refine (V1.out _).mono ?_); rintro e W ⟨rfl, hb⟩; replace KP := Lib.hid (KP.out.grow hb); clear hb V1)
    | (go_at_call 14; (with_reducible refine (V2.out _).mono ?_); rintro e W ⟨rfl, hb⟩; replace KP := Lib.hid (KP.out.grow hb); clear hb V2)
    | (go_at_call 14; (with_reducible refine (V3.out _).mono ?_); rintro e W ⟨rfl, hb⟩; replace KP := Lib.hid (KP.out.grow hb); clear hb V3)
    | (go_at_call 16; (with_reducible refine (S1.out _).mono ?_); rintro e W ⟨rfl, hb⟩; replace KP := Lib.hid (KP.out.grow hb); clear hb S1)
    | fail)
  go_ret
  exact ⟨rfl, KP.out.old⟩

set_option maxRecDepth 100000 in
theorem SensorNames_walk (w : World) : Calls Try.prog 3 #[] w fun e w' => e = .returned (.bool true) ∧ Below w.heap.size w w' := by
  go_enter Try.func3, Try.ntmps3
  go_wp2_with (first | (go_at_call 9; refine (awake_c _).mono ?_; rintro e W ⟨rfl, hb⟩; have HB := Lib.hid hb; clear hb) | fail)
  go_ret
  exact ⟨rfl, HB.out⟩
end Sw
end Go.Proofs.Ytildceoakohhmaa
