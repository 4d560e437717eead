/- A value's count, and how far off a value may be told: sensor.Raw, sensor.Step. -/
import Derived.Test.YtildceoakohhmaaSensorCheck
namespace Go.Proofs.Ytildceoakohhmaa
namespace Sw
open Go.RowKit

theorem ok_g {g o l h : Int} (k : Sn.Ok g o l h) : 1 ≤ g ∧ g ≤ 1048576 := ⟨k.1, k.2.1⟩
theorem ok_o {g o l h : Int} (k : Sn.Ok g o l h) : 0 ≤ o ∧ o ≤ 65535 := ⟨k.2.2.1, k.2.2.2.1⟩
theorem ok_lh {g o l h : Int} (k : Sn.Ok g o l h) : -1048576 ≤ l ∧ h ≤ 1048576 ∧ l < h := ⟨k.2.2.2.2.1, k.2.2.2.2.2.1, k.2.2.2.2.2.2.1⟩
theorem ok_in {g o l h v : Int} (k : Sn.Ok g o l h) (h1 : l ≤ v) (h2 : v ≤ h) : -1048576 ≤ v ∧ v ≤ 1048576 := by
  have := ok_lh k
  omega
theorem ok_bd {g o l h : Int} (k : Sn.Ok g o l h) (v : Int) : -1048576 ≤ Sn.bd v l h ∧ Sn.bd v l h ≤ 1048576 := by
  have b := Sn.bd_in (v := v) (ok_lh k).2.2
  exact ok_in k b.1 b.2
theorem check_ok {g o l h : Int} (k : Sn.Ok g o l h) (w : World) : Calls Try.prog 10 #[.agg (sc g o l h)] w fun e w' => e = .returned (.int .i64 0) ∧ Below w.heap.size w w' := by
  have := check_c g o l h w
  rwa [Sn.err_ok k] at this
theorem check_no {g o l h : Int} (k : ¬ Sn.Ok g o l h) (w : World) : Calls Try.prog 10 #[.agg (sc g o l h)] w fun e w' => e = .returned (.int .i64 60) ∧ Below w.heap.size w w' := by
  have := check_c g o l h w
  rwa [Sn.err_no k] at this

set_option maxRecDepth 100000 in
set_option maxHeartbeats 4000000 in
theorem raw_c (g o l h v : Int) (w : World) : Calls Try.prog 12 #[.agg (sc g o l h), .int .i64 v] w fun e w' => e = .returned (.int .i64 (Sn.raw g o l h v)) ∧ Below w.heap.size w w' := by
  have KP := Lib.hid (Kp.new w g o l h)
  by_cases k : Sn.Ok g o l h
  · have E : Hid (Sn.raw g o l h v = Sn.cnt g o (Sn.bd v l h)) := Sn.raw_ok k
    have CK := Lib.hid (check_ok k)
    have CC := Lib.hid (count_c g o l h (Sn.bd v l h) (ok_bd k v) (ok_g k) (ok_o k))
    have EC : Hid (Fx.clamp v l h = Sn.bd v l h) := Sn.clamp_bd (ok_lh k).1 (ok_lh k).2.1 (ok_lh k).2.2
    clear k
    generalize Sn.bd v l h = u at *
    go_enter Try.func12, Try.ntmps12
    go_wp2_with (first | (refine ld_sc rfl _ rfl _ _ _ _ _ rfl KP.out.at_ ?_) | (go_at_call 10; (with_reducible refine (CK.out _).mono ?_); rintro e W1 ⟨rfl, hb⟩; replace KP := Lib.hid (KP.out.grow hb); clear hb CK) | fail)
    go_region_held3 (fun V => Scl V w.heap.size 24 g o l h ∧ Fld V w.heap.size g o l h) (first | exact ⟨KP.out.at_, KP.out.at_.fld⟩ | exact ⟨KP.out.drew.at_, KP.out.drew.at_.fld⟩ | fail)
      (first | (go_at_call 21; refine (FixC.clamp_c _ _ _ _).mono ?_; rintro e w' ⟨rfl, rfl⟩; rw [EC.out]) | (go_at_call 19; (with_reducible refine (CC.out _).mono ?_); rintro e W2 ⟨rfl, hb⟩; replace KP := Lib.hid (KP.out.drew.grow hb); clear hb CC) | fail)
    all_goals
      go_wp2_with fail
      go_ret
      exact ⟨FixC.ret_int E.out.symm, KP.out.old⟩
  · have E : Hid (Sn.raw g o l h v = 0) := Sn.raw_no k
    have CK := Lib.hid (check_no k)
    clear k
    go_enter Try.func12, Try.ntmps12
    go_wp2_with (first | (refine ld_sc rfl _ rfl _ _ _ _ _ rfl KP.out.at_ ?_) | (go_at_call 10; (with_reducible refine (CK.out _).mono ?_); rintro e W1 ⟨rfl, hb⟩; replace KP := Lib.hid (KP.out.grow hb); clear hb CK) | fail)
    go_ret
    exact ⟨FixC.ret_int E.out.symm, KP.out.old⟩
end Sw
end Go.Proofs.Ytildceoakohhmaa
