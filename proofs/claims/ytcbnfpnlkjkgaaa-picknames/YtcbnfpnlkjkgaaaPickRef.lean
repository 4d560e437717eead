/- The contract of the document's own Pick. -/
import Derived.Test.YtcbnfpnlkjkgaaaPickCalls
import Derived.BigQuiet
import Derived.Deep.RegionHeld3
namespace Go.Proofs.Ytcbnfpnlkjkgaaa
namespace Pw
open Go.RowKit Pc Lk FixC

set_option maxRecDepth 100000 in
set_option maxHeartbeats 4000000 in
theorem rpick_c (a b : Int) (ga gb : Bool) (m n : Int) (w : World) : Calls Try.prog 11 #[.int .i64 a, .int .i64 b, .bool ga, .bool gb, .int .i64 m, .int .i64 n] w fun e w' => e = .returned (.tuple #[.int .i64 (pick a b ga gb m n).1, .int .i64 (pick a b ga gb m n).2]) ∧ w = w' := by
  have hx := Fx.sat_in a
  have hy := Fx.sat_in b
  have hm := Fx.sat_in m
  have CN := Lib.hid (fun W => rsat_c n W)
  have CA := Lib.hid (fun W => rsat_c a W)
  have CB := Lib.hid (fun W => rsat_c b W)
  have CM := Lib.hid (fun W => rsat_c m W)
  have e : pick a b ga gb m n = (match ga, gb with | true, true => both (Fx.sat a) (Fx.sat b) (Fx.sat m) (max (Fx.sat n) 0) | true, false => (Fx.sat a, 1) | false, true => (Fx.sat b, 2) | false, false => (Fx.sat m, 0)) := rfl
  rw [e]
  clear e
  generalize Fx.sat a = x at *
  generalize Fx.sat b = y at *
  generalize Fx.sat m = z at *
  generalize Fx.sat n = q at *
  have CP := Lib.hid (fun W => rapart_c hx hy W)
  have CE := Lib.hid (fun W => rmean_c hx hy W)
  have CX := Lib.hid (fun W => rapart_c hx hm W)
  have CY := Lib.hid (fun W => rapart_c hy hm W)
  clear hx hy hm
  cases ga <;> cases gb
  · go_enter Try.func11, Try.ntmps11
    go_wp2_with (first
      | (go_at_call 18; (with_reducible refine (CA.out _).mono ?_); rintro e w' ⟨rfl, rfl⟩)
      | (go_at_call 18; (with_reducible refine (CB.out _).mono ?_); rintro e w' ⟨rfl, rfl⟩)
      | (go_at_call 18; (with_reducible refine (CM.out _).mono ?_); rintro e w' ⟨rfl, rfl⟩)
      | (go_at_call 18; (with_reducible refine (CN.out _).mono ?_); rintro e w' ⟨rfl, rfl⟩)
      | (go_at_call 19; (with_reducible refine (CP.out _).mono ?_); rintro e w' ⟨rfl, rfl⟩)
      | (go_at_call 19; (with_reducible refine (CX.out _).mono ?_); rintro e w' ⟨rfl, rfl⟩)
      | (go_at_call 19; (with_reducible refine (CY.out _).mono ?_); rintro e w' ⟨rfl, rfl⟩)
      | (go_at_call 20; (with_reducible refine (CE.out _).mono ?_); rintro e w' ⟨rfl, rfl⟩)
      | fail)
    go_ret2
    exact ⟨rfl, rfl⟩
  · go_enter Try.func11, Try.ntmps11
    go_wp2_with (first
      | (go_at_call 18; (with_reducible refine (CA.out _).mono ?_); rintro e w' ⟨rfl, rfl⟩)
      | (go_at_call 18; (with_reducible refine (CB.out _).mono ?_); rintro e w' ⟨rfl, rfl⟩)
      | (go_at_call 18; (with_reducible refine (CM.out _).mono ?_); rintro e w' ⟨rfl, rfl⟩)
      | (go_at_call 18; (with_reducible refine (CN.out _).mono ?_); rintro e w' ⟨rfl, rfl⟩)
      | (go_at_call 19; (with_reducible refine (CP.out _).mono ?_); rintro e w' ⟨rfl, rfl⟩)
      | (go_at_call 19; (with_reducible refine (CX.out _).mono ?_); rintro e w' ⟨rfl, rfl⟩)
      | (go_at_call 19; (with_reducible refine (CY.out _).mono ?_); rintro e w' ⟨rfl, rfl⟩)
      | (go_at_call 20; (with_reducible refine (CE.out _).mono ?_); rintro e w' ⟨rfl, rfl⟩)
      | fail)
    go_ret2
    exact ⟨rfl, rfl⟩
  · go_enter Try.func11, Try.ntmps11
    go_wp2_with (first
      | (go_at_call 18; (with_reducible refine (CA.out _).mono ?_); rintro e w' ⟨rfl, rfl⟩)
      | (go_at_call 18; (with_reducible refine (CB.out _).mono ?_); rintro e w' ⟨rfl, rfl⟩)
      | (go_at_call 18; (with_reducible refine (CM.out _).mono ?_); rintro e w' ⟨rfl, rfl⟩)
      | (go_at_call 18; (with_reducible refine (CN.out _).mono ?_); rintro e w' ⟨rfl, rfl⟩)
      | (go_at_call 19; (with_reducible refine (CP.out _).mono ?_); rintro e w' ⟨rfl, rfl⟩)
      | (go_at_call 19; (with_reducible refine (CX.out _).mono ?_); rintro e w' ⟨rfl, rfl⟩)
      | (go_at_call 19; (with_reducible refine (CY.out _).mono ?_); rintro e w' ⟨rfl, rfl⟩)
      | (go_at_call 20; (with_reducible refine (CE.out _).mono ?_); rintro e w' ⟨rfl, rfl⟩)
      | fail)
    go_ret2
    exact ⟨rfl, rfl⟩
  · obtain ⟨r, er⟩ : ∃ r, max q 0 = r := ⟨_, rfl⟩
    rw [er]
    rcases both_cases x y z r with ⟨h1, e⟩ | ⟨h1, h2, e⟩ | ⟨h1, h2, e⟩
    · have h : decide (ap x y ≤ r) = true := decide_eq_true h1
      rw [e]
      clear e h1 
      generalize ap x y = d at *
      generalize ap x z = d1 at *
      generalize ap y z = d2 at *
      go_enter Try.func11, Try.ntmps11
      go_wp2_with (first
      | (go_at_call 18; (with_reducible refine (CA.out _).mono ?_); rintro e w' ⟨rfl, rfl⟩)
      | (go_at_call 18; (with_reducible refine (CB.out _).mono ?_); rintro e w' ⟨rfl, rfl⟩)
      | (go_at_call 18; (with_reducible refine (CM.out _).mono ?_); rintro e w' ⟨rfl, rfl⟩)
      | (go_at_call 18; (with_reducible refine (CN.out _).mono ?_); rintro e w' ⟨rfl, rfl⟩)
      | (go_at_call 19; (with_reducible refine (CP.out _).mono ?_); rintro e w' ⟨rfl, rfl⟩)
      | (go_at_call 19; (with_reducible refine (CX.out _).mono ?_); rintro e w' ⟨rfl, rfl⟩)
      | (go_at_call 19; (with_reducible refine (CY.out _).mono ?_); rintro e w' ⟨rfl, rfl⟩)
      | (go_at_call 20; (with_reducible refine (CE.out _).mono ?_); rintro e w' ⟨rfl, rfl⟩)
      | fail)
      go_ret2
      exact ⟨rfl, rfl⟩
    · have h : decide (ap x y ≤ r) = false := decide_eq_false h1
      have h' : decide (ap y z < ap x z) = true := decide_eq_true h2
      rw [e]
      clear e h1 h2
      generalize ap x y = d at *
      generalize ap x z = d1 at *
      generalize ap y z = d2 at *
      go_enter Try.func11, Try.ntmps11
      go_wp2_with (first
      | (go_at_call 18; (with_reducible refine (CA.out _).mono ?_); rintro e w' ⟨rfl, rfl⟩)
      | (go_at_call 18; (with_reducible refine (CB.out _).mono ?_); rintro e w' ⟨rfl, rfl⟩)
      | (go_at_call 18; (with_reducible refine (CM.out _).mono ?_); rintro e w' ⟨rfl, rfl⟩)
      | (go_at_call 18; (with_reducible refine (CN.out _).mono ?_); rintro e w' ⟨rfl, rfl⟩)
      | (go_at_call 19; (with_reducible refine (CP.out _).mono ?_); rintro e w' ⟨rfl, rfl⟩)
      | (go_at_call 19; (with_reducible refine (CX.out _).mono ?_); rintro e w' ⟨rfl, rfl⟩)
      | (go_at_call 19; (with_reducible refine (CY.out _).mono ?_); rintro e w' ⟨rfl, rfl⟩)
      | (go_at_call 20; (with_reducible refine (CE.out _).mono ?_); rintro e w' ⟨rfl, rfl⟩)
      | fail)
      go_ret2
      exact ⟨rfl, rfl⟩
    · have h : decide (ap x y ≤ r) = false := decide_eq_false h1
      have h' : decide (ap y z < ap x z) = false := decide_eq_false h2
      rw [e]
      clear e h1 h2
      generalize ap x y = d at *
      generalize ap x z = d1 at *
      generalize ap y z = d2 at *
      go_enter Try.func11, Try.ntmps11
      go_wp2_with (first
      | (go_at_call 18; (with_reducible refine (CA.out _).mono ?_); rintro e w' ⟨rfl, rfl⟩)
      | (go_at_call 18; (with_reducible refine (CB.out _).mono ?_); rintro e w' ⟨rfl, rfl⟩)
      | (go_at_call 18; (with_reducible refine (CM.out _).mono ?_); rintro e w' ⟨rfl, rfl⟩)
      | (go_at_call 18; (with_reducible refine (CN.out _).mono ?_); rintro e w' ⟨rfl, rfl⟩)
      | (go_at_call 19; (with_reducible refine (CP.out _).mono ?_); rintro e w' ⟨rfl, rfl⟩)
      | (go_at_call 19; (with_reducible refine (CX.out _).mono ?_); rintro e w' ⟨rfl, rfl⟩)
      | (go_at_call 19; (with_reducible refine (CY.out _).mono ?_); rintro e w' ⟨rfl, rfl⟩)
      | (go_at_call 20; (with_reducible refine (CE.out _).mono ?_); rintro e w' ⟨rfl, rfl⟩)
      | fail)
      go_ret2
      exact ⟨rfl, rfl⟩
end Pw
end Go.Proofs.Ytcbnfpnlkjkgaaa
