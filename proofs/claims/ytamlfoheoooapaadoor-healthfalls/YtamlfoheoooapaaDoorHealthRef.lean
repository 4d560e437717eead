/- The contracts of the document's Score, Step, Well. -/
import Derived.Test.YtamlfoheoooapaaDoorHealthCalls
import Derived.Deep.DeepCutAuto
namespace Go.Proofs.YtamlfoheoooapaaDoor
namespace Qw
open Go.RowKit Lk

/-- What is taken, in the document's order. -/
abbrev b0 (x : Bool) (n : Int) : Int := if x then n else 0
theorem ref_b (f : Nat → Bool) (q : Int) (h : ¬ 5 < q) (x0 x1 x2 x3 x4 : Bool) (h0 : f 0 = x0) (h1 : f 1 = x1) (h2 : f 2 = x2) (h3 : f 3 = x3) (h4 : f 4 = x4) :
    Hh.sc f q = max (255 - 20 * max q 0 - b0 x1 100 - b0 x0 60 - b0 x2 60 - b0 x3 40 - b0 x4 40) 0 := by
  subst h0 h1 h2 h3 h4
  exact (Hh.ref_is f q h).symm

set_option maxRecDepth 100000 in
set_option maxHeartbeats 8000000 in
theorem rscore_c (f : Nat → Bool) (q : Int) (w : World) :
    Calls Tryd.prog 10 #[.agg (g5 f), .int .i64 q] w fun r w' => r = .returned (.int .i64 (Hh.sc f q)) ∧ Below w.heap.size w w' := by
  have HV := Lib.hid ((Hv.nil w).made (go f))
  by_cases hq : 5 < q
  · have e : Hh.sc f q = 0 := if_pos hq
    rw [e]
    have k1 : decide (5 < q) = true := by simpa using hq
    clear e hq
    go_enter Tryd.func10, Tryd.ntmps10
    go_wp2_with fail
    go_ret
    exact ⟨rfl, HV.out.old⟩
  · obtain ⟨x0, h0⟩ : ∃ x, f 0 = x := ⟨_, rfl⟩
    obtain ⟨x1, h1⟩ : ∃ x, f 1 = x := ⟨_, rfl⟩
    obtain ⟨x2, h2⟩ : ∃ x, f 2 = x := ⟨_, rfl⟩
    obtain ⟨x3, h3⟩ : ∃ x, f 3 = x := ⟨_, rfl⟩
    obtain ⟨x4, h4⟩ : ∃ x, f 4 = x := ⟨_, rfl⟩
    rw [ref_b f q hq x0 x1 x2 x3 x4 h0 h1 h2 h3 h4]
    have k1 : decide (5 < q) = false := by simpa using hq
    have hq' : q ≤ 5 := by omega
    rw [show g5 f = #[.bool x0, .bool x1, .bool x2, .bool x3, .bool x4] from by rw [g5, h0, h1, h2, h3, h4]]
    replace HV : Hid (Hv w (w.alloc (.cells #[.bool x0, .bool x1, .bool x2, .bool x3, .bool x4] 24 (0, 0))) [(w.heap.size, .cells #[.bool x0, .bool x1, .bool x2, .bool x3, .bool x4] 24 (0, 0))]) := (Hv.nil w).made _
    clear h0 h1 h2 h3 h4 hq
    obtain ⟨p, hp⟩ : ∃ p, max q 0 = p := ⟨_, rfl⟩
    have HP : Hid (max q 0 = p) := hp
    clear hp
    go_enter Tryd.func10, Tryd.ntmps10
    go_upto_region 4 with fail
    all_goals
      cases x0 <;> cases x1 <;> cases x2 <;> cases x3 <;> cases x4
    all_goals
      go_wp2_with fail
    all_goals
      go_ret
      refine ⟨ret_i ?_, HV.out.old⟩
      simp only [b0, if_true, if_false, Bool.false_eq_true]
      omega

end Qw
end Go.Proofs.YtamlfoheoooapaaDoor
