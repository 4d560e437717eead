/- Few, and the walk of SynthTells. -/
import Derived.Test.YtioiffhbbhlgeaaSynthAwake
import Derived.Test.YtioiffhbbhlgeaaSynthRef
import Derived.Laws.StructEq
import Derived.Test.YtioiffhbbhlgeaaOrdKit
namespace Go.Proofs.Ytioiffhbbhlgeaa
namespace Ew
open Go.RowKit TabC Lk

def fewE (e : Eg) : Bool := fewB e.f.xs e.f.ys && fewB e.p.xs e.p.ys && fewB e.q.xs e.q.ys && fewB e.h.xs e.h.ys

set_option maxRecDepth 100000 in
set_option maxHeartbeats 4000000 in
theorem few_e (e : Eg) (w : World) : Calls Try.prog 10 #[.agg (ec e)] w fun r w' => r = .returned (.bool (fewE e)) ∧ Below w.heap.size w w' := by
  have HV := Lib.hid (one_e w e)
  obtain ⟨c0, c1, c2, c3, c4, c5, c6, c7, _⟩ := efld HV.out.head
  obtain ⟨b1, h1⟩ : ∃ b, fewB e.f.xs e.f.ys = b := ⟨_, rfl⟩
  obtain ⟨b2, h2⟩ : ∃ b, fewB e.p.xs e.p.ys = b := ⟨_, rfl⟩
  obtain ⟨b3, h3⟩ : ∃ b, fewB e.q.xs e.q.ys = b := ⟨_, rfl⟩
  obtain ⟨b4, h4⟩ : ∃ b, fewB e.h.xs e.h.ys = b := ⟨_, rfl⟩
  rw [show fewE e = (b1 && b2 && b3 && b4) from by simp only [fewE, h1, h2, h3, h4]]
  have C1 := Lib.hid (fw_v h1)
  have C2 := Lib.hid (fw_v h2)
  have C3 := Lib.hid (fw_v h3)
  have C4 := Lib.hid (fw_v h4)
  clear h1 h2 h3 h4
  go_enter Try.func10, Try.ntmps10
  go_wp2_with (first | (go_at_call 23; (first | (with_reducible refine (C1.out _).mono ?_) | (with_reducible refine (C2.out _).mono ?_) | (with_reducible refine (C3.out _).mono ?_) | (with_reducible refine (C4.out _).mono ?_)); rintro r W ⟨rfl, hb⟩; replace HV := Lib.hid (HV.out.grow hb); clear hb c0 c1 c2 c3 c4 c5 c6 c7; obtain ⟨c0, c1, c2, c3, c4, c5, c6, c7, _⟩ := efld HV.out.head) | fail)
  all_goals
    go_ret
    exact ⟨ret_bool (by simp [*]), HV.out.old⟩

theorem few_v {e : Eg} {b : Bool} (h : fewE e = b) (W : World) : Calls Try.prog 10 #[.agg (ec e)] W fun r w' => r = .returned (.bool b) ∧ Below W.heap.size W w' := h ▸ few_e e W

end Ew
end Go.Proofs.Ytioiffhbbhlgeaa
