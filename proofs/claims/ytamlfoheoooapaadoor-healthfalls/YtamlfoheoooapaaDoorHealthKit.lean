/- What the laws of layer 18 have in common: loads in a region that draws; a signal more that is lost. -/
import Derived.Test.YtamlfoheoooapaaDoorHealthAwake
namespace Go.Proofs.YtamlfoheoooapaaDoor
namespace Qw
open Go.RowKit Lk

section
variable {op : Oper} {a : Act} {w : World}
/-- A struct, an array, loaded as a whole, in a region that draws. -/
theorem rH {q s : Int} (x : Operand) (ho : op.op = .load 23 x) (b : Nat) (hx : a.eval x = .pointer (some ⟨b, 0, none⟩)) (hP : w.heap[b]? = some (Qw.ho q s)) : (execOp a.eval op).run Tryd.prog w = .ok (.value (.agg (hc q s))) w := by
  unfold execOp
  simp only [ho, hx, Instr.loadAt, Instr.sureAddr, Sem.run_bind, Sem.run_pure, Result.andThen_ok, run_loadVar_row w b 23 23 (hc q s) (0, 0) _ hP Tryd.underlying23 rfl info_h]
theorem rG {f : Nat → Bool} (x : Operand) (ho : op.op = .load 24 x) (b : Nat) (hx : a.eval x = .pointer (some ⟨b, 0, none⟩)) (hP : w.heap[b]? = some (go f)) : (execOp a.eval op).run Tryd.prog w = .ok (.value (.agg (g5 f))) w := by
  unfold execOp
  simp only [ho, hx, Instr.loadAt, Instr.sureAddr, Sem.run_bind, Sem.run_pure, Result.andThen_ok, run_loadVar_row w b 24 24 (g5 f) (0, 0) _ hP Tryd.underlying24 rfl info_g]
end

/-- A signal more is lost. -/
theorem put_h {w V : World} {M j : Nat} {f : Nat → Bool} {L : List (Nat × Obj)} (h : Hv w V ((M, go f) :: L)) (hk : j < 5) (hj : ∀ e ∈ L, e.1 ≠ M) (h3 : w.heap.size ≤ M) : Hv w (V.setCell ⟨M, j, none⟩ (.bool true)) ((M, go (Hh.put f j)) :: L) :=
  h.change ((Off.refl M V).set j _) (put_b h.head hk) hj h3
theorem ne_made {w V : World} {L : List (Nat × Obj)} (h : Hv w V L) : ∀ e ∈ L, e.1 ≠ V.heap.size := fun e he => by have := h.lt he; omega

end Qw
end Go.Proofs.YtamlfoheoooapaaDoor
