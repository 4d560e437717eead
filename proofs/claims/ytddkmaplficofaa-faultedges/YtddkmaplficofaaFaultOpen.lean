/- Bools, and numbers with their slice's ends, that came in as arguments. -/
import Derived.Test.YtddkmaplficofaaFaultEdge
import Derived.Test.YtddkmaplficofaaOpenKit
namespace Go.Proofs.Ytddkmaplficofaa
namespace Fw
open Go.RowKit Go.WideShapes Go.ChangeShapes Go.ChangeAt Lk

theorem cells_b : Try.prog.cellsOf 4 = 1 := by kernel_rfl
section
variable {H : Type} {enc : TypeId × Value → H} {W : World} {base : Nat} {v : Value} {d : DataW H} {ps : List MemPlace}
theorem open_bools (hv : Value.okWide Try.prog W .any base 34 v) (h : DataW.Trod enc Try.prog W 0 (fun _ => true) true 34 v d ps) :
    ∃ A L c, v = .slice A L.length c ∧ Bls W A L := by
  obtain ⟨A, L, c, e, _, hr, _⟩ := Lk.open_rows (fun b : Bool => [Value.bool b]) (fun _ => True) false Try.underlying34 cells_b (by decide) (fun _ => rfl) (fun h => by
    obtain ⟨b, e, _⟩ := DataW.trod_bool Try.underlying4 h
    exact ⟨b, e, trivial⟩) hv h
  refine ⟨A, L, c, e, fun i b hi => ?_⟩
  obtain ⟨g, o, e2, hg, h3⟩ := hr i b hi
  refine ⟨g, o, e2, hg, ?_⟩
  have := h3 0 _ rfl
  simpa using this
/-- Numbers that came in, and their slice's ends. -/
theorem open_ints_ends {P : Program} {t e : TypeId} {k : IntKind} (ht : P.underlying t = some (.slice e)) (he : P.underlying e = some (.int k)) (hc : P.cellsOf e = 1)
    (hv : Value.okWide P W .any base t v) (h : DataW.Trod enc P W 0 (fun _ => true) true t v d ps) :
    ∃ (A : Option Addr) (l : List Int) (cap : Nat), v = .slice A l.length cap ∧ l.length ≤ cap ∧ cap ≤ maxLen ∧ (A = none → cap = 0) ∧ Lk.IntsAt W k A l := by
  obtain ⟨a0, len, cap, rfl⟩ := okWide_slice ht hv
  obtain ⟨A, l, cap', e1, h1, h2, h3, _⟩ := Lk.open_ints_any ht he hc hv h
  injection e1 with e2 e3 e4
  subst e2; subst e3; subst e4
  refine ⟨a0, l, cap, rfl, h1, h2, ?_, h3⟩
  obtain ⟨fuel, hf⟩ := h
  rcases open_ints ht he hc hf with ⟨hcs, _⟩ | ⟨a, len', cap', zs, hcs, _⟩
  · simp only [Value.cells, List.cons.injEq, Value.slice.injEq, and_true] at hcs
    obtain ⟨_, _, rfl⟩ := hcs
    exact fun _ => rfl
  · simp only [Value.cells, List.cons.injEq, Value.slice.injEq, and_true] at hcs
    obtain ⟨rfl, _, _⟩ := hcs
    exact fun h => by cases h
end
end Fw
end Go.Proofs.Ytddkmaplficofaa
