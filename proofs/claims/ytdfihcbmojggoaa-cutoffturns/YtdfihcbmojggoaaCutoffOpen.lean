/- Pickups, bools: that came in as arguments, opened. -/
import Derived.Test.YtdfihcbmojggoaaCutoffIn
import Derived.Test.YtdfihcbmojggoaaOpenKit
import Derived.OpenShut
namespace Go.Proofs.Ytdfihcbmojggoaa
namespace Ow
open Go Go.RowKit Go.WideShapes Go.ChangeShapes Go.ChangeAt

theorem cells_b : Try.prog.cellsOf 4 = 1 := by kernel_rfl
theorem cells_i : Try.prog.cellsOf 3 = 1 := by kernel_rfl
theorem cells_p : Try.prog.cellsOf 30 = 2 := by kernel_rfl
theorem list2 {α : Type} {l : List α} (h : l.length = 2) : ∃ a b, l = [a, b] := by
  match l, h with
  | [a, b], _ => exact ⟨a, b, rfl⟩
section
variable {H : Type} {enc : TypeId × Value → H} {W : World} {base : Nat} {v : Value} {d : DataW H} {ps : List MemPlace}
set_option maxRecDepth 100000 in
theorem p_cells {fuel : Nat} {cs : List Value} {x : DataW H × List MemPlace} (hf : DataW.trod enc Try.prog W 0 (fun _ => true) true fuel 30 cs = some x) : ∃ p : Int × Int, cs = (pc p.1 p.2).toList := by
  obtain ⟨xs, m, _, _, hl, hn, hh⟩ := DataW.trod_array Try.underlying30 hf
  rw [cells_p] at hl
  obtain ⟨a, b, rfl⟩ := list2 hl
  rw [cells_i] at hh
  have k : ∀ i, i < 2 → xs[i]?.isSome = true := fun i hi => by simp [hn, hi]
  obtain ⟨n0, rfl, -⟩ := Lk.one_int Try.underlying3 (k 0 (by decide)) (hh 0 (by decide))
  obtain ⟨n1, rfl, -⟩ := Lk.one_int Try.underlying3 (k 1 (by decide)) (hh 1 (by decide))
  exact ⟨(n0, n1), rfl⟩
theorem open_prs (hv : Value.okWide Try.prog W .any base 22 v) (h : DataW.Trod enc Try.prog W 0 (fun _ => true) true 22 v d ps) :
    ∃ A L c, v = .slice A L.length c ∧ Prs W A L := by
  obtain ⟨A, L, c, e, _, hr, _⟩ := Lk.open_rows (fun p : Int × Int => (pc p.1 p.2).toList) (fun _ => True) (0, 0) Try.underlying22 cells_p (by decide) (fun _ => rfl) (fun h => by
    obtain ⟨p, e⟩ := p_cells h
    exact ⟨p, e, trivial⟩) hv h
  exact ⟨A, L, c, e, hr⟩
theorem open_bools (hv : Value.okWide Try.prog W .any base 23 v) (h : DataW.Trod enc Try.prog W 0 (fun _ => true) true 23 v d ps) :
    ∃ A L c, v = .slice A L.length c ∧ Bls W A L := by
  obtain ⟨A, L, c, e, _, hr, _⟩ := Lk.open_rows (fun b : Bool => [Value.bool b]) (fun _ => True) false Try.underlying23 cells_b (by decide) (fun _ => rfl) (fun h => by
    obtain ⟨b, e, _⟩ := DataW.trod_bool Try.underlying4 h
    exact ⟨b, e, trivial⟩) hv h
  refine ⟨A, L, c, e, fun i b hi => ?_⟩
  obtain ⟨g, o, e2, hg, h3⟩ := hr i b hi
  refine ⟨g, o, e2, hg, ?_⟩
  have := h3 0 _ rfl
  simpa using this
end
end Ow
end Go.Proofs.Ytdfihcbmojggoaa
