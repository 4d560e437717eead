/- A scale that came in as an argument, opened. -/
import Derived.Test.YtildceoakohhmaaSensorCount
import Derived.OpenShut
namespace Go.Proofs.Ytildceoakohhmaa
namespace Sw
open Go.RowKit Go.WideShapes Go.ChangeShapes Go.ChangeAt

theorem cells_sc : Try.prog.cellsOf 24 = 4 := by kernel_rfl
theorem cells_i : Try.prog.cellsOf 3 = 1 := by kernel_rfl

section
variable {H : Type} {enc : TypeId × Value → H} {W : World} {sp : Nat → Bool} {held : Bool} {b0 : Nat}
theorem one_int {f : Nat} {v : Value} {x : Option (DataW H × List MemPlace)} (hx : x.isSome = true) (h : DataW.trod enc Try.prog W b0 sp held f 3 [v] = x) : ∃ n, v = .int .i64 n := by
  obtain ⟨y, rfl⟩ := Option.isSome_iff_exists.1 hx
  obtain ⟨n, e, _⟩ := DataW.trod_int Try.underlying3 h
  exact ⟨n, by simpa using e⟩
theorem list4 {α : Type} {l : List α} (h : l.length = 4) : ∃ a b c d, l = [a, b, c, d] := by
  match l, h with
  | [a, b, c, d], _ => exact ⟨a, b, c, d, rfl⟩
/-- Four cells that read as a scale. -/
theorem sc_cells {f : Nat} {cs : List Value} {x : DataW H × List MemPlace} (h : DataW.trod enc Try.prog W b0 sp held f 24 cs = some x) : ∃ g o l u, cs = (sc g o l u).toList := by
  obtain ⟨xs, n, _, _, hl, hn, hh⟩ := DataW.trod_struct Try.underlying24 h
  rw [cells_sc] at hl
  obtain ⟨c0, c1, c2, c3, rfl⟩ := list4 hl
  have k : ∀ i, i < 4 → xs[i]?.isSome = true := fun i hi => by simp [hn, hi]
  have h0 : DataW.trod enc Try.prog W b0 sp held n 3 (([c0, c1, c2, c3].drop 0).take (Try.prog.cellsOf 3)) = xs[0]? := hh 0 _ rfl
  have h1 : DataW.trod enc Try.prog W b0 sp held n 3 (([c0, c1, c2, c3].drop 1).take (Try.prog.cellsOf 3)) = xs[1]? := hh 1 _ rfl
  have h2 : DataW.trod enc Try.prog W b0 sp held n 3 (([c0, c1, c2, c3].drop 2).take (Try.prog.cellsOf 3)) = xs[2]? := hh 2 _ rfl
  have h3 : DataW.trod enc Try.prog W b0 sp held n 3 (([c0, c1, c2, c3].drop 3).take (Try.prog.cellsOf 3)) = xs[3]? := hh 3 _ rfl
  rw [cells_i] at h0 h1 h2 h3
  obtain ⟨n0, rfl⟩ := one_int (k 0 (by decide)) h0
  obtain ⟨n1, rfl⟩ := one_int (k 1 (by decide)) h1
  obtain ⟨n2, rfl⟩ := one_int (k 2 (by decide)) h2
  obtain ⟨n3, rfl⟩ := one_int (k 3 (by decide)) h3
  exact ⟨n0, n1, n2, n3, rfl⟩
end
theorem open_sc {H : Type} {enc : TypeId × Value → H} {W : World} {base : Nat} {v : Value} {d : DataW H} {ps : List MemPlace} (hv : Value.okWide Try.prog W .any base 24 v) (h : DataW.Trod enc Try.prog W 0 (fun _ => true) true 24 v d ps) :
    ∃ g o l u, v = .agg (sc g o l u) := by
  obtain ⟨cs, rfl, hsz⟩ := okWide_struct Try.underlying24 hv
  obtain ⟨fuel, hf⟩ := h
  obtain ⟨g, o, l, u, hp⟩ := sc_cells hf
  refine ⟨g, o, l, u, ?_⟩
  have : cs.toList = (sc g o l u).toList := by simpa [Value.cells] using hp
  rw [Array.toList_inj.1 this]
end Sw
end Go.Proofs.Ytildceoakohhmaa
