/- Arrays of five that came in as arguments, opened. -/
import Derived.Test.YtcbnfpnlkjkgaaaPickFive
import Derived.OpenShut
namespace Go.Proofs.Ytcbnfpnlkjkgaaa
namespace Pw
open Go.RowKit Go.WideShapes Go.ChangeShapes Go.ChangeAt

theorem cells_i : Try.prog.cellsOf 3 = 1 := by kernel_rfl
theorem cells_b : Try.prog.cellsOf 4 = 1 := by kernel_rfl
theorem cells_vs : Try.prog.cellsOf 26 = 5 := by kernel_rfl
theorem cells_gs : Try.prog.cellsOf 27 = 5 := by kernel_rfl
theorem okWide_arr {P : Program} {w : World} {r : Reach} {base : Nat} {t : TypeId} {v : Value} {n : Nat} {e : TypeId} (ht : P.underlying t = some (.array n e)) (h : Value.okWide P w r base t v) : ∃ cs, v = .agg cs ∧ cs.size = P.cellsOf t := by
  simp only [Value.okWide, ht] at h
  obtain ⟨cs, h1, h2, _⟩ := h
  exact ⟨cs, h1, h2⟩
theorem list5 {α : Type} {l : List α} (h : l.length = 5) : ∃ a b c d e, l = [a, b, c, d, e] := by
  match l, h with
  | [a, b, c, d, e], _ => exact ⟨a, b, c, d, e, rfl⟩

section
variable {H : Type} {enc : TypeId × Value → H} {W : World} {sp : Nat → Bool} {held : Bool} {b0 : Nat}
theorem one_int {f : Nat} {v : Value} {x : Option (DataW H × List MemPlace)} (hx : x.isSome = true) (h : DataW.trod enc Try.prog W b0 sp held f 3 [v] = x) : ∃ n, v = .int .i64 n := by
  obtain ⟨y, rfl⟩ := Option.isSome_iff_exists.1 hx
  obtain ⟨n, e, _⟩ := DataW.trod_int Try.underlying3 h
  exact ⟨n, by simpa using e⟩
theorem one_bool {f : Nat} {v : Value} {x : Option (DataW H × List MemPlace)} (hx : x.isSome = true) (h : DataW.trod enc Try.prog W b0 sp held f 4 [v] = x) : ∃ n, v = .bool n := by
  obtain ⟨y, rfl⟩ := Option.isSome_iff_exists.1 hx
  obtain ⟨n, e, _⟩ := DataW.trod_bool Try.underlying4 h
  exact ⟨n, by simpa using e⟩
theorem cells_five {f : Nat} {cs : List Value} {x : DataW H × List MemPlace} (h : DataW.trod enc Try.prog W b0 sp held f 26 cs = some x) : ∃ g : Nat → Int, cs = (i5 g).toList := by
  obtain ⟨xs, m, _, _, hc, hl, hh⟩ := DataW.trod_array Try.underlying26 h
  rw [cells_vs] at hc
  obtain ⟨a, b, c, d, e, rfl⟩ := list5 hc
  rw [cells_i] at hh
  have k : ∀ i, i < 5 → xs[i]?.isSome = true := fun i hi => by simp [hl, hi]
  obtain ⟨n0, rfl⟩ := one_int (k 0 (by decide)) (hh 0 (by decide))
  obtain ⟨n1, rfl⟩ := one_int (k 1 (by decide)) (hh 1 (by decide))
  obtain ⟨n2, rfl⟩ := one_int (k 2 (by decide)) (hh 2 (by decide))
  obtain ⟨n3, rfl⟩ := one_int (k 3 (by decide)) (hh 3 (by decide))
  obtain ⟨n4, rfl⟩ := one_int (k 4 (by decide)) (hh 4 (by decide))
  exact ⟨fun i => [n0, n1, n2, n3, n4].getD i 0, rfl⟩
theorem cells_fiveb {f : Nat} {cs : List Value} {x : DataW H × List MemPlace} (h : DataW.trod enc Try.prog W b0 sp held f 27 cs = some x) : ∃ g : Nat → Bool, cs = (g5 g).toList := by
  obtain ⟨xs, m, _, _, hc, hl, hh⟩ := DataW.trod_array Try.underlying27 h
  rw [cells_gs] at hc
  obtain ⟨a, b, c, d, e, rfl⟩ := list5 hc
  rw [cells_b] at hh
  have k : ∀ i, i < 5 → xs[i]?.isSome = true := fun i hi => by simp [hl, hi]
  obtain ⟨n0, rfl⟩ := one_bool (k 0 (by decide)) (hh 0 (by decide))
  obtain ⟨n1, rfl⟩ := one_bool (k 1 (by decide)) (hh 1 (by decide))
  obtain ⟨n2, rfl⟩ := one_bool (k 2 (by decide)) (hh 2 (by decide))
  obtain ⟨n3, rfl⟩ := one_bool (k 3 (by decide)) (hh 3 (by decide))
  obtain ⟨n4, rfl⟩ := one_bool (k 4 (by decide)) (hh 4 (by decide))
  exact ⟨fun i => [n0, n1, n2, n3, n4].getD i false, rfl⟩
end
theorem open_i5 {H : Type} {enc : TypeId × Value → H} {W : World} {base : Nat} {v : Value} {d : DataW H} {ps : List MemPlace} (hv : Value.okWide Try.prog W .any base 26 v) (h : DataW.Trod enc Try.prog W 0 (fun _ => true) true 26 v d ps) :
    ∃ g : Nat → Int, v = .agg (i5 g) := by
  obtain ⟨cs, rfl, hsz⟩ := okWide_arr Try.underlying26 hv
  obtain ⟨fuel, hf⟩ := h
  obtain ⟨p, hp⟩ := cells_five hf
  refine ⟨p, ?_⟩
  have : cs.toList = (i5 p).toList := by simpa [Value.cells] using hp
  rw [Array.toList_inj.1 this]
theorem open_g5 {H : Type} {enc : TypeId × Value → H} {W : World} {base : Nat} {v : Value} {d : DataW H} {ps : List MemPlace} (hv : Value.okWide Try.prog W .any base 27 v) (h : DataW.Trod enc Try.prog W 0 (fun _ => true) true 27 v d ps) :
    ∃ g : Nat → Bool, v = .agg (g5 g) := by
  obtain ⟨cs, rfl, hsz⟩ := okWide_arr Try.underlying27 hv
  obtain ⟨fuel, hf⟩ := h
  obtain ⟨p, hp⟩ := cells_fiveb hf
  refine ⟨p, ?_⟩
  have : cs.toList = (g5 p).toList := by simpa [Value.cells] using hp
  rw [Array.toList_inj.1 this]
end Pw
end Go.Proofs.Ytcbnfpnlkjkgaaa
