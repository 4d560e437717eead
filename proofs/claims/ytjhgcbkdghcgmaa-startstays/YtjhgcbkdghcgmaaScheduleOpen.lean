/- Laws that came in as arguments, opened. -/
import Derived.Test.YtjhgcbkdghcgmaaScheduleIn
import Derived.Test.YtjhgcbkdghcgmaaSynthOpen
namespace Go.Proofs.Ytjhgcbkdghcgmaa
namespace Hw
open Go.RowKit Go.WideShapes Go.ChangeShapes Go.ChangeAt Go.Joins TabC Ew

theorem cells_l : Try.prog.cellsOf 28 = 12 := by kernel_rfl
section
variable {H : Type} {enc : TypeId × Value → H} {W : World}
theorem list12 {α : Type} {l : List α} (h : l.length = 12) : ∃ c0 c1 c2 c3 c4 c5 c6 c7 c8 c9 c10 c11, l = [c0, c1, c2, c3, c4, c5, c6, c7, c8, c9, c10, c11] := by
  match l, h with
  | [c0, c1, c2, c3, c4, c5, c6, c7, c8, c9, c10, c11], _ => exact ⟨c0, c1, c2, c3, c4, c5, c6, c7, c8, c9, c10, c11, rfl⟩
/-- Twelve cells that read as laws. -/
theorem l_cells {f : Nat} {cs : List Value} {x : DataW H × List MemPlace} (h : DataW.trod enc Try.prog W 0 (fun _ => true) true f 28 cs = some x) : ∃ l : Lg, cs = (lc l).toList ∧ LawIn W l := by
  obtain ⟨xs, n, _, _, hl, hn, hh⟩ := DataW.trod_struct Try.underlying28 h
  rw [cells_l] at hl
  obtain ⟨c0, c1, c2, c3, c4, c5, c6, c7, c8, c9, c10, c11, rfl⟩ := list12 hl
  have k : ∀ i, i < 9 → xs[i]?.isSome = true := fun i hi => by simp [hn, hi]
  have h0 : DataW.trod enc Try.prog W 0 (fun _ => true) true n 24 (([c0, c1, c2, c3, c4, c5, c6, c7, c8, c9, c10, c11].drop 0).take (Try.prog.cellsOf 24)) = xs[0]? := hh 0 _ rfl
  have h1 : DataW.trod enc Try.prog W 0 (fun _ => true) true n 24 (([c0, c1, c2, c3, c4, c5, c6, c7, c8, c9, c10, c11].drop 2).take (Try.prog.cellsOf 24)) = xs[1]? := hh 1 _ rfl
  have h2 : DataW.trod enc Try.prog W 0 (fun _ => true) true n 24 (([c0, c1, c2, c3, c4, c5, c6, c7, c8, c9, c10, c11].drop 4).take (Try.prog.cellsOf 24)) = xs[2]? := hh 2 _ rfl
  have h3 : DataW.trod enc Try.prog W 0 (fun _ => true) true n 3 (([c0, c1, c2, c3, c4, c5, c6, c7, c8, c9, c10, c11].drop 6).take (Try.prog.cellsOf 3)) = xs[3]? := hh 3 _ rfl
  have h4 : DataW.trod enc Try.prog W 0 (fun _ => true) true n 3 (([c0, c1, c2, c3, c4, c5, c6, c7, c8, c9, c10, c11].drop 7).take (Try.prog.cellsOf 3)) = xs[4]? := hh 4 _ rfl
  have h5 : DataW.trod enc Try.prog W 0 (fun _ => true) true n 3 (([c0, c1, c2, c3, c4, c5, c6, c7, c8, c9, c10, c11].drop 8).take (Try.prog.cellsOf 3)) = xs[5]? := hh 5 _ rfl
  have h6 : DataW.trod enc Try.prog W 0 (fun _ => true) true n 3 (([c0, c1, c2, c3, c4, c5, c6, c7, c8, c9, c10, c11].drop 9).take (Try.prog.cellsOf 3)) = xs[6]? := hh 6 _ rfl
  have h7 : DataW.trod enc Try.prog W 0 (fun _ => true) true n 3 (([c0, c1, c2, c3, c4, c5, c6, c7, c8, c9, c10, c11].drop 10).take (Try.prog.cellsOf 3)) = xs[7]? := hh 7 _ rfl
  have h8 : DataW.trod enc Try.prog W 0 (fun _ => true) true n 3 (([c0, c1, c2, c3, c4, c5, c6, c7, c8, c9, c10, c11].drop 11).take (Try.prog.cellsOf 3)) = xs[8]? := hh 8 _ rfl
  rw [cells_t] at h0 h1 h2
  rw [cells_i] at h3 h4 h5 h6 h7 h8
  obtain ⟨t0, ⟨rfl, rfl⟩, g0⟩ := one_tab (k 0 (by decide)) h0
  obtain ⟨t1, ⟨rfl, rfl⟩, g1⟩ := one_tab (k 1 (by decide)) h1
  obtain ⟨t2, ⟨rfl, rfl⟩, g2⟩ := one_tab (k 2 (by decide)) h2
  obtain ⟨n3, rfl⟩ := one_int (k 3 (by decide)) h3
  obtain ⟨n4, rfl⟩ := one_int (k 4 (by decide)) h4
  obtain ⟨n5, rfl⟩ := one_int (k 5 (by decide)) h5
  obtain ⟨n6, rfl⟩ := one_int (k 6 (by decide)) h6
  obtain ⟨n7, rfl⟩ := one_int (k 7 (by decide)) h7
  obtain ⟨n8, rfl⟩ := one_int (k 8 (by decide)) h8
  exact ⟨⟨t0, t1, t2, n3, n4, n5, n6, n7, n8⟩, rfl, ⟨g0, g1, g2⟩⟩
end
theorem open_l {H : Type} {enc : TypeId × Value → H} {W : World} {base : Nat} {v : Value} {d : DataW H} {ps : List MemPlace} (hv : Value.okWide Try.prog W .any base 28 v) (h : DataW.Trod enc Try.prog W 0 (fun _ => true) true 28 v d ps) :
    ∃ l : Lg, v = .agg (lc l) ∧ LawIn W l := by
  obtain ⟨cs, rfl, hsz⟩ := okWide_struct Try.underlying28 hv
  obtain ⟨fuel, hf⟩ := h
  obtain ⟨l, hp, hL⟩ := l_cells hf
  refine ⟨l, ?_, hL⟩
  have : cs.toList = (lc l).toList := by simpa [Value.cells] using hp
  rw [Array.toList_inj.1 this]

end Hw
end Go.Proofs.Ytjhgcbkdghcgmaa
