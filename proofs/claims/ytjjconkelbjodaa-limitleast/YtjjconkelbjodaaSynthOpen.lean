/- An engine, and an array of five, that came in as arguments, opened. -/
import Derived.Test.YtjjconkelbjodaaSynthIn
import Derived.Test.YtjjconkelbjodaaTabOpen
import Derived.OpenShut
import Derived.Deep.Slices
namespace Go.Proofs.Ytjjconkelbjodaa
namespace Ew
open Go.RowKit Go.WideShapes Go.ChangeShapes Go.ChangeAt Go.Joins TabC

theorem cells_t : Try.prog.cellsOf 27 = 2 := by kernel_rfl
theorem cells_i : Try.prog.cellsOf 3 = 1 := by kernel_rfl
theorem cells_s : Try.prog.cellsOf 25 = 1 := by kernel_rfl

section

variable {H : Type} {enc : TypeId × Value → H} {W : World}
theorem one_int {f : Nat} {v : Value} {x : Option (DataW H × List MemPlace)} (hx : x.isSome = true) (h : DataW.trod enc Try.prog W 0 (fun _ => true) true f 3 [v] = x) : ∃ n, v = .int .i64 n := by
  obtain ⟨y, rfl⟩ := Option.isSome_iff_exists.1 hx
  obtain ⟨n, e, _⟩ := DataW.trod_int Try.underlying3 h
  exact ⟨n, by simpa using e⟩
theorem one_tab {f : Nat} {a b : Value} {x : Option (DataW H × List MemPlace)} (hx : x.isSome = true) (h : DataW.trod enc Try.prog W 0 (fun _ => true) true f 27 [a, b] = x) : ∃ t : Tv, (a = .slice t.A t.xs.length t.ca ∧ b = .slice t.B t.ys.length t.cb) ∧ TabIn W t.A t.B t.xs t.ys := by
  obtain ⟨y, rfl⟩ := Option.isSome_iff_exists.1 hx
  obtain ⟨xs, n, _, _, _, hn, hh⟩ := DataW.trod_struct Try.underlying27 h
  have k : ∀ i, i < 2 → xs[i]?.isSome = true := fun i hi => by simp [hn, hi]
  have h0 : DataW.trod enc Try.prog W 0 (fun _ => true) true n 25 (([a, b].drop 0).take (Try.prog.cellsOf 25)) = xs[0]? := hh 0 _ rfl
  have h1 : DataW.trod enc Try.prog W 0 (fun _ => true) true n 25 (([a, b].drop 1).take (Try.prog.cellsOf 25)) = xs[1]? := hh 1 _ rfl
  rw [cells_s] at h0 h1
  obtain ⟨y0, e0⟩ := Option.isSome_iff_exists.1 (k 0 (by decide))
  obtain ⟨y1, e1⟩ := Option.isSome_iff_exists.1 (k 1 (by decide))
  obtain ⟨A0, l0, cx, r0, _, m0, hX⟩ := open_ints_cell Try.underlying25 Try.underlying3 cells_i (h0.trans e0)
  obtain ⟨A1, l1, cy, r1, _, m1, hY⟩ := open_ints_cell Try.underlying25 Try.underlying3 cells_i (h1.trans e1)
  unfold maxLen at m0 m1
  exact ⟨⟨A0, A1, cx, cy, l0, l1⟩, ⟨r0, r1⟩, ⟨by show l0.length ≤ _; omega, by show l1.length ≤ _; omega, hX, hY⟩⟩

theorem list16 {α : Type} {l : List α} (h : l.length = 16) : ∃ c0 c1 c2 c3 c4 c5 c6 c7 c8 c9 c10 c11 c12 c13 c14 c15, l = [c0, c1, c2, c3, c4, c5, c6, c7, c8, c9, c10, c11, c12, c13, c14, c15] := by
  match l, h with
  | [c0, c1, c2, c3, c4, c5, c6, c7, c8, c9, c10, c11, c12, c13, c14, c15], _ => exact ⟨c0, c1, c2, c3, c4, c5, c6, c7, c8, c9, c10, c11, c12, c13, c14, c15, rfl⟩

end

theorem okWide_arr {P : Program} {w : World} {r : Reach} {base : Nat} {t : TypeId} {v : Value} {n : Nat} {e : TypeId} (ht : P.underlying t = some (.array n e)) (h : Value.okWide P w r base t v) : ∃ cs, v = .agg cs ∧ cs.size = P.cellsOf t := by
  simp only [Value.okWide, ht] at h
  obtain ⟨cs, h1, h2, _⟩ := h
  exact ⟨cs, h1, h2⟩
theorem list5 {α : Type} {l : List α} (h : l.length = 5) : ∃ a b c d e, l = [a, b, c, d, e] := by
  match l, h with
  | [a, b, c, d, e], _ => exact ⟨a, b, c, d, e, rfl⟩

end Ew
end Go.Proofs.Ytjjconkelbjodaa
