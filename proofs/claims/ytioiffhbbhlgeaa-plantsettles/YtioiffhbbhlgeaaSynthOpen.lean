/- An engine, and an array of five, that came in as arguments, opened. -/
import Derived.Test.YtioiffhbbhlgeaaSynthIn
import Derived.Test.YtioiffhbbhlgeaaTabOpen
import Derived.OpenShut
import Derived.Deep.Slices
namespace Go.Proofs.Ytioiffhbbhlgeaa
namespace Ew
open Go.RowKit Go.WideShapes Go.ChangeShapes Go.ChangeAt Go.Joins TabC

theorem cells_e : Try.prog.cellsOf 26 = 16 := by kernel_rfl

theorem cells_t : Try.prog.cellsOf 24 = 2 := by kernel_rfl
theorem cells_i : Try.prog.cellsOf 3 = 1 := by kernel_rfl
theorem cells_s : Try.prog.cellsOf 22 = 1 := by kernel_rfl

section

variable {H : Type} {enc : TypeId × Value → H} {W : World}
theorem one_int {f : Nat} {v : Value} {x : Option (DataW H × List MemPlace)} (hx : x.isSome = true) (h : DataW.trod enc Try.prog W 0 (fun _ => true) true f 3 [v] = x) : ∃ n, v = .int .i64 n := by
  obtain ⟨y, rfl⟩ := Option.isSome_iff_exists.1 hx
  obtain ⟨n, e, _⟩ := DataW.trod_int Try.underlying3 h
  exact ⟨n, by simpa using e⟩
theorem one_tab {f : Nat} {a b : Value} {x : Option (DataW H × List MemPlace)} (hx : x.isSome = true) (h : DataW.trod enc Try.prog W 0 (fun _ => true) true f 24 [a, b] = x) : ∃ t : Tv, (a = .slice t.A t.xs.length t.ca ∧ b = .slice t.B t.ys.length t.cb) ∧ TabIn W t.A t.B t.xs t.ys := by
  obtain ⟨y, rfl⟩ := Option.isSome_iff_exists.1 hx
  obtain ⟨xs, n, _, _, _, hn, hh⟩ := DataW.trod_struct Try.underlying24 h
  have k : ∀ i, i < 2 → xs[i]?.isSome = true := fun i hi => by simp [hn, hi]
  have h0 : DataW.trod enc Try.prog W 0 (fun _ => true) true n 22 (([a, b].drop 0).take (Try.prog.cellsOf 22)) = xs[0]? := hh 0 _ rfl
  have h1 : DataW.trod enc Try.prog W 0 (fun _ => true) true n 22 (([a, b].drop 1).take (Try.prog.cellsOf 22)) = xs[1]? := hh 1 _ rfl
  rw [cells_s] at h0 h1
  obtain ⟨y0, e0⟩ := Option.isSome_iff_exists.1 (k 0 (by decide))
  obtain ⟨y1, e1⟩ := Option.isSome_iff_exists.1 (k 1 (by decide))
  obtain ⟨A0, l0, cx, r0, _, m0, hX⟩ := open_ints_cell Try.underlying22 Try.underlying3 cells_i (h0.trans e0)
  obtain ⟨A1, l1, cy, r1, _, m1, hY⟩ := open_ints_cell Try.underlying22 Try.underlying3 cells_i (h1.trans e1)
  unfold maxLen at m0 m1
  exact ⟨⟨A0, A1, cx, cy, l0, l1⟩, ⟨r0, r1⟩, ⟨by show l0.length ≤ _; omega, by show l1.length ≤ _; omega, hX, hY⟩⟩

theorem list16 {α : Type} {l : List α} (h : l.length = 16) : ∃ c0 c1 c2 c3 c4 c5 c6 c7 c8 c9 c10 c11 c12 c13 c14 c15, l = [c0, c1, c2, c3, c4, c5, c6, c7, c8, c9, c10, c11, c12, c13, c14, c15] := by
  match l, h with
  | [c0, c1, c2, c3, c4, c5, c6, c7, c8, c9, c10, c11, c12, c13, c14, c15], _ => exact ⟨c0, c1, c2, c3, c4, c5, c6, c7, c8, c9, c10, c11, c12, c13, c14, c15, rfl⟩

/-- Sixteen cells that read as an engine. -/
theorem e_cells {f : Nat} {cs : List Value} {x : DataW H × List MemPlace} (h : DataW.trod enc Try.prog W 0 (fun _ => true) true f 26 cs = some x) : ∃ e : Eg, cs = (ec e).toList ∧ EngIn W e := by
  obtain ⟨xs, n, _, _, hl, hn, hh⟩ := DataW.trod_struct Try.underlying26 h
  rw [cells_e] at hl
  obtain ⟨c0, c1, c2, c3, c4, c5, c6, c7, c8, c9, c10, c11, c12, c13, c14, c15, rfl⟩ := list16 hl
  have k : ∀ i, i < 12 → xs[i]?.isSome = true := fun i hi => by simp [hn, hi]
  have h0 : DataW.trod enc Try.prog W 0 (fun _ => true) true n 24 (([c0, c1, c2, c3, c4, c5, c6, c7, c8, c9, c10, c11, c12, c13, c14, c15].drop 0).take (Try.prog.cellsOf 24)) = xs[0]? := hh 0 _ rfl
  have h1 : DataW.trod enc Try.prog W 0 (fun _ => true) true n 24 (([c0, c1, c2, c3, c4, c5, c6, c7, c8, c9, c10, c11, c12, c13, c14, c15].drop 2).take (Try.prog.cellsOf 24)) = xs[1]? := hh 1 _ rfl
  have h2 : DataW.trod enc Try.prog W 0 (fun _ => true) true n 24 (([c0, c1, c2, c3, c4, c5, c6, c7, c8, c9, c10, c11, c12, c13, c14, c15].drop 4).take (Try.prog.cellsOf 24)) = xs[2]? := hh 2 _ rfl
  have h3 : DataW.trod enc Try.prog W 0 (fun _ => true) true n 24 (([c0, c1, c2, c3, c4, c5, c6, c7, c8, c9, c10, c11, c12, c13, c14, c15].drop 6).take (Try.prog.cellsOf 24)) = xs[3]? := hh 3 _ rfl
  have h4 : DataW.trod enc Try.prog W 0 (fun _ => true) true n 3 (([c0, c1, c2, c3, c4, c5, c6, c7, c8, c9, c10, c11, c12, c13, c14, c15].drop 8).take (Try.prog.cellsOf 3)) = xs[4]? := hh 4 _ rfl
  have h5 : DataW.trod enc Try.prog W 0 (fun _ => true) true n 3 (([c0, c1, c2, c3, c4, c5, c6, c7, c8, c9, c10, c11, c12, c13, c14, c15].drop 9).take (Try.prog.cellsOf 3)) = xs[5]? := hh 5 _ rfl
  have h6 : DataW.trod enc Try.prog W 0 (fun _ => true) true n 3 (([c0, c1, c2, c3, c4, c5, c6, c7, c8, c9, c10, c11, c12, c13, c14, c15].drop 10).take (Try.prog.cellsOf 3)) = xs[6]? := hh 6 _ rfl
  have h7 : DataW.trod enc Try.prog W 0 (fun _ => true) true n 3 (([c0, c1, c2, c3, c4, c5, c6, c7, c8, c9, c10, c11, c12, c13, c14, c15].drop 11).take (Try.prog.cellsOf 3)) = xs[7]? := hh 7 _ rfl
  have h8 : DataW.trod enc Try.prog W 0 (fun _ => true) true n 3 (([c0, c1, c2, c3, c4, c5, c6, c7, c8, c9, c10, c11, c12, c13, c14, c15].drop 12).take (Try.prog.cellsOf 3)) = xs[8]? := hh 8 _ rfl
  have h9 : DataW.trod enc Try.prog W 0 (fun _ => true) true n 3 (([c0, c1, c2, c3, c4, c5, c6, c7, c8, c9, c10, c11, c12, c13, c14, c15].drop 13).take (Try.prog.cellsOf 3)) = xs[9]? := hh 9 _ rfl
  have h10 : DataW.trod enc Try.prog W 0 (fun _ => true) true n 3 (([c0, c1, c2, c3, c4, c5, c6, c7, c8, c9, c10, c11, c12, c13, c14, c15].drop 14).take (Try.prog.cellsOf 3)) = xs[10]? := hh 10 _ rfl
  have h11 : DataW.trod enc Try.prog W 0 (fun _ => true) true n 3 (([c0, c1, c2, c3, c4, c5, c6, c7, c8, c9, c10, c11, c12, c13, c14, c15].drop 15).take (Try.prog.cellsOf 3)) = xs[11]? := hh 11 _ rfl
  rw [cells_t] at h0 h1 h2 h3
  rw [cells_i] at h4 h5 h6 h7 h8 h9 h10 h11
  obtain ⟨t0, ⟨rfl, rfl⟩, g0⟩ := one_tab (k 0 (by decide)) h0
  obtain ⟨t1, ⟨rfl, rfl⟩, g1⟩ := one_tab (k 1 (by decide)) h1
  obtain ⟨t2, ⟨rfl, rfl⟩, g2⟩ := one_tab (k 2 (by decide)) h2
  obtain ⟨t3, ⟨rfl, rfl⟩, g3⟩ := one_tab (k 3 (by decide)) h3
  obtain ⟨n4, rfl⟩ := one_int (k 4 (by decide)) h4
  obtain ⟨n5, rfl⟩ := one_int (k 5 (by decide)) h5
  obtain ⟨n6, rfl⟩ := one_int (k 6 (by decide)) h6
  obtain ⟨n7, rfl⟩ := one_int (k 7 (by decide)) h7
  obtain ⟨n8, rfl⟩ := one_int (k 8 (by decide)) h8
  obtain ⟨n9, rfl⟩ := one_int (k 9 (by decide)) h9
  obtain ⟨n10, rfl⟩ := one_int (k 10 (by decide)) h10
  obtain ⟨n11, rfl⟩ := one_int (k 11 (by decide)) h11
  exact ⟨⟨t0, t1, t2, t3, n4, n5, n6, n7, n8, n9, n10, n11⟩, rfl, ⟨g0, g1, g2, g3⟩⟩

end

theorem open_e {H : Type} {enc : TypeId × Value → H} {W : World} {base : Nat} {v : Value} {d : DataW H} {ps : List MemPlace} (hv : Value.okWide Try.prog W .any base 26 v) (h : DataW.Trod enc Try.prog W 0 (fun _ => true) true 26 v d ps) :
    ∃ e : Eg, v = .agg (ec e) ∧ EngIn W e := by
  obtain ⟨cs, rfl, hsz⟩ := okWide_struct Try.underlying26 hv
  obtain ⟨fuel, hf⟩ := h
  obtain ⟨e, hp, hE⟩ := e_cells hf
  refine ⟨e, ?_, hE⟩
  have : cs.toList = (ec e).toList := by simpa [Value.cells] using hp
  rw [Array.toList_inj.1 this]

theorem okWide_arr {P : Program} {w : World} {r : Reach} {base : Nat} {t : TypeId} {v : Value} {n : Nat} {e : TypeId} (ht : P.underlying t = some (.array n e)) (h : Value.okWide P w r base t v) : ∃ cs, v = .agg cs ∧ cs.size = P.cellsOf t := by
  simp only [Value.okWide, ht] at h
  obtain ⟨cs, h1, h2, _⟩ := h
  exact ⟨cs, h1, h2⟩
theorem list5 {α : Type} {l : List α} (h : l.length = 5) : ∃ a b c d e, l = [a, b, c, d, e] := by
  match l, h with
  | [a, b, c, d, e], _ => exact ⟨a, b, c, d, e, rfl⟩

end Ew
end Go.Proofs.Ytioiffhbbhlgeaa
