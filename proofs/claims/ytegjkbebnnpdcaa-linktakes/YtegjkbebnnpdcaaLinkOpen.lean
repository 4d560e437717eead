/- A packet that came in as an argument, opened. -/
import Derived.Test.YtegjkbebnnpdcaaLinkCheck
import Derived.OpenShut
namespace Go.Proofs.Ytegjkbebnnpdcaa
namespace Lw
open Go.RowKit Go.WideShapes Go.ChangeShapes Go.ChangeAt

theorem cells_pk : Try.prog.cellsOf 26 = 14 := by kernel_rfl
theorem cells_i : Try.prog.cellsOf 3 = 1 := by kernel_rfl
theorem cells_b : Try.prog.cellsOf 4 = 1 := by kernel_rfl
theorem cells_vs : Try.prog.cellsOf 23 = 5 := by kernel_rfl
theorem cells_gs : Try.prog.cellsOf 24 = 5 := by kernel_rfl

section
variable {H : Type} {enc : TypeId × Value → H} {W : World} {sp : Nat → Bool} {held : Bool} {b0 : Nat}
theorem one_int {f : Nat} {v : Value} {x : Option (DataW H × List MemPlace)} (hx : x.isSome = true) (h : DataW.trod enc Try.prog W b0 sp held f 3 [v] = x) : ∃ n, v = .int .i64 n := by
  obtain ⟨y, rfl⟩ := Option.isSome_iff_exists.1 hx
  obtain ⟨n, e, _⟩ := DataW.trod_int Try.underlying3 h
  exact ⟨n, by simpa using e⟩
theorem one_bool {f : Nat} {v : Value} {x : Option (DataW H × List MemPlace)} (hx : x.isSome = true) (h : DataW.trod enc Try.prog W b0 sp held f 4 [v] = x) : ∃ n, v = .bool n := by
  obtain ⟨y, rfl⟩ := Option.isSome_iff_exists.1 hx
  obtain ⟨n, e, _⟩ := DataW.trod_bool Try.underlying4 h
  exact ⟨n, by simpa using e⟩
theorem five_int {f : Nat} {a b c d e : Value} {x : Option (DataW H × List MemPlace)} (hx : x.isSome = true) (h : DataW.trod enc Try.prog W b0 sp held f 23 [a, b, c, d, e] = x) : ∃ n1 n2 n3 n4 n5, a = .int .i64 n1 ∧ b = .int .i64 n2 ∧ c = .int .i64 n3 ∧ d = .int .i64 n4 ∧ e = .int .i64 n5 := by
  obtain ⟨y, rfl⟩ := Option.isSome_iff_exists.1 hx
  obtain ⟨xs, m, _, _, _, hl, hh⟩ := DataW.trod_array Try.underlying23 h
  rw [cells_i] at hh
  have k : ∀ i, i < 5 → xs[i]?.isSome = true := fun i hi => by simp [hl, hi]
  obtain ⟨n1, rfl⟩ := one_int (k 0 (by decide)) (hh 0 (by decide))
  obtain ⟨n2, rfl⟩ := one_int (k 1 (by decide)) (hh 1 (by decide))
  obtain ⟨n3, rfl⟩ := one_int (k 2 (by decide)) (hh 2 (by decide))
  obtain ⟨n4, rfl⟩ := one_int (k 3 (by decide)) (hh 3 (by decide))
  obtain ⟨n5, rfl⟩ := one_int (k 4 (by decide)) (hh 4 (by decide))
  exact ⟨n1, n2, n3, n4, n5, rfl, rfl, rfl, rfl, rfl⟩
theorem five_bool {f : Nat} {a b c d e : Value} {x : Option (DataW H × List MemPlace)} (hx : x.isSome = true) (h : DataW.trod enc Try.prog W b0 sp held f 24 [a, b, c, d, e] = x) : ∃ n1 n2 n3 n4 n5, a = .bool n1 ∧ b = .bool n2 ∧ c = .bool n3 ∧ d = .bool n4 ∧ e = .bool n5 := by
  obtain ⟨y, rfl⟩ := Option.isSome_iff_exists.1 hx
  obtain ⟨xs, m, _, _, _, hl, hh⟩ := DataW.trod_array Try.underlying24 h
  rw [cells_b] at hh
  have k : ∀ i, i < 5 → xs[i]?.isSome = true := fun i hi => by simp [hl, hi]
  obtain ⟨n1, rfl⟩ := one_bool (k 0 (by decide)) (hh 0 (by decide))
  obtain ⟨n2, rfl⟩ := one_bool (k 1 (by decide)) (hh 1 (by decide))
  obtain ⟨n3, rfl⟩ := one_bool (k 2 (by decide)) (hh 2 (by decide))
  obtain ⟨n4, rfl⟩ := one_bool (k 3 (by decide)) (hh 3 (by decide))
  obtain ⟨n5, rfl⟩ := one_bool (k 4 (by decide)) (hh 4 (by decide))
  exact ⟨n1, n2, n3, n4, n5, rfl, rfl, rfl, rfl, rfl⟩
theorem list14 {α : Type} {l : List α} (h : l.length = 14) : ∃ a b c d e f g h i j k m n o, l = [a, b, c, d, e, f, g, h, i, j, k, m, n, o] := by
  match l, h with
  | [a, b, c, d, e, f, g, h, i, j, k, m, n, o], _ => exact ⟨a, b, c, d, e, f, g, h, i, j, k, m, n, o, rfl⟩
/-- Fourteen cells that read as a packet. -/
theorem pk_cells {f : Nat} {cs : List Value} {x : DataW H × List MemPlace} (h : DataW.trod enc Try.prog W b0 sp held f 26 cs = some x) : ∃ p : Ln.Pk, cs = (pc p).toList := by
  obtain ⟨xs, n, _, _, hl, hn, hh⟩ := DataW.trod_struct Try.underlying26 h
  rw [cells_pk] at hl
  obtain ⟨c0, c1, c2, c3, c4, c5, c6, c7, c8, c9, c10, c11, c12, c13, rfl⟩ := list14 hl
  have k : ∀ i, i < 6 → xs[i]?.isSome = true := fun i hi => by simp [hn, hi]
  have h0 : DataW.trod enc Try.prog W b0 sp held n 3 (([c0, c1, c2, c3, c4, c5, c6, c7, c8, c9, c10, c11, c12, c13].drop 0).take (Try.prog.cellsOf 3)) = xs[0]? := hh 0 _ rfl
  have h1 : DataW.trod enc Try.prog W b0 sp held n 3 (([c0, c1, c2, c3, c4, c5, c6, c7, c8, c9, c10, c11, c12, c13].drop 1).take (Try.prog.cellsOf 3)) = xs[1]? := hh 1 _ rfl
  have h2 : DataW.trod enc Try.prog W b0 sp held n 23 (([c0, c1, c2, c3, c4, c5, c6, c7, c8, c9, c10, c11, c12, c13].drop 2).take (Try.prog.cellsOf 23)) = xs[2]? := hh 2 _ rfl
  have h3 : DataW.trod enc Try.prog W b0 sp held n 24 (([c0, c1, c2, c3, c4, c5, c6, c7, c8, c9, c10, c11, c12, c13].drop 7).take (Try.prog.cellsOf 24)) = xs[3]? := hh 3 _ rfl
  have h4 : DataW.trod enc Try.prog W b0 sp held n 3 (([c0, c1, c2, c3, c4, c5, c6, c7, c8, c9, c10, c11, c12, c13].drop 12).take (Try.prog.cellsOf 3)) = xs[4]? := hh 4 _ rfl
  have h5 : DataW.trod enc Try.prog W b0 sp held n 3 (([c0, c1, c2, c3, c4, c5, c6, c7, c8, c9, c10, c11, c12, c13].drop 13).take (Try.prog.cellsOf 3)) = xs[5]? := hh 5 _ rfl
  rw [cells_i] at h0 h1 h4 h5
  rw [cells_vs] at h2
  rw [cells_gs] at h3
  obtain ⟨n0, rfl⟩ := one_int (k 0 (by decide)) h0
  obtain ⟨n1, rfl⟩ := one_int (k 1 (by decide)) h1
  obtain ⟨v1, v2, v3, v4, v5, rfl, rfl, rfl, rfl, rfl⟩ := five_int (k 2 (by decide)) h2
  obtain ⟨g1, g2, g3, g4, g5, rfl, rfl, rfl, rfl, rfl⟩ := five_bool (k 3 (by decide)) h3
  obtain ⟨n2, rfl⟩ := one_int (k 4 (by decide)) h4
  obtain ⟨n3, rfl⟩ := one_int (k 5 (by decide)) h5
  exact ⟨⟨n0, n1, v1, v2, v3, v4, v5, g1, g2, g3, g4, g5, n2, n3⟩, rfl⟩
end
theorem open_pk {H : Type} {enc : TypeId × Value → H} {W : World} {base : Nat} {v : Value} {d : DataW H} {ps : List MemPlace} (hv : Value.okWide Try.prog W .any base 26 v) (h : DataW.Trod enc Try.prog W 0 (fun _ => true) true 26 v d ps) :
    ∃ p : Ln.Pk, v = .agg (pc p) := by
  obtain ⟨cs, rfl, hsz⟩ := okWide_struct Try.underlying26 hv
  obtain ⟨fuel, hf⟩ := h
  obtain ⟨p, hp⟩ := pk_cells hf
  refine ⟨p, ?_⟩
  have : cs.toList = (pc p).toList := by simpa [Value.cells] using hp
  rw [Array.toList_inj.1 this]
end Lw
end Go.Proofs.Ytegjkbebnnpdcaa
