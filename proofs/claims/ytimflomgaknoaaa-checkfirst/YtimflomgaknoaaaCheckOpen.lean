/- Limits and watches that came in as arguments, opened. -/
import Derived.Test.YtimflomgaknoaaaCheckCalls
import Derived.OpenShut
import Derived.Deep.Slices
namespace Go.Proofs.Ytimflomgaknoaaa
namespace Cw
open Go.RowKit Go.WideShapes Go.ChangeShapes Go.ChangeAt Ck

theorem cells_lc : Try.prog.cellsOf 23 = 6 := by kernel_rfl
theorem cells_wc : Try.prog.cellsOf 25 = 6 := by kernel_rfl
theorem cells_i : Try.prog.cellsOf 3 = 1 := by kernel_rfl
theorem cells_b : Try.prog.cellsOf 4 = 1 := by kernel_rfl

section
variable {H : Type} {enc : TypeId × Value → H} {W : World} {sp : Nat → Bool} {held : Bool} {b0 : Nat}
theorem one_int {f : Nat} {v : Value} {x : Option (DataW H × List MemPlace)} (hx : x.isSome = true) (h : DataW.trod enc Try.prog W b0 sp held f 3 [v] = x) : ∃ n, v = .int .i64 n := by
  obtain ⟨y, rfl⟩ := Option.isSome_iff_exists.1 hx
  obtain ⟨n, e, _⟩ := DataW.trod_int Try.underlying3 h
  exact ⟨n, by simpa using e⟩
theorem one_bool {f : Nat} {v : Value} {x : Option (DataW H × List MemPlace)} (hx : x.isSome = true) (h : DataW.trod enc Try.prog W b0 sp held f 4 [v] = x) : ∃ n, v = .bool n := by
  obtain ⟨y, rfl⟩ := Option.isSome_iff_exists.1 hx
  obtain ⟨n, e, _⟩ := DataW.trod_bool Try.underlying4 h
  exact ⟨n, by simpa using e⟩
theorem list6 {α : Type} {l : List α} (h : l.length = 6) : ∃ a b c d e f, l = [a, b, c, d, e, f] := by
  match l, h with
  | [a, b, c, d, e, f], _ => exact ⟨a, b, c, d, e, f, rfl⟩
/-- Six cells that read as a limit. -/
theorem lc_cells {f : Nat} {cs : List Value} {x : DataW H × List MemPlace} (h : DataW.trod enc Try.prog W b0 sp held f 23 cs = some x) : ∃ l : Lm, cs = (lc l).toList := by
  obtain ⟨xs, n, _, _, hl, hn, hh⟩ := DataW.trod_struct Try.underlying23 h
  rw [cells_lc] at hl
  obtain ⟨c0, c1, c2, c3, c4, c5, rfl⟩ := list6 hl
  have k : ∀ i, i < 6 → xs[i]?.isSome = true := fun i hi => by simp [hn, hi]
  have h0 : DataW.trod enc Try.prog W b0 sp held n 3 (([c0, c1, c2, c3, c4, c5].drop 0).take (Try.prog.cellsOf 3)) = xs[0]? := hh 0 _ rfl
  have h1 : DataW.trod enc Try.prog W b0 sp held n 3 (([c0, c1, c2, c3, c4, c5].drop 1).take (Try.prog.cellsOf 3)) = xs[1]? := hh 1 _ rfl
  have h2 : DataW.trod enc Try.prog W b0 sp held n 3 (([c0, c1, c2, c3, c4, c5].drop 2).take (Try.prog.cellsOf 3)) = xs[2]? := hh 2 _ rfl
  have h3 : DataW.trod enc Try.prog W b0 sp held n 3 (([c0, c1, c2, c3, c4, c5].drop 3).take (Try.prog.cellsOf 3)) = xs[3]? := hh 3 _ rfl
  have h4 : DataW.trod enc Try.prog W b0 sp held n 3 (([c0, c1, c2, c3, c4, c5].drop 4).take (Try.prog.cellsOf 3)) = xs[4]? := hh 4 _ rfl
  have h5 : DataW.trod enc Try.prog W b0 sp held n 3 (([c0, c1, c2, c3, c4, c5].drop 5).take (Try.prog.cellsOf 3)) = xs[5]? := hh 5 _ rfl
  rw [cells_i] at h0 h1 h2 h3 h4 h5
  obtain ⟨n0, rfl⟩ := one_int (k 0 (by decide)) h0
  obtain ⟨n1, rfl⟩ := one_int (k 1 (by decide)) h1
  obtain ⟨n2, rfl⟩ := one_int (k 2 (by decide)) h2
  obtain ⟨n3, rfl⟩ := one_int (k 3 (by decide)) h3
  obtain ⟨n4, rfl⟩ := one_int (k 4 (by decide)) h4
  obtain ⟨n5, rfl⟩ := one_int (k 5 (by decide)) h5
  exact ⟨⟨n0, n1, n2, n3, n4, n5⟩, rfl⟩
/-- Six cells that read as a watch. -/
theorem wc_cells {f : Nat} {cs : List Value} {x : DataW H × List MemPlace} (h : DataW.trod enc Try.prog W b0 sp held f 25 cs = some x) : ∃ l : Wa, cs = (wc l).toList := by
  obtain ⟨xs, n, _, _, hl, hn, hh⟩ := DataW.trod_struct Try.underlying25 h
  rw [cells_wc] at hl
  obtain ⟨c0, c1, c2, c3, c4, c5, rfl⟩ := list6 hl
  have k : ∀ i, i < 6 → xs[i]?.isSome = true := fun i hi => by simp [hn, hi]
  have h0 : DataW.trod enc Try.prog W b0 sp held n 3 (([c0, c1, c2, c3, c4, c5].drop 0).take (Try.prog.cellsOf 3)) = xs[0]? := hh 0 _ rfl
  have h1 : DataW.trod enc Try.prog W b0 sp held n 3 (([c0, c1, c2, c3, c4, c5].drop 1).take (Try.prog.cellsOf 3)) = xs[1]? := hh 1 _ rfl
  have h2 : DataW.trod enc Try.prog W b0 sp held n 3 (([c0, c1, c2, c3, c4, c5].drop 2).take (Try.prog.cellsOf 3)) = xs[2]? := hh 2 _ rfl
  have h3 : DataW.trod enc Try.prog W b0 sp held n 3 (([c0, c1, c2, c3, c4, c5].drop 3).take (Try.prog.cellsOf 3)) = xs[3]? := hh 3 _ rfl
  have h4 : DataW.trod enc Try.prog W b0 sp held n 4 (([c0, c1, c2, c3, c4, c5].drop 4).take (Try.prog.cellsOf 4)) = xs[4]? := hh 4 _ rfl
  have h5 : DataW.trod enc Try.prog W b0 sp held n 4 (([c0, c1, c2, c3, c4, c5].drop 5).take (Try.prog.cellsOf 4)) = xs[5]? := hh 5 _ rfl
  rw [cells_i] at h0 h1 h2 h3
  rw [cells_b] at h4 h5
  obtain ⟨n0, rfl⟩ := one_int (k 0 (by decide)) h0
  obtain ⟨n1, rfl⟩ := one_int (k 1 (by decide)) h1
  obtain ⟨n2, rfl⟩ := one_int (k 2 (by decide)) h2
  obtain ⟨n3, rfl⟩ := one_int (k 3 (by decide)) h3
  obtain ⟨n4, rfl⟩ := one_bool (k 4 (by decide)) h4
  obtain ⟨n5, rfl⟩ := one_bool (k 5 (by decide)) h5
  exact ⟨⟨n0, n1, n2, n3, n4, n5⟩, rfl⟩
end
theorem open_l {H : Type} {enc : TypeId × Value → H} {W : World} {base : Nat} {v : Value} {d : DataW H} {ps : List MemPlace} (hv : Value.okWide Try.prog W .any base 23 v) (h : DataW.Trod enc Try.prog W 0 (fun _ => true) true 23 v d ps) :
    ∃ p : Lm, v = .agg (lc p) := by
  obtain ⟨cs, rfl, hsz⟩ := okWide_struct Try.underlying23 hv
  obtain ⟨fuel, hf⟩ := h
  obtain ⟨p, hp⟩ := lc_cells hf
  refine ⟨p, ?_⟩
  have : cs.toList = (lc p).toList := by simpa [Value.cells] using hp
  rw [Array.toList_inj.1 this]
theorem open_w {H : Type} {enc : TypeId × Value → H} {W : World} {base : Nat} {v : Value} {d : DataW H} {ps : List MemPlace} (hv : Value.okWide Try.prog W .any base 25 v) (h : DataW.Trod enc Try.prog W 0 (fun _ => true) true 25 v d ps) :
    ∃ p : Wa, v = .agg (wc p) := by
  obtain ⟨cs, rfl, hsz⟩ := okWide_struct Try.underlying25 hv
  obtain ⟨fuel, hf⟩ := h
  obtain ⟨p, hp⟩ := wc_cells hf
  refine ⟨p, ?_⟩
  have : cs.toList = (wc p).toList := by simpa [Value.cells] using hp
  rw [Array.toList_inj.1 this]
end Cw
end Go.Proofs.Ytimflomgaknoaaa
