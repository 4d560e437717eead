/- A plant, a drive, drives: that came in as arguments, opened. -/
import Derived.Test.YtioiffhbbhlgeaaPlantIn
import Derived.Test.YtioiffhbbhlgeaaOpenKit
import Derived.Test.YtioiffhbbhlgeaaSynthOpen
import Derived.OpenShut
namespace Go.Proofs.Ytioiffhbbhlgeaa
namespace Plw
open Go Go.RowKit Go.WideShapes Go.ChangeShapes Go.ChangeAt

theorem cells_b : Try.prog.cellsOf 4 = 1 := by kernel_rfl
theorem cells_i : Try.prog.cellsOf 3 = 1 := by kernel_rfl
theorem cells_p : Try.prog.cellsOf 28 = 5 := by kernel_rfl
theorem cells_d : Try.prog.cellsOf 31 = 8 := by kernel_rfl
theorem cells_g : Try.prog.cellsOf 29 = 3 := by kernel_rfl
theorem list3 {α : Type} {l : List α} (h : l.length = 3) : ∃ a b c, l = [a, b, c] := by
  match l, h with
  | [a, b, c], _ => exact ⟨a, b, c, rfl⟩
theorem list5 {α : Type} {l : List α} (h : l.length = 5) : ∃ a b c d e, l = [a, b, c, d, e] := by
  match l, h with
  | [a, b, c, d, e], _ => exact ⟨a, b, c, d, e, rfl⟩
theorem list8 {α : Type} {l : List α} (h : l.length = 8) : ∃ a b c d e f g i, l = [a, b, c, d, e, f, g, i] := by
  match l, h with
  | [a, b, c, d, e, f, g, i], _ => exact ⟨a, b, c, d, e, f, g, i, rfl⟩
section
variable {H : Type} {enc : TypeId × Value → H} {W : World} {base : Nat} {v : Value} {d : DataW H} {ps : List MemPlace}
theorem one_bool {f : Nat} {v : Value} {x : Option (DataW H × List MemPlace)} (hx : x.isSome = true) (h : DataW.trod enc Try.prog W 0 (fun _ => true) true f 4 [v] = x) : ∃ b, v = .bool b := by
  obtain ⟨y, rfl⟩ := Option.isSome_iff_exists.1 hx
  obtain ⟨b, e, _⟩ := DataW.trod_bool Try.underlying4 h
  exact ⟨b, by simpa using e⟩
set_option maxRecDepth 100000 in
theorem g_cells {f : Nat} {cs : List Value} {x : Option (DataW H × List MemPlace)} (hx : x.isSome = true) (hl : cs.length = 3) (h : DataW.trod enc Try.prog W 0 (fun _ => true) true f 29 cs = x) : ∃ a b c : Int, cs = [.int .i64 a, .int .i64 b, .int .i64 c] := by
  obtain ⟨y, rfl⟩ := Option.isSome_iff_exists.1 hx
  obtain ⟨xs, m, _, _, _, hn, hh⟩ := DataW.trod_array Try.underlying29 h
  obtain ⟨a, b, c, rfl⟩ := list3 hl
  rw [cells_i] at hh
  have k : ∀ i, i < 3 → xs[i]?.isSome = true := fun i hi => by simp [hn, hi]
  obtain ⟨n0, rfl, -⟩ := Lk.one_int Try.underlying3 (k 0 (by decide)) (hh 0 (by decide))
  obtain ⟨n1, rfl, -⟩ := Lk.one_int Try.underlying3 (k 1 (by decide)) (hh 1 (by decide))
  obtain ⟨n2, rfl, -⟩ := Lk.one_int Try.underlying3 (k 2 (by decide)) (hh 2 (by decide))
  exact ⟨n0, n1, n2, rfl⟩
set_option maxRecDepth 100000 in
theorem p_cells {f : Nat} {cs : List Value} {x : DataW H × List MemPlace} (hf : DataW.trod enc Try.prog W 0 (fun _ => true) true f 28 cs = some x) : ∃ p : Pl.Pt, cs = (pc p).toList := by
  obtain ⟨xs, n, _, _, hl, hn, hh⟩ := DataW.trod_struct Try.underlying28 hf
  rw [cells_p] at hl
  obtain ⟨c0, c1, c2, c3, c4, rfl⟩ := list5 hl
  have k : ∀ i, i < 5 → xs[i]?.isSome = true := fun i hi => by simp [hn, hi]
  have h0 : DataW.trod enc Try.prog W 0 (fun _ => true) true n 3 (([c0, c1, c2, c3, c4].drop 0).take (Try.prog.cellsOf 3)) = xs[0]? := hh 0 _ rfl
  have h1 : DataW.trod enc Try.prog W 0 (fun _ => true) true n 3 (([c0, c1, c2, c3, c4].drop 1).take (Try.prog.cellsOf 3)) = xs[1]? := hh 1 _ rfl
  have h2 : DataW.trod enc Try.prog W 0 (fun _ => true) true n 3 (([c0, c1, c2, c3, c4].drop 2).take (Try.prog.cellsOf 3)) = xs[2]? := hh 2 _ rfl
  have h3 : DataW.trod enc Try.prog W 0 (fun _ => true) true n 3 (([c0, c1, c2, c3, c4].drop 3).take (Try.prog.cellsOf 3)) = xs[3]? := hh 3 _ rfl
  have h4 : DataW.trod enc Try.prog W 0 (fun _ => true) true n 4 (([c0, c1, c2, c3, c4].drop 4).take (Try.prog.cellsOf 4)) = xs[4]? := hh 4 _ rfl
  rw [cells_i] at h0 h1 h2 h3
  rw [cells_b] at h4
  obtain ⟨n0, rfl, -⟩ := Lk.one_int Try.underlying3 (k 0 (by decide)) h0
  obtain ⟨n1, rfl, -⟩ := Lk.one_int Try.underlying3 (k 1 (by decide)) h1
  obtain ⟨n2, rfl, -⟩ := Lk.one_int Try.underlying3 (k 2 (by decide)) h2
  obtain ⟨n3, rfl, -⟩ := Lk.one_int Try.underlying3 (k 3 (by decide)) h3
  obtain ⟨b4, rfl⟩ := one_bool (k 4 (by decide)) h4
  exact ⟨⟨n0, n1, n2, n3, b4⟩, rfl⟩
set_option maxRecDepth 100000 in
theorem d_cells {f : Nat} {cs : List Value} {x : DataW H × List MemPlace} (hf : DataW.trod enc Try.prog W 0 (fun _ => true) true f 31 cs = some x) : ∃ d : Pl.Dr, cs = (dc d).toList := by
  obtain ⟨xs, n, _, _, hl, hn, hh⟩ := DataW.trod_struct Try.underlying31 hf
  rw [cells_d] at hl
  obtain ⟨c0, c1, c2, c3, c4, c5, c6, c7, rfl⟩ := list8 hl
  have k : ∀ i, i < 6 → xs[i]?.isSome = true := fun i hi => by simp [hn, hi]
  have h0 : DataW.trod enc Try.prog W 0 (fun _ => true) true n 3 (([c0, c1, c2, c3, c4, c5, c6, c7].drop 0).take (Try.prog.cellsOf 3)) = xs[0]? := hh 0 _ rfl
  have h1 : DataW.trod enc Try.prog W 0 (fun _ => true) true n 4 (([c0, c1, c2, c3, c4, c5, c6, c7].drop 1).take (Try.prog.cellsOf 4)) = xs[1]? := hh 1 _ rfl
  have h2 : DataW.trod enc Try.prog W 0 (fun _ => true) true n 4 (([c0, c1, c2, c3, c4, c5, c6, c7].drop 2).take (Try.prog.cellsOf 4)) = xs[2]? := hh 2 _ rfl
  have h3 : DataW.trod enc Try.prog W 0 (fun _ => true) true n 4 (([c0, c1, c2, c3, c4, c5, c6, c7].drop 3).take (Try.prog.cellsOf 4)) = xs[3]? := hh 3 _ rfl
  have h4 : DataW.trod enc Try.prog W 0 (fun _ => true) true n 29 (([c0, c1, c2, c3, c4, c5, c6, c7].drop 4).take (Try.prog.cellsOf 29)) = xs[4]? := hh 4 _ rfl
  have h5 : DataW.trod enc Try.prog W 0 (fun _ => true) true n 4 (([c0, c1, c2, c3, c4, c5, c6, c7].drop 7).take (Try.prog.cellsOf 4)) = xs[5]? := hh 5 _ rfl
  rw [cells_i] at h0
  rw [cells_b] at h1 h2 h3 h5
  rw [cells_g] at h4
  obtain ⟨n0, rfl, -⟩ := Lk.one_int Try.underlying3 (k 0 (by decide)) h0
  obtain ⟨b1, rfl⟩ := one_bool (k 1 (by decide)) h1
  obtain ⟨b2, rfl⟩ := one_bool (k 2 (by decide)) h2
  obtain ⟨b3, rfl⟩ := one_bool (k 3 (by decide)) h3
  obtain ⟨g0, g1, g2, e⟩ := g_cells (k 4 (by decide)) rfl h4
  obtain ⟨b5, rfl⟩ := one_bool (k 5 (by decide)) h5
  simp only [List.drop_succ_cons, List.drop_zero, List.take_succ_cons, List.take_zero, List.cons.injEq, and_true] at e
  obtain ⟨rfl, rfl, rfl⟩ := e
  exact ⟨⟨n0, b1, b2, b3, g0, g1, g2, b5⟩, rfl⟩
theorem open_p (hv : Value.okWide Try.prog W .any base 28 v) (h : DataW.Trod enc Try.prog W 0 (fun _ => true) true 28 v d ps) : ∃ p : Pl.Pt, v = .agg (pc p) := by
  obtain ⟨cs, rfl, hsz⟩ := okWide_struct Try.underlying28 hv
  obtain ⟨fuel, hf⟩ := h
  obtain ⟨p, hp⟩ := p_cells hf
  refine ⟨p, ?_⟩
  have : cs.toList = (pc p).toList := by simpa [Value.cells] using hp
  rw [Array.toList_inj.1 this]
theorem open_d (hv : Value.okWide Try.prog W .any base 31 v) (h : DataW.Trod enc Try.prog W 0 (fun _ => true) true 31 v d ps) : ∃ p : Pl.Dr, v = .agg (dc p) := by
  obtain ⟨cs, rfl, hsz⟩ := okWide_struct Try.underlying31 hv
  obtain ⟨fuel, hf⟩ := h
  obtain ⟨p, hp⟩ := d_cells hf
  refine ⟨p, ?_⟩
  have : cs.toList = (dc p).toList := by simpa [Value.cells] using hp
  rw [Array.toList_inj.1 this]
end
/-- Drives that came in. -/
def Drs (W : World) (A : Option Addr) (L : List Pl.Dr) : Prop := ∀ i d, L[i]? = some d → ∃ g o, A = some ⟨g, o, none⟩ ∧ g < W.heap.size ∧ W.rangeAt g (o + i * 8) (dc d).toList
theorem open_ds {H : Type} {enc : TypeId × Value → H} {W : World} {base : Nat} {v : Value} {d : DataW H} {ps : List MemPlace} (hv : Value.okWide Try.prog W .any base 39 v) (h : DataW.Trod enc Try.prog W 0 (fun _ => true) true 39 v d ps) :
    ∃ A L c, v = .slice A L.length c ∧ Drs W A L := by
  obtain ⟨A, L, c, e, _, hr, _⟩ := Lk.open_rows (fun d : Pl.Dr => (dc d).toList) (fun _ => True) ⟨0, false, false, false, 0, 0, 0, false⟩ Try.underlying39 cells_d (by decide) (fun _ => rfl) (fun h => by
    obtain ⟨d, e⟩ := d_cells h
    exact ⟨d, e, trivial⟩) hv h
  exact ⟨A, L, c, e, hr⟩
end Plw
end Go.Proofs.Ytioiffhbbhlgeaa
