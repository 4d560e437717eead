/- Records, and calls of a script, that came in as arguments, opened. -/
import Derived.Test.YtlhapipgmadbeaaStorePair
import Derived.Test.YtlhapipgmadbeaaOpenKit
import Derived.Test.YtlhapipgmadbeaaLimKit
namespace Go.Proofs.Ytlhapipgmadbeaa
namespace Sq
open Go.RowKit Go.WideShapes Go.ChangeShapes Go.ChangeAt Nv Nw Sp Lk

theorem cells_r : Try.prog.cellsOf 37 = 3 := by kernel_rfl
theorem cells_q : Try.prog.cellsOf 40 = 6 := by kernel_rfl
theorem cells_in : Try.prog.cellsOf 3 = 1 := by kernel_rfl
theorem cells_bo : Try.prog.cellsOf 4 = 1 := by kernel_rfl
theorem cells_wo : Try.prog.cellsOf 38 = 1 := by kernel_rfl
section
variable {H : Type} {enc : TypeId × Value → H} {W : World} {sp : Nat → Bool} {held : Bool} {b0 : Nat}
theorem list3 {α : Type} {l : List α} (h : l.length = 3) : ∃ a b c, l = [a, b, c] := by
  match l, h with
  | [a, b, c], _ => exact ⟨a, b, c, rfl⟩
theorem list6 {α : Type} {l : List α} (h : l.length = 6) : ∃ a b c d e f, l = [a, b, c, d, e, f] := by
  match l, h with
  | [a, b, c, d, e, f], _ => exact ⟨a, b, c, d, e, f, rfl⟩
theorem r_cells {f : Nat} {cs : List Value} {x : DataW H × List MemPlace} (h : DataW.trod enc Try.prog W b0 sp held f 37 cs = some x) : ∃ r : R, cs = (rcs r).toList := by
  obtain ⟨xs, n, _, _, hl, hn, hh⟩ := DataW.trod_struct Try.underlying37 h
  rw [cells_r] at hl
  obtain ⟨c0, c1, c2, rfl⟩ := list3 hl
  have k : ∀ i, i < 3 → xs[i]?.isSome = true := fun i hi => by simp [hn, hi]
  have h0 : DataW.trod enc Try.prog W b0 sp held n 3 (([c0, c1, c2].drop 0).take (Try.prog.cellsOf 3)) = xs[0]? := hh 0 _ rfl
  have h1 : DataW.trod enc Try.prog W b0 sp held n 3 (([c0, c1, c2].drop 1).take (Try.prog.cellsOf 3)) = xs[1]? := hh 1 _ rfl
  have h2 : DataW.trod enc Try.prog W b0 sp held n 4 (([c0, c1, c2].drop 2).take (Try.prog.cellsOf 4)) = xs[2]? := hh 2 _ rfl
  rw [cells_in] at h0 h1
  rw [cells_bo] at h2
  obtain ⟨n0, rfl, _⟩ := Lk.one_int Try.underlying3 (k 0 (by decide)) h0
  obtain ⟨n1, rfl, _⟩ := Lk.one_int Try.underlying3 (k 1 (by decide)) h1
  obtain ⟨n2, rfl⟩ := Lk.one_bool Try.underlying4 (k 2 (by decide)) h2
  exact ⟨⟨n0, n1, n2⟩, rfl⟩
theorem q_cells {f : Nat} {cs : List Value} {x : DataW H × List MemPlace} (h : DataW.trod enc Try.prog W b0 sp held f 40 cs = some x) : ∃ c : Cq, cs = (qc c).toList ∧ (-9223372036854775808 ≤ c.n ∧ c.n ≤ 9223372036854775807) ∧ 0 ≤ c.w ∧ c.w ≤ 4294967295 := by
  obtain ⟨xs, n, _, _, hl, hn, hh⟩ := DataW.trod_struct Try.underlying40 h
  rw [cells_q] at hl
  obtain ⟨c0, c1, c2, c3, c4, c5, rfl⟩ := list6 hl
  have k : ∀ i, i < 4 → xs[i]?.isSome = true := fun i hi => by simp [hn, hi]
  have h0 : DataW.trod enc Try.prog W b0 sp held n 3 (([c0, c1, c2, c3, c4, c5].drop 0).take (Try.prog.cellsOf 3)) = xs[0]? := hh 0 _ rfl
  have h1 : DataW.trod enc Try.prog W b0 sp held n 37 (([c0, c1, c2, c3, c4, c5].drop 1).take (Try.prog.cellsOf 37)) = xs[1]? := hh 1 _ rfl
  have h2 : DataW.trod enc Try.prog W b0 sp held n 3 (([c0, c1, c2, c3, c4, c5].drop 4).take (Try.prog.cellsOf 3)) = xs[2]? := hh 2 _ rfl
  have h3 : DataW.trod enc Try.prog W b0 sp held n 38 (([c0, c1, c2, c3, c4, c5].drop 5).take (Try.prog.cellsOf 38)) = xs[3]? := hh 3 _ rfl
  rw [cells_in] at h0 h2
  rw [cells_wo] at h3
  rw [cells_r] at h1
  obtain ⟨n0, rfl, _⟩ := Lk.one_int Try.underlying3 (k 0 (by decide)) h0
  obtain ⟨n2, rfl, w2⟩ := Lk.one_int Try.underlying3 (k 2 (by decide)) h2
  obtain ⟨n3, rfl, w3⟩ := Lk.one_int Try.underlying38 (k 3 (by decide)) h3
  obtain ⟨y, hy⟩ := Option.isSome_iff_exists.1 (k 1 (by decide))
  rw [hy] at h1
  obtain ⟨r, hr⟩ := r_cells h1
  have hr' : [c1, c2, c3] = (rcs r).toList := hr
  injection hr' with e1 hr'
  injection hr' with e2 hr'
  injection hr' with e3
  subst e1 e2 e3
  exact ⟨⟨n0, r, n2, n3⟩, rfl, Lk.i64_lim w2, Lk.u32_lim w3⟩
end
section
variable {H : Type} {enc : TypeId × Value → H} {W : World} {base : Nat} {v : Value} {d : DataW H} {ps : List MemPlace}
set_option maxRecDepth 100000 in
theorem open_r (hv : Value.okWide Try.prog W .any base 37 v) (h : DataW.Trod enc Try.prog W 0 (fun _ => true) true 37 v d ps) : ∃ r : R, v = .agg (rcs r) := by
  obtain ⟨cs, rfl, hsz⟩ := okWide_struct Try.underlying37 hv
  obtain ⟨fuel, hf⟩ := h
  obtain ⟨p, hp⟩ := r_cells hf
  refine ⟨p, ?_⟩
  have : cs.toList = (rcs p).toList := by simpa [Value.cells] using hp
  rw [Array.toList_inj.1 this]
set_option maxRecDepth 100000 in
theorem open_rs (hv : Value.okWide Try.prog W .any base 48 v) (h : DataW.Trod enc Try.prog W 0 (fun _ => true) true 48 v d ps) :
    ∃ (A : Option Addr) (L : List R) (c : Nat), v = .slice A L.length c ∧ Rcs W A L := by
  obtain ⟨A, L, c, e, _, hr, _⟩ := Lk.open_rows (fun r : R => (rcs r).toList) (fun _ => True) ⟨0, 0, false⟩ Try.underlying48 cells_r (by decide) (fun _ => rfl) (fun h => by obtain ⟨r, hr⟩ := r_cells h; exact ⟨r, hr, trivial⟩) hv h
  exact ⟨A, L, c, e, hr⟩
set_option maxRecDepth 100000 in
theorem open_qs (hv : Value.okWide Try.prog W .any base 23 v) (h : DataW.Trod enc Try.prog W 0 (fun _ => true) true 23 v d ps) :
    ∃ (A : Option Addr) (L : List Cq) (c : Nat), v = .slice A L.length c ∧ Scr W A L := by
  obtain ⟨A, L, c, e, _, hr, hq⟩ := Lk.open_rows (fun c : Cq => (qc c).toList) (fun c => (-9223372036854775808 ≤ c.n ∧ c.n ≤ 9223372036854775807) ∧ 0 ≤ c.w ∧ c.w ≤ 4294967295) qzero Try.underlying23 cells_q (by decide) (fun _ => rfl) q_cells hv h
  refine ⟨A, L, c, e, fun j hj => ?_, hq⟩
  have := hr j (L.getD j qzero) (by simp [hj])
  exact this
end
end Sq
end Go.Proofs.Ytlhapipgmadbeaa
