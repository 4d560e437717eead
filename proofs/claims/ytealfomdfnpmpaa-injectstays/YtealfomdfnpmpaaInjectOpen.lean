/- Faults that came in as an argument, opened. -/
import Derived.Test.YtealfomdfnpmpaaInjectRef
import Derived.OpenShut
import Derived.Deep.Slices
namespace Go.Proofs.Ytealfomdfnpmpaa
namespace Jw
open Go.RowKit Go.WideShapes Go.ChangeShapes Go.ChangeAt Nj

theorem cells_fc : Try.prog.cellsOf 27 = 4 := by kernel_rfl
theorem cells_i : Try.prog.cellsOf 3 = 1 := by kernel_rfl

section
variable {H : Type} {enc : TypeId × Value → H} {W : World} {sp : Nat → Bool} {held : Bool} {b0 : Nat}
theorem one_int {f : Nat} {v : Value} {x : Option (DataW H × List MemPlace)} (hx : x.isSome = true) (h : DataW.trod enc Try.prog W b0 sp held f 3 [v] = x) : ∃ n, v = .int .i64 n := by
  obtain ⟨y, rfl⟩ := Option.isSome_iff_exists.1 hx
  obtain ⟨n, e, _⟩ := DataW.trod_int Try.underlying3 h
  exact ⟨n, by simpa using e⟩
theorem list4 {α : Type} {l : List α} (h : l.length = 4) : ∃ a b c d, l = [a, b, c, d] := by
  match l, h with
  | [a, b, c, d], _ => exact ⟨a, b, c, d, rfl⟩
/-- Four cells that read as a fault. -/
theorem fc_cells {f : Nat} {cs : List Value} {x : DataW H × List MemPlace} (h : DataW.trod enc Try.prog W b0 sp held f 27 cs = some x) : ∃ j : Flt, cs = (fc j.k j.s j.f j.l).toList := by
  obtain ⟨xs, n, _, _, hl, hn, hh⟩ := DataW.trod_struct Try.underlying27 h
  rw [cells_fc] at hl
  obtain ⟨c0, c1, c2, c3, rfl⟩ := list4 hl
  have k : ∀ i, i < 4 → xs[i]?.isSome = true := fun i hi => by simp [hn, hi]
  have h0 : DataW.trod enc Try.prog W b0 sp held n 3 (([c0, c1, c2, c3].drop 0).take (Try.prog.cellsOf 3)) = xs[0]? := hh 0 _ rfl
  have h1 : DataW.trod enc Try.prog W b0 sp held n 3 (([c0, c1, c2, c3].drop 1).take (Try.prog.cellsOf 3)) = xs[1]? := hh 1 _ rfl
  have h2 : DataW.trod enc Try.prog W b0 sp held n 3 (([c0, c1, c2, c3].drop 2).take (Try.prog.cellsOf 3)) = xs[2]? := hh 2 _ rfl
  have h3 : DataW.trod enc Try.prog W b0 sp held n 3 (([c0, c1, c2, c3].drop 3).take (Try.prog.cellsOf 3)) = xs[3]? := hh 3 _ rfl
  rw [cells_i] at h0 h1 h2 h3
  obtain ⟨n0, rfl⟩ := one_int (k 0 (by decide)) h0
  obtain ⟨n1, rfl⟩ := one_int (k 1 (by decide)) h1
  obtain ⟨n2, rfl⟩ := one_int (k 2 (by decide)) h2
  obtain ⟨n3, rfl⟩ := one_int (k 3 (by decide)) h3
  exact ⟨⟨n0, n1, n2, n3⟩, rfl⟩
end

theorem open_fs {H : Type} {enc : TypeId × Value → H} {W : World} {base : Nat} {v : Value} {d : DataW H} {ps : List MemPlace} (hv : Value.okWide Try.prog W .any base 23 v) (h : DataW.Trod enc Try.prog W 0 (fun _ => true) true 23 v d ps) :
    ∃ (A : Option Addr) (n c : Nat) (L : List Flt), v = .slice A n c ∧ L.length = n ∧ n ≤ c ∧ Fls W A L ∧ (0 < c → ∃ b o, A = some ⟨b, o, none⟩) := by
  obtain ⟨a0, len0, cap0, rfl⟩ := okWide_slice Try.underlying23 hv
  obtain ⟨fuel, hf⟩ := h
  rcases Go.Deep.open_slice Try.underlying23 hf with ⟨hc, _⟩ | ⟨a, len, cap, m, n, D, Pl, hc, _, hlc, hm, hmm, _, hx⟩
  · simp only [Value.cells, List.cons.injEq, Value.slice.injEq, and_true] at hc
    obtain ⟨rfl, rfl, rfl⟩ := hc
    exact ⟨none, 0, 0, [], rfl, rfl, Nat.le_refl _, ⟨by decide, fun i hi => by cases hi⟩, fun h => by cases h⟩
  · simp only [Value.cells, List.cons.injEq, Value.slice.injEq, and_true] at hc
    obtain ⟨rfl, rfl, rfl⟩ := hc
    simp only [if_true] at hmm
    subst hmm
    unfold maxLen at hm
    rw [cells_fc] at hx
    have each : ∀ i, i < m → ∃ j : Flt, W.cells? 0 (a.add (i * 4)) 4 = some (fc j.k j.s j.f j.l).toList := by
      intro i hi
      obtain ⟨cs', h1, h2⟩ := hx i hi
      obtain ⟨p, rfl⟩ := fc_cells h2
      exact ⟨p, h1⟩
    obtain ⟨b, off, spot⟩ := a
    have hspot : 0 < m → spot = none := by
      intro h0
      obtain ⟨j, hj⟩ := each 0 h0
      obtain ⟨_, _, h5⟩ := World.cells?_some hj
      have := h5 0 (by decide)
      have h0 : ((fc j.k j.s j.f j.l).toList)[0]? = some (.int .i64 j.k) := rfl
      rw [h0] at this
      simpa [Addr.add] using World.cell?_spot this
    have hT : ∃ T : Nat → Flt, ∀ i, i < len0 → W.cells? 0 (Addr.add ⟨b, off, spot⟩ (i * 4)) 4 = some (fc (T i).k (T i).s (T i).f (T i).l).toList :=
      ⟨fun i => if hi : i < len0 then (each i (by omega)).choose else zero, fun i hi => by
        simp only [dif_pos hi]
        exact (each i (by omega)).choose_spec⟩
    obtain ⟨T, hT⟩ := hT
    refine ⟨some ⟨b, off, spot⟩, len0, m, (List.range len0).map T, rfl, by simp, hlc, ⟨by simp; omega, fun i hi => ?_⟩, fun h => ⟨b, off, by rw [hspot h]⟩⟩
    have hi' : i < len0 := by simpa using hi
    have h1 := hT i hi'
    have hg : ((List.range len0).map T).getD i zero = T i := by simp [List.getD, hi']
    rw [hg]
    obtain rfl := hspot (by omega)
    have hbl := World.cells?_block h1 (by decide)
    obtain ⟨_, h3, h4⟩ := World.cells?_some h1
    rw [Addr.add_mid] at hbl h4
    refine ⟨b, off, rfl, hbl, fun j v hv => ?_⟩
    have hj : j < 4 := by
      rcases Nat.lt_or_ge j 4 with g | g
      · exact g
      · rw [List.getElem?_eq_none (by show 4 ≤ j; exact g)] at hv; cases hv
    have := h4 j hj
    rw [hv] at this
    rw [← this, Addr.add_mid]
end Jw
end Go.Proofs.Ytealfomdfnpmpaa
