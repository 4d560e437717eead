/- Calls of a script that came in as an argument, opened. -/
import Derived.Test.YtgnjmnpfkfchfaaNvmScript
import Derived.Test.YtgnjmnpfkfchfaaLimKit
import Derived.OpenShut
import Derived.Deep.Slices
namespace Go.Proofs.Ytgnjmnpfkfchfaa
namespace Nw
open Go.RowKit Go.WideShapes Go.ChangeShapes Go.ChangeAt Nv

theorem cells_cc : Try.prog.cellsOf 33 = 3 := by kernel_rfl
theorem cells_i : Try.prog.cellsOf 3 = 1 := by kernel_rfl
theorem cells_w : Try.prog.cellsOf 31 = 1 := by kernel_rfl

section
variable {H : Type} {enc : TypeId × Value → H} {W : World} {sp : Nat → Bool} {held : Bool} {b0 : Nat}
theorem one_int {f : Nat} {v : Value} {x : Option (DataW H × List MemPlace)} (hx : x.isSome = true) (h : DataW.trod enc Try.prog W b0 sp held f 3 [v] = x) : ∃ n, v = .int .i64 n ∧ (Lit.int .i64 n).wf = true := by
  obtain ⟨y, rfl⟩ := Option.isSome_iff_exists.1 hx
  obtain ⟨n, e, hw⟩ := DataW.trod_int Try.underlying3 h
  exact ⟨n, by simpa using e, hw.2⟩
theorem one_u32 {f : Nat} {v : Value} {x : Option (DataW H × List MemPlace)} (hx : x.isSome = true) (h : DataW.trod enc Try.prog W b0 sp held f 31 [v] = x) : ∃ n, v = .int .u32 n := by
  obtain ⟨y, rfl⟩ := Option.isSome_iff_exists.1 hx
  obtain ⟨n, e, _⟩ := DataW.trod_int Try.underlying31 h
  exact ⟨n, by simpa using e⟩
theorem list3 {α : Type} {l : List α} (h : l.length = 3) : ∃ a b c, l = [a, b, c] := by
  match l, h with
  | [a, b, c], _ => exact ⟨a, b, c, rfl⟩
/-- Three cells that read as a call. -/
theorem cc_cells {f : Nat} {cs : List Value} {x : DataW H × List MemPlace} (h : DataW.trod enc Try.prog W b0 sp held f 33 cs = some x) : ∃ c : C, cs = (cc c.k c.i c.w).toList ∧ -9223372036854775808 ≤ c.i ∧ c.i ≤ 9223372036854775807 := by
  obtain ⟨xs, n, _, _, hl, hn, hh⟩ := DataW.trod_struct Try.underlying33 h
  rw [cells_cc] at hl
  obtain ⟨c0, c1, c2, rfl⟩ := list3 hl
  have k : ∀ i, i < 3 → xs[i]?.isSome = true := fun i hi => by simp [hn, hi]
  have h0 : DataW.trod enc Try.prog W b0 sp held n 3 (([c0, c1, c2].drop 0).take (Try.prog.cellsOf 3)) = xs[0]? := hh 0 _ rfl
  have h1 : DataW.trod enc Try.prog W b0 sp held n 3 (([c0, c1, c2].drop 1).take (Try.prog.cellsOf 3)) = xs[1]? := hh 1 _ rfl
  have h2 : DataW.trod enc Try.prog W b0 sp held n 31 (([c0, c1, c2].drop 2).take (Try.prog.cellsOf 31)) = xs[2]? := hh 2 _ rfl
  rw [cells_i] at h0 h1
  rw [cells_w] at h2
  obtain ⟨n0, rfl, _⟩ := one_int (k 0 (by decide)) h0
  obtain ⟨n1, rfl, w1⟩ := one_int (k 1 (by decide)) h1
  obtain ⟨n2, rfl⟩ := one_u32 (k 2 (by decide)) h2
  exact ⟨⟨n0, n1, n2⟩, rfl, Lk.i64_lim w1⟩
end

theorem open_calls {H : Type} {enc : TypeId × Value → H} {W : World} {base : Nat} {v : Value} {d : DataW H} {ps : List MemPlace} (hv : Value.okWide Try.prog W .any base 23 v) (h : DataW.Trod enc Try.prog W 0 (fun _ => true) true 23 v d ps) :
    ∃ (A : Option Addr) (L : List C) (c : Nat), v = .slice A L.length c ∧ Cls W A L := by
  obtain ⟨a0, len0, cap0, rfl⟩ := okWide_slice Try.underlying23 hv
  obtain ⟨fuel, hf⟩ := h
  rcases Go.Deep.open_slice Try.underlying23 hf with ⟨hc, _⟩ | ⟨a, len, cap, m, n, D, Pl, hc, _, hlc, hm, hmm, _, hx⟩
  · simp only [Value.cells, List.cons.injEq, Value.slice.injEq, and_true] at hc
    obtain ⟨rfl, rfl, rfl⟩ := hc
    exact ⟨none, [], 0, rfl, ⟨fun _ hj => absurd hj (Nat.not_lt_zero _), fun _ hc => (List.not_mem_nil hc).elim⟩⟩
  · simp only [Value.cells, List.cons.injEq, Value.slice.injEq, and_true] at hc
    obtain ⟨rfl, rfl, rfl⟩ := hc
    simp only [if_true] at hmm
    subst hmm
    rw [cells_cc] at hx
    have each : ∀ i, i < m → ∃ c : C, W.cells? 0 (a.add (i * 3)) 3 = some (cc c.k c.i c.w).toList ∧ -9223372036854775808 ≤ c.i ∧ c.i ≤ 9223372036854775807 := by
      intro i hi
      obtain ⟨cs', h1, h2⟩ := hx i hi
      obtain ⟨p, rfl, hp⟩ := cc_cells h2
      exact ⟨p, h1, hp⟩
    obtain ⟨b, off, spot⟩ := a
    have hspot : 0 < m → spot = none := by
      intro h0
      obtain ⟨j, hj, _⟩ := each 0 h0
      obtain ⟨_, _, h5⟩ := World.cells?_some hj
      have := h5 0 (by decide)
      have h0 : ((cc j.k j.i j.w).toList)[0]? = some (.int .i64 j.k) := rfl
      rw [h0] at this
      simpa [Addr.add] using World.cell?_spot this
    have hT : ∃ T : Nat → C, ∀ i, i < len0 → W.cells? 0 (Addr.add ⟨b, off, spot⟩ (i * 3)) 3 = some (cc (T i).k (T i).i (T i).w).toList ∧ -9223372036854775808 ≤ (T i).i ∧ (T i).i ≤ 9223372036854775807 :=
      ⟨fun i => if hi : i < len0 then (each i (by omega)).choose else czero, fun i hi => by
        simp only [dif_pos hi]
        exact (each i (by omega)).choose_spec⟩
    obtain ⟨T, hT⟩ := hT
    refine ⟨some ⟨b, off, spot⟩, (List.range len0).map T, m, by simp, ⟨fun i hi => ?_, fun c hc => ?_⟩⟩
    · have hi' : i < len0 := by simpa using hi
      have h1 := (hT i hi').1
      have hg : ((List.range len0).map T).getD i czero = T i := by simp [List.getD, hi']
      rw [hg]
      obtain rfl := hspot (by omega)
      have hbl := World.cells?_block h1 (by decide)
      obtain ⟨_, h3, h4⟩ := World.cells?_some h1
      rw [Addr.add_mid] at hbl h4
      refine ⟨b, off, rfl, hbl, fun j v hv => ?_⟩
      have hj : j < 3 := by
        rcases Nat.lt_or_ge j 3 with g | g
        · exact g
        · rw [List.getElem?_eq_none (by show 3 ≤ j; exact g)] at hv; cases hv
      have := h4 j hj
      rw [hv] at this
      rw [← this, Addr.add_mid]
    · obtain ⟨i, hi, rfl⟩ := List.mem_map.1 hc
      exact (hT i (by simpa using hi)).2
end Nw
end Go.Proofs.Ytgnjmnpfkfchfaa
