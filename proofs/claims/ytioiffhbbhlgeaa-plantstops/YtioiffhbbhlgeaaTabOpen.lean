/- A table that came in as an argument, opened. -/
import Derived.Test.YtioiffhbbhlgeaaTabCheck
import Derived.Lib.SmallJoins
namespace Go.Proofs.Ytioiffhbbhlgeaa
namespace TabC
open Go.RowKit Go.WideShapes Go.ChangeShapes Go.ChangeAt Go.Joins

theorem cellsInt : Try.prog.cellsOf 3 = 1 := by kernel_rfl
theorem cellsTab : Try.prog.cellsOf 24 = 2 := by kernel_rfl

/-- A cell that reads as a slice of integers. -/
theorem open_ints_cell {H : Type} {enc : TypeId × Value → H} {P : Program} {t e : TypeId} {k : IntKind} {W : World} {fuel : Nat} {v : Value} {y : DataW H × List MemPlace} (ht : P.underlying t = some (.slice e)) (he : P.underlying e = some (.int k)) (hc : P.cellsOf e = 1)
    (h : DataW.trod enc P W 0 (fun _ => true) true fuel t [v] = some y) :
    ∃ (A : Option Addr) (l : List Int) (cap : Nat), v = .slice A l.length cap ∧ l.length ≤ cap ∧ cap ≤ maxLen ∧ Lk.IntsAt W k A l := by
  rcases open_ints ht he hc h with ⟨hcs, _⟩ | ⟨a, len, cap, zs, hcs, _, hlc, hm, hz, _, hcell, _⟩
  · simp only [List.cons.injEq, and_true] at hcs
    subst hcs
    exact ⟨none, [], 0, rfl, Nat.le_refl _, Nat.zero_le _, fun i hi => by simp at hi⟩
  · simp only [List.cons.injEq, and_true] at hcs
    subst hcs
    have hzl : len ≤ zs.length := by rw [hz]; simpa using hlc
    have hl : (zs.take len).length = len := by simp; omega
    refine ⟨some a, zs.take len, cap, by rw [hl], by omega, hm, ?_⟩
    intro i hi
    rw [hl] at hi
    obtain ⟨b, off, rfl, hcc⟩ := ints_at hcell (by omega)
    refine ⟨b, off, rfl, ?_⟩
    rw [hcc i (by omega)]
    simp [List.getD_eq_getElem?_getD, hi]

theorem open_tab {H : Type} {enc : TypeId × Value → H} {W : World} {base : Nat} {v : Value} {d : DataW H} {ps : List MemPlace}
    (hv : Value.okWide Try.prog W .any base 24 v) (h : DataW.Trod enc Try.prog W 0 (fun _ => true) true 24 v d ps) :
    ∃ (A B : Option Addr) (ca cb : Nat) (xs ys : List Int), v = .agg #[.slice A xs.length ca, .slice B ys.length cb] ∧ TabIn W A B xs ys := by
  obtain ⟨c0, c1, y0, y1, m, rfl, rfl, rfl, hy0, hy1⟩ := open_agg2 Try.underlying24 (by kernel_rfl) cellsTab hv h
  obtain ⟨A, xs, ca, rfl, h1, h2, hA⟩ := open_ints_cell Try.underlying22 Try.underlying3 cellsInt hy0
  obtain ⟨B, ys, cb, rfl, h3, h4, hB⟩ := open_ints_cell Try.underlying22 Try.underlying3 cellsInt hy1
  unfold maxLen at h2 h4
  exact ⟨A, B, ca, cb, xs, ys, rfl, ⟨by omega, by omega, hA, hB⟩⟩

end TabC
end Go.Proofs.Ytioiffhbbhlgeaa
