/- A grid that came in as an argument, opened. -/
import Derived.Test.YthjefnkgfmkijaaGridIn
import Derived.Test.YthjefnkgfmkijaaTabOpen
import Derived.Deep.SlicePairs
namespace Go.Proofs.Ythjefnkgfmkijaa
namespace GridC
open Go.RowKit Go.WideShapes Go.ChangeShapes Go.ChangeAt Go.Joins TabC

instance : Inhabited Tv := ⟨⟨none, none, 0, 0, [], []⟩⟩

theorem cellsInts : Try.prog.cellsOf 23 = 1 := by kernel_rfl
theorem cellsGrid : Try.prog.cellsOf 26 = 2 := by kernel_rfl

theorem open_grid {H : Type} {enc : TypeId × Value → H} {W : World} {base : Nat} {v : Value} {d : DataW H} {ps : List MemPlace}
    (hv : Value.okWide Try.prog W .any base 26 v) (h : DataW.Trod enc Try.prog W 0 (fun _ => true) true 26 v d ps) :
    ∃ (A B : Option Addr) (ca cb : Nat) (zs : List Int) (n : Nat) (T : Nat → Tv), v = .agg #[.slice A zs.length ca, .slice B n cb] ∧ GridIn W A B zs n T := by
  obtain ⟨c0, c1, y0, y1, m, rfl, rfl, rfl, hy0, hy1⟩ := open_agg2 Try.underlying26 (by kernel_rfl) cellsGrid hv h
  obtain ⟨A, zs, ca, rfl, h1, h2, hA⟩ := open_ints_cell Try.underlying23 Try.underlying3 cellsInt hy0
  unfold maxLen at h2
  rcases Go.Deep.open_slice_pairs Try.underlying24 Try.underlying37 cellsTab rfl rfl cellsInts cellsInts hy1 with ⟨hc, _⟩ | ⟨a, len, cap, k, q, V0, V1, D0, D1, P0, P1, hc, _, hlc, hm, hk, _, hx⟩
  · simp only [List.cons.injEq, and_true] at hc
    subst hc
    exact ⟨A, none, ca, 0, zs, 0, fun _ => default, rfl, by omega, by omega, hA, fun i hi => by omega, fun i hi => by omega⟩
  · simp only [List.cons.injEq, and_true] at hc
    subst hc
    simp only [if_true] at hk
    subst hk
    unfold maxLen at hm
    have each : ∀ i, i < len → ∃ t : Tv, (V0 i = .slice t.A t.xs.length t.ca ∧ V1 i = .slice t.B t.ys.length t.cb) ∧ TabIn W t.A t.B t.xs t.ys := by
      intro i hi
      obtain ⟨_, _, g0, g1⟩ := hx i (by omega)
      obtain ⟨A0, xs, cx, e0, l1, l2, hX⟩ := open_ints_cell Try.underlying23 Try.underlying3 cellsInt g0
      obtain ⟨A1, ys, cy, e1, l3, l4, hY⟩ := open_ints_cell Try.underlying23 Try.underlying3 cellsInt g1
      unfold maxLen at l2 l4
      exact ⟨⟨A0, A1, cx, cy, xs, ys⟩, ⟨e0, e1⟩, ⟨by show xs.length ≤ _; omega, by show ys.length ≤ _; omega, hX, hY⟩⟩
    obtain ⟨T, hT⟩ := Go.Deep.choose_lt each
    refine ⟨A, some a, ca, k, zs, len, T, rfl, by omega, by omega, hA, fun i hi => ?_, fun i hi => (hT i hi).2⟩
    obtain ⟨g0, g1, _, _⟩ := hx i (by omega)
    obtain ⟨f0, _, _, _⟩ := hx 0 (by omega)
    rw [(hT i hi).1.1] at g0
    rw [(hT i hi).1.2] at g1
    obtain ⟨b, off, spot⟩ := a
    have hspot : spot = none := by simpa [Addr.add] using World.cell?_spot f0
    subst hspot
    rw [add_plain] at g0 g1
    exact ⟨b, off, rfl, g0, by rw [Nat.add_assoc]; exact g1⟩

end GridC
end Go.Proofs.Ythjefnkgfmkijaa
