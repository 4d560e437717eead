/- An engine's cells, in its block; slices of integers that a call makes. -/
import Derived.Test.YtioiffhbbhlgeaaSynthRising
import Derived.Deep.RegionHeld3
namespace Go.Proofs.Ytioiffhbbhlgeaa
namespace Ew
open Go.RowKit TabC Lk

/-- The cells of an engine's block (type 26). -/
abbrev EFld (V : World) (b : Nat) (e : Eg) : Prop :=
  V.cell? ⟨b, 0, none⟩ = some (.slice e.f.A e.f.xs.length e.f.ca) ∧ V.cell? ⟨b, 1, none⟩ = some (.slice e.f.B e.f.ys.length e.f.cb) ∧ V.cell? ⟨b, 2, none⟩ = some (.slice e.p.A e.p.xs.length e.p.ca) ∧ V.cell? ⟨b, 3, none⟩ = some (.slice e.p.B e.p.ys.length e.p.cb) ∧
  V.cell? ⟨b, 4, none⟩ = some (.slice e.q.A e.q.xs.length e.q.ca) ∧ V.cell? ⟨b, 5, none⟩ = some (.slice e.q.B e.q.ys.length e.q.cb) ∧ V.cell? ⟨b, 6, none⟩ = some (.slice e.h.A e.h.xs.length e.h.ca) ∧ V.cell? ⟨b, 7, none⟩ = some (.slice e.h.B e.h.ys.length e.h.cb) ∧
  V.cell? ⟨b, 8, none⟩ = some (.int .i64 e.lag2) ∧ V.cell? ⟨b, 9, none⟩ = some (.int .i64 e.lag1) ∧ V.cell? ⟨b, 10, none⟩ = some (.int .i64 e.lagE) ∧ V.cell? ⟨b, 11, none⟩ = some (.int .i64 e.slew) ∧
  V.cell? ⟨b, 12, none⟩ = some (.int .i64 e.starter) ∧ V.cell? ⟨b, 13, none⟩ = some (.int .i64 e.light) ∧ V.cell? ⟨b, 14, none⟩ = some (.int .i64 e.lean) ∧ V.cell? ⟨b, 15, none⟩ = some (.int .i64 e.disturb)
theorem efld {V : World} {b : Nat} {e : Eg} (h : V.heap[b]? = some (eo e)) : EFld V b e :=
  ⟨Joins.cell_of_block h 0, Joins.cell_of_block h 1, Joins.cell_of_block h 2, Joins.cell_of_block h 3, Joins.cell_of_block h 4, Joins.cell_of_block h 5, Joins.cell_of_block h 6, Joins.cell_of_block h 7,
   Joins.cell_of_block h 8, Joins.cell_of_block h 9, Joins.cell_of_block h 10, Joins.cell_of_block h 11, Joins.cell_of_block h 12, Joins.cell_of_block h 13, Joins.cell_of_block h 14, Joins.cell_of_block h 15⟩

/-- A row of integers of the call's own. -/
abbrev ro (l : List Int) : Obj := .cells (l.map (fun v => Value.int .i64 v)).toArray 3 (0, 0)
theorem ints_row {W : World} {n : Nat} {l : List Int} (h : W.heap[n]? = some (ro l)) : Lk.IntsAt W .i64 (some ⟨n, 0, none⟩) l := by
  intro i hi
  refine ⟨n, 0, rfl, ?_⟩
  have := Joins.cell_of_block h i
  rw [show (0 : Nat) + i = i from by omega, this]
  simp [hi]

theorem within1 (lo hi a : Int) (g : Nat) (W : World) (h : W.heap[g]? = some (ro [a])) : Calls Try.prog 47 #[.int .i64 lo, .int .i64 hi, .slice (some ⟨g, 0, none⟩) 1 1] W fun r w' => r = .returned (.bool (Em.within a lo hi)) ∧ W = w' := by
  have := within_c lo hi (some ⟨g, 0, none⟩) 1 [a] W (by simp) (ints_row h)
  simpa using this
theorem within2 (lo hi a b : Int) (g : Nat) (W : World) (h : W.heap[g]? = some (ro [a, b])) : Calls Try.prog 47 #[.int .i64 lo, .int .i64 hi, .slice (some ⟨g, 0, none⟩) 2 2] W fun r w' => r = .returned (.bool (Em.within a lo hi && Em.within b lo hi)) ∧ W = w' := by
  have := within_c lo hi (some ⟨g, 0, none⟩) 2 [a, b] W (by simp) (ints_row h)
  simpa using this
theorem within3 (lo hi a b c : Int) (g : Nat) (W : World) (h : W.heap[g]? = some (ro [a, b, c])) : Calls Try.prog 47 #[.int .i64 lo, .int .i64 hi, .slice (some ⟨g, 0, none⟩) 3 3] W fun r w' => r = .returned (.bool (Em.within a lo hi && Em.within b lo hi && Em.within c lo hi)) ∧ W = w' := by
  have := within_c lo hi (some ⟨g, 0, none⟩) 3 [a, b, c] W (by simp) (ints_row h)
  simpa [Bool.and_assoc] using this

theorem fw_v {t : Tv} {b : Bool} (h : fewB t.xs t.ys = b) (W : World) : Calls Try.prog 23 #[.agg #[.slice t.A t.xs.length t.ca, .slice t.B t.ys.length t.cb]] W fun r w' => r = .returned (.bool b) ∧ Below W.heap.size W w' := h ▸ few_c t.A t.B t.ca t.cb t.xs t.ys W

end Ew
end Go.Proofs.Ytioiffhbbhlgeaa
