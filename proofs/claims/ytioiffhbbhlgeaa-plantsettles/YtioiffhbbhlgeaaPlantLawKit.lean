/- For the laws of layer 21: apart, the boxes of an engine and a plant, what is loaded at a law's end. -/
import Derived.Test.YtioiffhbbhlgeaaPlantAwake
import Derived.Test.YtioiffhbbhlgeaaPlantRef2
import Derived.Test.YtioiffhbbhlgeaaSynthLaw1
import Derived.Test.YtioiffhbbhlgeaaMinKit
namespace Go.Proofs.Ytioiffhbbhlgeaa
namespace Plw
open Go.RowKit TabC Lk Ew

/-- How much two numbers differ. -/
theorem apart_c (a b : Int) (w : World) (a0 : 0 ≤ a ∧ a ≤ 1048576) (b0 : 0 ≤ b ∧ b ≤ 1048576) : Calls Try.prog 21 #[.int .i64 a, .int .i64 b] w fun r w' => r = .returned (.int .i64 (Pl.dist a b)) ∧ w = w' := by
  have m : IntKind.i64.wrap (max a b - min a b) = max a b - min a b := IntWalk.i64_in _ (by omega)
  unfold Pl.dist
  clear a0 b0
  go_enter Try.func21, Try.ntmps21
  go_wp2_with fail
  go_ret
  exact ⟨rfl, rfl⟩
/-- What is loaded at the end. -/
abbrev SZ (V : World) (b s : Nat) (e : Eg) (q : Pl.Pt) : Prop := V.cell? ⟨b, 4, none⟩ = some (.bool q.lit) ∧ V.cell? ⟨b, 3, none⟩ = some (.int .i64 q.valve) ∧ V.cell? ⟨b, 1, none⟩ = some (.int .i64 q.n2) ∧ V.cell? ⟨b, 0, none⟩ = some (.int .i64 q.n1) ∧ V.cell? ⟨b, 2, none⟩ = some (.int .i64 q.heat) ∧ V.cell? ⟨s, 8, none⟩ = some (.int .i64 e.lag2) ∧ V.cell? ⟨s, 9, none⟩ = some (.int .i64 e.lag1) ∧ V.cell? ⟨s, 10, none⟩ = some (.int .i64 e.lagE) ∧ V.cell? ⟨s, 4, none⟩ = some (.slice e.q.A e.q.xs.length e.q.ca) ∧ V.cell? ⟨s, 5, none⟩ = some (.slice e.q.B e.q.ys.length e.q.cb)
theorem sz {w V : World} {b s : Nat} {e : Eg} {q p : Pl.Pt} (h : Hv w V [(b, po q), (s + 1, po p), (s, eo e)]) : SZ V b s e q :=
  ⟨Joins.cell_of_block h.head 4, Joins.cell_of_block h.head 3, Joins.cell_of_block h.head 1, Joins.cell_of_block h.head 0, Joins.cell_of_block h.head 2, Joins.cell_of_block h.h3 8, Joins.cell_of_block h.h3 9, Joins.cell_of_block h.h3 10, Joins.cell_of_block h.h3 4, Joins.cell_of_block h.h3 5⟩
theorem two_b (w : World) (e : Eg) (p : Pl.Pt) : Hv w ((w.alloc (eo e)).alloc (po p)) [(w.heap.size + 1, po p), (w.heap.size, eo e)] := by
  have := ((Hv.nil w).made (eo e)).made (po p)
  simpa only [World.size_alloc] using this

end Plw
end Go.Proofs.Ytioiffhbbhlgeaa
