/- Contracts of table.Back's closure, and of sort.Search over it. -/
import Derived.Test.YtioiffhbbhlgeaaTabAt
import Derived.Deep.RegionHeld3
namespace Go.Proofs.Ytioiffhbbhlgeaa
namespace TabC
open Go.RowKit Go.Shelf

/-- What is asked at the i-th place of a step. -/
def askB (f t a b y i : Int) : Bool := decide (y ≤ a + (f + i - f) * (b - a) / (t - f))

theorem keepS {w W w2 : World} {Bx By : Nat} {f t a b y : Int} (lS : Bx < w.heap.size) (lY : By < w.heap.size)
    (h : (W.cell? ⟨Bx, 0, none⟩ = some (.int .i64 f) ∧ W.cell? ⟨Bx, 1, none⟩ = some (.int .i64 t) ∧ W.cell? ⟨Bx, 2, none⟩ = some (.int .i64 a) ∧ W.cell? ⟨Bx, 3, none⟩ = some (.int .i64 b)) ∧ W.cell? ⟨By, 0, none⟩ = some (.int .i64 y) ∧ Below w.heap.size w W) (hb : Below W.heap.size W w2) :
    (w2.cell? ⟨Bx, 0, none⟩ = some (.int .i64 f) ∧ w2.cell? ⟨Bx, 1, none⟩ = some (.int .i64 t) ∧ w2.cell? ⟨Bx, 2, none⟩ = some (.int .i64 a) ∧ w2.cell? ⟨Bx, 3, none⟩ = some (.int .i64 b)) ∧ w2.cell? ⟨By, 0, none⟩ = some (.int .i64 y) ∧ Below w.heap.size w w2 := by
  obtain ⟨⟨h0, h1, h2, h3⟩, h4, h5⟩ := h
  have hs := h5.size
  have k := hb.mono hs
  exact ⟨⟨(k.cell (p := ⟨Bx, 0, none⟩) lS).trans h0, (k.cell (p := ⟨Bx, 1, none⟩) lS).trans h1, (k.cell (p := ⟨Bx, 2, none⟩) lS).trans h2, (k.cell (p := ⟨Bx, 3, none⟩) lS).trans h3⟩, (k.cell (p := ⟨By, 0, none⟩) lY).trans h4, h5.trans k⟩

def Found (p : Int → Bool) (n r : Int) : Prop := 0 ≤ r ∧ r ≤ n ∧ (0 < r → p (r - 1) = false) ∧ (r < n → p r = true)
def FoundAt (p : Int → Bool) (n : Int) (w : World) (e : Ending) (w' : World) : Prop := ∃ r, Found p n r ∧ e = .returned (.int .i64 r) ∧ Below w.heap.size w w'
structure Halves (p : Int → Bool) (n i j : Int) : Prop where
  lo : 0 ≤ i
  le : i ≤ j
  hi : j ≤ n
  no : 0 < i → p (i - 1) = false
  yes : j < n → p j = true

end TabC
end Go.Proofs.Ytioiffhbbhlgeaa
