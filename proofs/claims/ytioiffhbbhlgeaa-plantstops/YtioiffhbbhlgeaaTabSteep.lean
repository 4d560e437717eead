/- Contract of table.Steep. -/
import Derived.Test.YtioiffhbbhlgeaaTabAt
import Derived.Stop.RegionWithIn
namespace Go.Proofs.Ytioiffhbbhlgeaa
namespace TabC
open Go.RowKit Go.Shelf

attribute [local go_sem] Oper.semAt_some

def stP (xs ys : List Int) (pre : List (Idx xs)) : Int := Tb.mx (pre.map fun k => Tb.stp xs ys k.1)
theorem stP_snoc (xs ys : List Int) (pre : List (Idx xs)) (k : Idx xs) : stP xs ys (pre ++ [k]) = max (stP xs ys pre) (Tb.stp xs ys k.1) := by simp [stP, Tb.mx]
theorem stP_ups (xs ys : List Int) : ∀ m, m + 1 ≤ xs.length → stP xs ys (ups xs m) = Tb.stU xs ys m
  | 0, _ => rfl
  | m + 1, h => by rw [ups_succ (by omega), stP_snoc, stP_ups xs ys m (by omega), Tb.stU_succ]
theorem KpT.of_below {n₀ Bs : Nat} {W W' : World} (h : Below W.heap.size W W') (h1 : n₀ ≤ W.heap.size) (h2 : Bs < W.heap.size) : KpT n₀ Bs W W' := ⟨h.mono h1, h.block Bs h2⟩
theorem KpT.setCell {n₀ Bs : Nat} {W W' : World} (h : KpT n₀ Bs W W') {p : Addr} (h1 : n₀ ≤ p.block) (h2 : p.block ≠ Bs) (v : Value) : KpT n₀ Bs W (W'.setCell p v) := ⟨h.1.setCell h1 v, (Below.heap_setCell _ _ _ _ (Ne.symm h2)).trans h.2⟩

end TabC
end Go.Proofs.Ytioiffhbbhlgeaa
