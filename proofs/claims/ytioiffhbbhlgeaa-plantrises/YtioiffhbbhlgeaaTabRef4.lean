/- Contract of the document's own Back. -/
import Derived.Test.YtioiffhbbhlgeaaTabRef3
namespace Go.Proofs.Ytioiffhbbhlgeaa
namespace TabC
open Go.RowKit

/-- A step in which so much is reached, and two places of it. -/
structure Mids (xs ys : List Int) (y : Int) (k : Nat) (lo hi : Int) : Prop where
  ge : Tb.g xs k ≤ lo
  lt : lo < hi
  le : hi ≤ Tb.g xs (k + 1)
  no : Tb.atO xs ys lo < y
  yes : y ≤ Tb.atO xs ys hi

theorem Mids.found {xs ys : List Int} {y : Int} {k : Nat} {lo hi : Int} (h : Mids xs ys y k lo hi) (ok : Tb.Ok xs ys) (hk : k + 1 < xs.length) (hy : ∀ j, j ≤ k → Tb.g ys j < y) (hy1 : y ≤ Tb.g ys (k + 1)) (h1 : hi - lo ≤ 1) : Tb.bkO xs ys y = hi := by
  have a := h.ge
  have b := h.lt
  have c := h.le
  have d := h.no
  have e := h.yes
  obtain rfl : lo = hi - 1 := by omega
  rw [Tb.at_seg ok hk (by omega) (by omega)] at d e
  exact Tb.bk_seg ok hk hy hy1 (by omega) c d e

end TabC
end Go.Proofs.Ytioiffhbbhlgeaa
