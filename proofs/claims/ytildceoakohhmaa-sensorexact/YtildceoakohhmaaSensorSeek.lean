/- A count's value is sought by halving: the closure, and sort.Search over it. -/
import Derived.Test.YtildceoakohhmaaSensorRaw
namespace Go.Proofs.Ytildceoakohhmaa
namespace Sw
open Go.RowKit

/-- What the closure holds: the method value, the scale, the count. -/
structure Cl (W : World) (b1 b2 b3 : Nat) (g o l h n : Int) : Prop where
  fn : W.heap[b1]? = some (.cells #[.func (.func 19) #[.agg (sc g o l h)] #[]] 34 (0, 0))
  at_ : Scl W b2 24 g o l h
  num : W.heap[b3]? = some (.cells #[.int .i64 n] 3 (0, 0))
namespace Cl
variable {W W' : World} {b1 b2 b3 : Nat} {g o l h n : Int}
theorem grow (k : Cl W b1 b2 b3 g o l h n) (hb : Below W.heap.size W W') : Cl W' b1 b2 b3 g o l h n :=
  ⟨(hb.block b1 (Array.getElem?_eq_some_iff.1 k.fn).1).trans k.fn, k.at_.grow hb, (hb.block b3 (Array.getElem?_eq_some_iff.1 k.num).1).trans k.num⟩
theorem drew (k : Cl W b1 b2 b3 g o l h n) : Cl W.drew b1 b2 b3 g o l h n := ⟨k.fn, k.at_, k.num⟩
theorem cells (k : Cl W b1 b2 b3 g o l h n) : W.cell? ⟨b1, 0, none⟩ = some (.func (.func 19) #[.agg (sc g o l h)] #[]) ∧ W.cell? ⟨b2, 2, none⟩ = some (.int .i64 l) ∧ W.cell? ⟨b3, 0, none⟩ = some (.int .i64 n) :=
  ⟨Joins.cell_of_block k.fn 0, k.at_.fld.2.2.1, Joins.cell_of_block k.num 0⟩
end Cl

set_option maxRecDepth 100000 in
set_option maxHeartbeats 4000000 in
theorem near_c (g o l h n : Int) (k : Sn.Ok g o l h) (i : Int) (h1 : l ≤ l + i) (h2 : l + i ≤ h) (b1 b2 b3 : Nat) (w : World) (hc : Cl w b1 b2 b3 g o l h n) :
    Calls Try.prog 24 #[.int .i64 i, .pointer (some ⟨b1, 0, none⟩), .pointer (some ⟨b2, 0, none⟩), .pointer (some ⟨b3, 0, none⟩)] w fun e w' => e = .returned (.bool (decide (n ≤ Sn.cnt g o (l + i)))) ∧ Below w.heap.size w w' := by
  have HC := Lib.hid hc
  have CC := Lib.hid (count_c g o l h (l + i) (ok_in k h1 h2) (ok_g k) (ok_o k))
  have HW : Hid (IntKind.i64.wrap (l + i) = l + i) := IntWalk.i64_in _ (by have := ok_in k h1 h2; omega)
  have HB := Lib.hid (Below.refl w.heap.size w)
  have b1' := (ok_in k h1 h2).1
  have b2' := (ok_in k h1 h2).2
  clear hc k h1 h2
  go_enter Try.func24, Try.ntmps24
  go_wp2_with fail
  go_region_held3 (fun V => V.cell? ⟨b1, 0, none⟩ = some (.func (.func 19) #[.agg (sc g o l h)] #[]) ∧ V.cell? ⟨b2, 2, none⟩ = some (.int .i64 l) ∧ V.cell? ⟨b3, 0, none⟩ = some (.int .i64 n)) (first | exact HC.out.cells | exact HC.out.drew.cells | fail)
    (first | (go_at_call 19; rw [HW.out]; (with_reducible refine (CC.out _).mono ?_); rintro e W2 ⟨rfl, hb⟩; replace HC := Lib.hid (HC.out.drew.grow hb); replace HB := Lib.hid (HB.out.drew.trans hb); clear hb CC) | (go_at_call 19; (with_reducible refine (CC.out _).mono ?_); rintro e W2 ⟨rfl, hb⟩; replace HC := Lib.hid (HC.out.drew.grow hb); replace HB := Lib.hid (HB.out.drew.trans hb); clear hb CC) | fail)
  all_goals
    go_wp2_with fail
    go_ret
    exact ⟨rfl, HB.out⟩
end Sw
end Go.Proofs.Ytildceoakohhmaa
