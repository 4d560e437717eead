/- What the walks of layer 2's laws share. -/
import Derived.Test.YteipmionpokfkaaTabLaw1
namespace Go.Proofs.Yteipmionpokfkaa
namespace TabC
open Go.RowKit

/-- A cell that lay when the call began. -/
theorem Held.cell {n : Nat} {A B : Option Addr} {ca cb : Nat} {xs ys : List Int} {w W : World} (h : Held n A B ca cb xs ys w W) {p : Addr} {v : Value} (hp : w.cell? p = some v) : W.cell? p = some v :=
  (h.old.cell (World.block_lt_of_cell? _ _ hp)).trans hp

/-- Of a table that may be: its lists lie at two addresses. -/
structure Lies (w : World) (A B : Option Addr) (xs ys : List Int) (b1 o1 b3 o3 : Nat) : Prop where
  ea : A = some ⟨b1, o1, none⟩
  eb : B = some ⟨b3, o3, none⟩
  xc : ∀ j, j < xs.length → w.cell? ⟨b1, o1 + j, none⟩ = some (.int .i64 (Tb.g xs j))
  yc : ∀ j, j < xs.length → w.cell? ⟨b3, o3 + j, none⟩ = some (.int .i64 (Tb.g ys j))
theorem lies_of {w : World} {A B : Option Addr} {xs ys : List Int} (h : TabIn w A B xs ys) (ok : Tb.Ok xs ys) : ∃ b1 o1 b3 o3, Lies w A B xs ys b1 o1 b3 o3 := by
  have h2 := ok.two
  have hs := ok.same
  obtain ⟨b1, o1, e1, _⟩ := cellG h.xa (i := 0) (by omega)
  obtain ⟨b3, o3, e3, _⟩ := cellG h.ya (i := 0) (by omega)
  refine ⟨b1, o1, b3, o3, e1, e3, fun j hj => ?_, fun j hj => ?_⟩
  · obtain ⟨b, o, e, hc⟩ := cellG h.xa hj
    rw [e1] at e
    simp only [Option.some.injEq, Addr.mk.injEq, and_true] at e
    obtain ⟨rfl, rfl⟩ := e
    exact hc
  · obtain ⟨b, o, e, hc⟩ := cellG h.ya (i := j) (by omega)
    rw [e3] at e
    simp only [Option.some.injEq, Addr.mk.injEq, and_true] at e
    obtain ⟨rfl, rfl⟩ := e
    exact hc

theorem atv_ok {xs ys : List Int} (h : Tb.okB xs ys = true) (x : Int) : Tb.atv xs ys x = Tb.atO xs ys x := by simp [Tb.atv, h]
theorem bk_ok {xs ys : List Int} (h : Tb.okB xs ys = true) (y : Int) : Tb.bk xs ys y = Tb.bkO xs ys y := by simp [Tb.bk, h]
theorem pk_ok {xs ys : List Int} (h : Tb.okB xs ys = true) : Tb.pk xs ys = Tb.mx ys := by simp [Tb.pk, h]
theorem st_ok {xs ys : List Int} (h : Tb.okB xs ys = true) : Tb.st xs ys = Tb.stU xs ys (xs.length - 1) := by simp [Tb.st, h]

end TabC
end Go.Proofs.Yteipmionpokfkaa
