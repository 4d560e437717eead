/- Contract of table.Back. -/
import Derived.Test.YtioiffhbbhlgeaaTabBack
import Derived.Test.YtioiffhbbhlgeaaTabSteep
import Derived.Test.YtioiffhbbhlgeaaHeldIn
namespace Go.Proofs.Ytioiffhbbhlgeaa
namespace TabC
open Go.RowKit Go.Shelf

attribute [local go_sem] Oper.semAt_some

def askK (xs ys : List Int) (y : Int) (k : Nat) : Int → Bool := askB (Tb.g xs k) (Tb.g xs (k + 1)) (Tb.g ys k) (Tb.g ys (k + 1)) y
theorem askK_eq (xs ys : List Int) (y : Int) (k : Nat) (i : Int) : askK xs ys y k i = decide (y ≤ Tb.seg xs ys k (Tb.g xs k + i)) := rfl
def BackPre (xs ys : List Int) (y : Int) (pre : List (Idx xs)) : Prop := ∀ k ∈ pre, Tb.g ys (k.1 + 1) < y
def BackLast (xs ys : List Int) (y : Int) (pre : List (Idx xs)) (v : Int) : Prop := ∃ ini last r, pre = ini ++ [last] ∧ BackPre xs ys y ini ∧ y ≤ Tb.g ys (last.1 + 1) ∧ Found (askK xs ys y last.1) (Tb.g xs (last.1 + 1) - Tb.g xs last.1) r ∧ v = Tb.g xs last.1 + r
theorem BackPre.snoc {xs ys : List Int} {y : Int} {pre : List (Idx xs)} (h : BackPre xs ys y pre) {k : Idx xs} (hk : Tb.g ys (k.1 + 1) < y) : BackPre xs ys y (pre ++ [k]) :=
  fun j hj => (List.mem_append.1 hj).elim (h j) (fun e => by rw [List.mem_singleton.1 e]; exact hk)
theorem bk_all {xs ys : List Int} {y : Int} (ok : Tb.Ok xs ys) (h0 : Tb.g ys 0 < y) (h : BackPre xs ys y (ups xs (xs.length - 1))) : Tb.bkO xs ys y = Tb.g xs (xs.length - 1) := by
  have h2 := ok.two
  refine Tb.bk_none ok (fun j hj => ?_)
  cases j with
  | zero => exact h0
  | succ j => exact h ⟨j, hj⟩ ((mem_ups (by omega)).2 (by simp; omega))
theorem bk_some {xs ys : List Int} {y v : Int} {k : Nat} (ok : Tb.Ok xs ys) (h0 : Tb.g ys 0 < y) (hk : k + 1 < xs.length) (h : BackLast xs ys y (ups xs (k + 1)) v) : Tb.bkO xs ys y = v := by
  obtain ⟨ini, last, r, e, h1, h2, ⟨f0, f1, f2, f3⟩, rfl⟩ := h
  rw [ups_succ hk] at e
  obtain ⟨rfl, e2⟩ := List.append_inj' e rfl
  obtain rfl : (⟨k, hk⟩ : Idx xs) = last := by simpa using e2
  have hu := ok.up k hk
  have hy : ∀ j, j ≤ k → Tb.g ys j < y := fun j hj => by
    cases j with
    | zero => exact h0
    | succ j => exact h1 ⟨j, by omega⟩ ((mem_ups (by omega)).2 hj)
  simp only [askK_eq] at f1 f2 f3
  have r0 : 0 < r := by
    rcases Int.lt_or_le 0 r with c | c
    · exact c
    · obtain rfl : r = 0 := by omega
      have := f3 (by omega)
      rw [Int.add_zero, Tb.seg_lo] at this
      have := of_decide_eq_true this
      have := hy k (Nat.le_refl _)
      omega
  have a1 := of_decide_eq_false (f2 r0)
  refine Tb.bk_seg ok hk hy h2 (by simp; omega) (by simp; omega) (by rw [show Tb.g xs k + r - 1 = Tb.g xs k + (r - 1) from by omega]; omega) ?_
  rcases Int.lt_or_le r (Tb.g xs (k + 1) - Tb.g xs k) with c | c
  · exact of_decide_eq_true (f3 c)
  · obtain rfl : r = Tb.g xs (k + 1) - Tb.g xs k := by omega
    rw [show Tb.g xs k + (Tb.g xs (k + 1) - Tb.g xs k) = Tb.g xs (k + 1) from by omega, Tb.seg_hi ok hk]
    exact h2

end TabC
end Go.Proofs.Ytioiffhbbhlgeaa
