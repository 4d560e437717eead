/- A table and its box, held through calls; turbojetlaw02.Few. -/
import Derived.Test.YtioiffhbbhlgeaaTabAt2
import Derived.Test.YtioiffhbbhlgeaaTabRef3
namespace Go.Proofs.Ytioiffhbbhlgeaa
namespace TabC
open Go.RowKit

theorem few_yes (A B : Option Addr) (ca cb : Nat) (xs ys : List Int) (w : World) (h1 : xs.length ≤ 40) (h2 : ys.length ≤ 40) :
    Calls Try.prog 23 #[.agg #[.slice A xs.length ca, .slice B ys.length cb]] w fun e w' => e = .returned (.bool true) ∧ Below w.heap.size w w' := by
  have d1 : decide ((xs.length : Int) ≤ 40) = true := by simp; omega
  have d2 : decide ((ys.length : Int) ≤ 40) = true := by simp; omega
  go_enter Try.func23, Try.ntmps23
  go_wp2
  go_ret
  exact ⟨rfl, (Below.refl _ _).alloc (Nat.le_refl _) _⟩
theorem few_no (A B : Option Addr) (ca cb : Nat) (xs ys : List Int) (w : World) (h : 40 < xs.length ∨ 40 < ys.length) :
    Calls Try.prog 23 #[.agg #[.slice A xs.length ca, .slice B ys.length cb]] w fun e w' => e = .returned (.bool false) ∧ Below w.heap.size w w' := by
  by_cases h1 : 40 < xs.length
  · clear h
    have d1 : decide ((xs.length : Int) ≤ 40) = false := by simp; omega
    go_enter Try.func23, Try.ntmps23
    go_wp2
    go_ret
    exact ⟨rfl, (Below.refl _ _).alloc (Nat.le_refl _) _⟩
  · have h2 : 40 < ys.length := by omega
    clear h
    have d1 : decide ((xs.length : Int) ≤ 40) = true := by simp; omega
    have d2 : decide ((ys.length : Int) ≤ 40) = false := by simp; omega
    go_enter Try.func23, Try.ntmps23
    go_wp2
    go_ret
    exact ⟨rfl, (Below.refl _ _).alloc (Nat.le_refl _) _⟩
def fewB (xs ys : List Int) : Bool := decide (xs.length ≤ 40) && decide (ys.length ≤ 40)
theorem few_c (A B : Option Addr) (ca cb : Nat) (xs ys : List Int) (w : World) :
    Calls Try.prog 23 #[.agg #[.slice A xs.length ca, .slice B ys.length cb]] w fun e w' => e = .returned (.bool (fewB xs ys)) ∧ Below w.heap.size w w' := by
  by_cases h : 40 < xs.length ∨ 40 < ys.length
  · rw [show fewB xs ys = false from by simp only [fewB, Bool.and_eq_false_iff, decide_eq_false_iff_not]; omega]; exact few_no A B ca cb xs ys w h
  · rw [show fewB xs ys = true from by simp only [fewB, Bool.and_eq_true, decide_eq_true_eq]; omega]; exact few_yes A B ca cb xs ys w (by omega) (by omega)

/-- A table, its box at n, and what was there. -/
structure Held (n : Nat) (A B : Option Addr) (ca cb : Nat) (xs ys : List Int) (w W : World) : Prop where
  tab : TabIn W A B xs ys
  box : Lk.BoxV W n 24 #[.slice A xs.length ca, .slice B ys.length cb]
  old : Below w.heap.size w W
theorem Held.below {n : Nat} {A B : Option Addr} {ca cb : Nat} {xs ys : List Int} {w W W' : World} (h : Held n A B ca cb xs ys w W) (hb : Below W.heap.size W W') : Held n A B ca cb xs ys w W' :=
  ⟨h.tab.below hb, h.box.below hb h.box.lt, h.old.trans (hb.mono h.old.size)⟩
theorem Held.drew {n : Nat} {A B : Option Addr} {ca cb : Nat} {xs ys : List Int} {w W : World} (h : Held n A B ca cb xs ys w W) : Held n A B ca cb xs ys w W.drew := h.below (Below.refl W.heap.size W).drew
theorem Held.alloc {n : Nat} {A B : Option Addr} {ca cb : Nat} {xs ys : List Int} {w W : World} (h : Held n A B ca cb xs ys w W) (o : Obj) : Held n A B ca cb xs ys w (W.alloc o) := h.below ((Below.refl _ _).alloc (Nat.le_refl _) _)
theorem Held.new {A B : Option Addr} {ca cb : Nat} {xs ys : List Int} {w : World} (h : TabIn w A B xs ys) : Held w.heap.size A B ca cb xs ys w (w.alloc (.cells #[.slice A xs.length ca, .slice B ys.length cb] 24)) :=
  ⟨h.alloc _, Lk.BoxV.new _ _ _, (Below.refl _ _).alloc (Nat.le_refl _) _⟩
theorem Held.c0 {n : Nat} {A B : Option Addr} {ca cb : Nat} {xs ys : List Int} {w W : World} (h : Held n A B ca cb xs ys w W) : W.cell? ⟨n, 0, none⟩ = some (.slice A xs.length ca) := by rw [h.box.cell]; rfl
theorem Held.c1 {n : Nat} {A B : Option Addr} {ca cb : Nat} {xs ys : List Int} {w W : World} (h : Held n A B ca cb xs ys w W) : W.cell? ⟨n, 1, none⟩ = some (.slice B ys.length cb) := by rw [h.box.cell]; rfl

end TabC
end Go.Proofs.Ytioiffhbbhlgeaa
