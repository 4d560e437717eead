/- The walks of TableNames and TableTells. -/
import Derived.Test.YteipmionpokfkaaTabAwake
import Derived.Test.YteipmionpokfkaaTabRef3
import Derived.Deep.RegionHeld3
namespace Go.Proofs.Yteipmionpokfkaa
namespace TabC
open Go.RowKit

theorem TableNames_walk (w : World) : Calls Try.prog 3 #[] w fun e w' => e = .returned (.bool true) ∧ Below w.heap.size w w' := by
  go_enter Try.func3, Try.ntmps3
  go_wp2_with (go_at_call 11; refine (awake_c _).mono ?_; rintro e w1 ⟨rfl, hb⟩)
  go_ret
  exact ⟨rfl, by assumption⟩

theorem few_yes (A B : Option Addr) (ca cb : Nat) (xs ys : List Int) (w : World) (h1 : xs.length ≤ 40) (h2 : ys.length ≤ 40) :
    Calls Try.prog 12 #[.agg #[.slice A xs.length ca, .slice B ys.length cb]] w fun e w' => e = .returned (.bool true) ∧ Below w.heap.size w w' := by
  have d1 : decide ((xs.length : Int) ≤ 40) = true := by simp; omega
  have d2 : decide ((ys.length : Int) ≤ 40) = true := by simp; omega
  go_enter Try.func12, Try.ntmps12
  go_wp2
  go_ret
  exact ⟨rfl, (Below.refl _ _).alloc (Nat.le_refl _) _⟩
theorem few_no (A B : Option Addr) (ca cb : Nat) (xs ys : List Int) (w : World) (h : 40 < xs.length ∨ 40 < ys.length) :
    Calls Try.prog 12 #[.agg #[.slice A xs.length ca, .slice B ys.length cb]] w fun e w' => e = .returned (.bool false) ∧ Below w.heap.size w w' := by
  by_cases h1 : 40 < xs.length
  · clear h
    have d1 : decide ((xs.length : Int) ≤ 40) = false := by simp; omega
    go_enter Try.func12, Try.ntmps12
    go_wp2
    go_ret
    exact ⟨rfl, (Below.refl _ _).alloc (Nat.le_refl _) _⟩
  · have h2 : 40 < ys.length := by omega
    clear h
    have d1 : decide ((xs.length : Int) ≤ 40) = true := by simp; omega
    have d2 : decide ((ys.length : Int) ≤ 40) = false := by simp; omega
    go_enter Try.func12, Try.ntmps12
    go_wp2
    go_ret
    exact ⟨rfl, (Below.refl _ _).alloc (Nat.le_refl _) _⟩

/-- A table, its box at n, and what was there. -/
structure Held (n : Nat) (A B : Option Addr) (ca cb : Nat) (xs ys : List Int) (w W : World) : Prop where
  tab : TabIn W A B xs ys
  box : Lk.BoxV W n 25 #[.slice A xs.length ca, .slice B ys.length cb]
  old : Below w.heap.size w W
theorem Held.below {n : Nat} {A B : Option Addr} {ca cb : Nat} {xs ys : List Int} {w W W' : World} (h : Held n A B ca cb xs ys w W) (hb : Below W.heap.size W W') : Held n A B ca cb xs ys w W' :=
  ⟨h.tab.below hb, h.box.below hb h.box.lt, h.old.trans (hb.mono h.old.size)⟩
theorem Held.drew {n : Nat} {A B : Option Addr} {ca cb : Nat} {xs ys : List Int} {w W : World} (h : Held n A B ca cb xs ys w W) : Held n A B ca cb xs ys w W.drew := h.below (Below.refl W.heap.size W).drew
theorem Held.alloc {n : Nat} {A B : Option Addr} {ca cb : Nat} {xs ys : List Int} {w W : World} (h : Held n A B ca cb xs ys w W) (o : Obj) : Held n A B ca cb xs ys w (W.alloc o) := h.below ((Below.refl _ _).alloc (Nat.le_refl _) _)
theorem Held.new {A B : Option Addr} {ca cb : Nat} {xs ys : List Int} {w : World} (h : TabIn w A B xs ys) : Held w.heap.size A B ca cb xs ys w (w.alloc (.cells #[.slice A xs.length ca, .slice B ys.length cb] 25)) :=
  ⟨h.alloc _, Lk.BoxV.new _ _ _, (Below.refl _ _).alloc (Nat.le_refl _) _⟩
theorem Held.c0 {n : Nat} {A B : Option Addr} {ca cb : Nat} {xs ys : List Int} {w W : World} (h : Held n A B ca cb xs ys w W) : W.cell? ⟨n, 0, none⟩ = some (.slice A xs.length ca) := by rw [h.box.cell]; rfl
theorem Held.c1 {n : Nat} {A B : Option Addr} {ca cb : Nat} {xs ys : List Int} {w W : World} (h : Held n A B ca cb xs ys w W) : W.cell? ⟨n, 1, none⟩ = some (.slice B ys.length cb) := by rw [h.box.cell]; rfl
theorem Held.kept {n : Nat} {A B : Option Addr} {ca cb : Nat} {xs ys : List Int} {w W : World} (h : Held n A B ca cb xs ys w W) : W.cell? ⟨n, 0, none⟩ = some (.slice A xs.length ca) ∧ W.cell? ⟨n, 1, none⟩ = some (.slice B ys.length cb) ∧ Held n A B ca cb xs ys w W := ⟨h.c0, h.c1, h⟩
theorem kept_on {n : Nat} {A B : Option Addr} {ca cb : Nat} {xs ys : List Int} {w W W' : World} (h : W.cell? ⟨n, 0, none⟩ = some (.slice A xs.length ca) ∧ W.cell? ⟨n, 1, none⟩ = some (.slice B ys.length cb) ∧ Held n A B ca cb xs ys w W) (hb : Below W.heap.size W W') :
    W'.cell? ⟨n, 0, none⟩ = some (.slice A xs.length ca) ∧ W'.cell? ⟨n, 1, none⟩ = some (.slice B ys.length cb) ∧ Held n A B ca cb xs ys w W' := (h.2.2.below hb).kept

set_option maxRecDepth 100000 in
set_option maxHeartbeats 8000000 in
theorem TableTells_walk (A B : Option Addr) (ca cb : Nat) (xs ys : List Int) (x : Int) (w : World) (hT : TabIn w A B xs ys) :
    Calls Try.prog 4 #[.agg #[.slice A xs.length ca, .slice B ys.length cb], .int .i64 x] w fun e w' => e = .returned (.bool true) ∧ Below w.heap.size w w' := by
  have HH := Lib.hid (Held.new (ca := ca) (cb := cb) hT)
  clear hT
  go_enter Try.func4, Try.ntmps4
  go_wp2_with fail
  refine (awake_c _).mono ?_
  rintro e w1 ⟨rfl, hb⟩
  replace HH := Lib.hid (HH.out.below hb)
  have c0 := HH.out.c0
  have c1 := HH.out.c1
  clear hb
  go_wp2_with fail
  by_cases hf : 40 < xs.length ∨ 40 < ys.length
  · refine (few_no A B ca cb xs ys _ hf).mono ?_
    rintro e w2 ⟨rfl, hb⟩
    replace HH := Lib.hid (HH.out.below hb)
    clear hb c0 c1 hf
    go_wp2_with fail
    go_ret
    exact ⟨rfl, HH.out.old⟩
  · refine (few_yes A B ca cb xs ys _ (by omega) (by omega)).mono ?_
    rintro e w2 ⟨rfl, hb⟩
    replace HH := Lib.hid (HH.out.below hb)
    replace c0 := HH.out.c0
    replace c1 := HH.out.c1
    clear hb hf
    go_wp2_with fail
    go_region_held3 (fun W => W.cell? ⟨w.heap.size, 0, none⟩ = some (.slice A xs.length ca) ∧ W.cell? ⟨w.heap.size, 1, none⟩ = some (.slice B ys.length cb) ∧ Held w.heap.size A B ca cb xs ys w W)
      (first | exact HH.out.kept | exact HH.out.drew.kept | exact kept_on (by assumption) (by assumption) | go_keep)
      (first
        | (go_at_call 13; refine (check_c A B ca cb xs ys _ (Held.tab (And.right (And.right (by assumption))))).mono ?_; rintro e w3 ⟨rfl, hb⟩)
        | (go_at_call 14; refine (rcheck_c A B ca cb xs ys _ (Held.tab (And.right (And.right (by assumption))))).mono ?_; rintro e w3 ⟨rfl, hb⟩)
        | (go_at_call 15; refine (rising_c A B ca cb xs ys _ (Held.tab (And.right (And.right (by assumption))))).mono ?_; rintro e w3 ⟨rfl, hb⟩)
        | (go_at_call 16; refine (rrising_c A B ca cb xs ys _ (Held.tab (And.right (And.right (by assumption))))).mono ?_; rintro e w3 ⟨rfl, hb⟩)
        | (go_at_call 17; refine (atv_c A B ca cb xs ys _ _ (Held.tab (And.right (And.right (by assumption))))).mono ?_; rintro e w3 ⟨rfl, hb⟩)
        | (go_at_call 18; refine (rat_c A B ca cb xs ys _ _ (Held.tab (And.right (And.right (by assumption))))).mono ?_; rintro e w3 ⟨rfl, hb⟩)
        | (go_at_call 19; refine (peak_c A B ca cb xs ys _ (Held.tab (And.right (And.right (by assumption))))).mono ?_; rintro e w3 ⟨rfl, hb⟩)
        | (go_at_call 20; refine (rpeak_c A B ca cb xs ys _ (Held.tab (And.right (And.right (by assumption))))).mono ?_; rintro e w3 ⟨rfl, hb⟩)
        | (go_at_call 21; refine (st_c A B ca cb xs ys _ (Held.tab (And.right (And.right (by assumption))))).mono ?_; rintro e w3 ⟨rfl, hb⟩)
        | (go_at_call 22; refine (rsteep_c A B ca cb xs ys _ (Held.tab (And.right (And.right (by assumption))))).mono ?_; rintro e w3 ⟨rfl, hb⟩))
    all_goals
      have hk : Held w.heap.size A B ca cb xs ys w w3 := And.right (And.right (by assumption))
      go_wp2_with fail
      go_ret
      exact ⟨rfl, hk.old⟩

end TabC
end Go.Proofs.Yteipmionpokfkaa
