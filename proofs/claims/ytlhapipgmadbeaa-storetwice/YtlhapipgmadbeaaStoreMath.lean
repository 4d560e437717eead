/- Plain arithmetic of stores: places, which of them hold, and what a record that is put turns. No program is named here. -/
namespace Sp

/-- A place: its number, what it tells, and whether it is good. -/
structure Pl where
  num : Int
  code : Int
  cnt : Int
  lat : Bool
  good : Bool
/-- A record. -/
structure R where
  code : Int
  cnt : Int
  lat : Bool
  deriving DecidableEq
def rc (p : Pl) : R := ⟨p.code, p.cnt, p.lat⟩

/-- The k-th place keeps the i-th one from holding. -/
def beats (l : Nat → Pl) (k i : Nat) : Bool := (l k).good && decide ((l k).code = (l i).code) && (decide ((l i).num < (l k).num) || (decide ((l k).num = (l i).num) && decide (k < i)))
def best (P : Nat) (l : Nat → Pl) (i : Nat) : Bool := (l i).good && (List.range P).all fun k => !beats l k i
def cnt (P : Nat) (h : Nat → Bool) : Nat := (List.range P).countP h
/-- The one of the least number among the first n that hold, latched or not. -/
def old (l : Nat → Pl) (h : Nat → Bool) (x : Bool) : Nat → Option Nat
  | 0 => none
  | n + 1 => if h n = true ∧ (l n).lat = x ∧ (∀ a, old l h x n = some a → (l n).num < (l a).num) then some n else old l h x n
def dropAt (P : Nat) (l : Nat → Pl) (h : Nat → Bool) : Nat := match old l h false P with
  | some a => a
  | none => (old l h true P).getD 0
/-- Which of P places hold. -/
def holds (P : Nat) (l : Nat → Pl) (i : Nat) : Bool := if P - 1 < cnt P (best P l) then best P l i && decide (i ≠ dropAt P l (best P l)) else best P l i
def recs (P : Nat) (l : Nat → Pl) : List R := (List.range 255).flatMap fun c : Nat => ((List.range P).filter fun i => holds P l i && decide ((l i).code = (c : Int) + 1)).map fun i => rc (l i)
/-- The greatest number of any good place among the first n; 0 if there is none. -/
def most (l : Nat → Pl) : Nat → Int
  | 0 => 0
  | n + 1 => if (l n).good = true ∧ most l n < (l n).num then (l n).num else most l n
/-- The first place that does not hold. -/
def first (P : Nat) (h : Nat → Bool) : Nat := ((List.range P).find? fun i => !h i).getD 0
def upd (l : Nat → Pl) (a : Nat) (p : Pl) : Nat → Pl := fun i => if i = a then p else l i

/-! ### counting -/
theorem cnt_zero (h : Nat → Bool) : cnt 0 h = 0 := rfl
theorem cnt_succ (n : Nat) (h : Nat → Bool) : cnt (n + 1) h = cnt n h + (if h n = true then 1 else 0) := by
  unfold cnt
  rw [List.range_succ, List.countP_append]
  cases hn : h n <;> simp [hn]
theorem cnt_le (n : Nat) (h : Nat → Bool) : cnt n h ≤ n := by
  induction n with
  | zero => simp [cnt_zero]
  | succ n ih => rw [cnt_succ]; split <;> omega
theorem cnt_all {n : Nat} {h : Nat → Bool} (e : ∀ i, i < n → h i = true) : cnt n h = n := by
  induction n with
  | zero => rfl
  | succ n ih => rw [cnt_succ, ih fun i hi => e i (by omega), if_pos (e n (by omega))]
theorem cnt_congr {n : Nat} {h g : Nat → Bool} (e : ∀ i, i < n → h i = g i) : cnt n h = cnt n g := by
  induction n with
  | zero => rfl
  | succ n ih => rw [cnt_succ, cnt_succ, ih fun i hi => e i (by omega), e n (by omega)]
theorem cnt_lt {n : Nat} {h : Nat → Bool} {a : Nat} (ha : a < n) (e : h a = false) : cnt n h < n := by
  induction n with
  | zero => omega
  | succ n ih =>
    rw [cnt_succ]
    by_cases c : a = n
    · subst c; rw [e]; have := cnt_le a h; simp; omega
    · have := ih (by omega); split <;> omega
theorem cnt_full {n : Nat} {h : Nat → Bool} (e : cnt n h = n) {i : Nat} (hi : i < n) : h i = true := by
  cases c : h i with
  | true => rfl
  | false => have := cnt_lt hi c; omega
theorem cnt_but {n : Nat} {h : Nat → Bool} {a : Nat} (ha : a < n) (e : h a = true) : cnt n (fun i => h i && decide (i ≠ a)) + 1 = cnt n h := by
  induction n with
  | zero => omega
  | succ n ih =>
    rw [cnt_succ, cnt_succ]
    by_cases c : a = n
    · subst c
      have : cnt a (fun i => h i && decide (i ≠ a)) = cnt a h := cnt_congr fun i hi => by simp; omega
      rw [this, if_pos e]; simp
    · have := ih (by omega)
      have hn : (h n && decide (n ≠ a)) = h n := by simp; omega
      simp only [hn]
      omega
theorem cnt_mono {n : Nat} {h g : Nat → Bool} (e : ∀ i, i < n → h i = true → g i = true) : cnt n h ≤ cnt n g := by
  induction n with
  | zero => simp [cnt_zero]
  | succ n ih =>
    have := ih fun i hi => e i (by omega)
    rw [cnt_succ, cnt_succ]
    by_cases c : h n = true
    · rw [if_pos c, if_pos (e n (by omega) c)]; omega
    · rw [if_neg c]; omega

/-! ### the oldest -/
theorem old_some {l : Nat → Pl} {h : Nat → Bool} {x : Bool} : ∀ {n a : Nat}, old l h x n = some a →
    a < n ∧ h a = true ∧ (l a).lat = x ∧ ∀ j, j < n → h j = true → (l j).lat = x → (l a).num ≤ (l j).num ∧ ((l j).num = (l a).num → a ≤ j)
  | 0, a, e => by simp [old] at e
  | n + 1, a, e => by
    unfold old at e
    split at e
    · rename_i c
      obtain ⟨h1, h2, h3⟩ := c
      injection e with e
      subst e
      refine ⟨by omega, h1, h2, fun j hj hh hl => ?_⟩
      by_cases ej : j = n
      · subst ej; exact ⟨Int.le_refl _, fun _ => Nat.le_refl _⟩
      · cases ho : old l h x n with
        | none =>
          exfalso
          have := old_none ho j (by omega) hh
          exact this hl
        | some a' =>
          have hlt := h3 a' ho
          have := (old_some ho).2.2.2 j (by omega) hh hl
          exact ⟨by omega, fun e => by omega⟩
    · rename_i c
      obtain ⟨h1, h2, h3, h4⟩ := old_some e
      refine ⟨by omega, h2, h3, fun j hj hh hl => ?_⟩
      by_cases ej : j = n
      · subst ej
        have : ¬ (l j).num < (l a).num := fun hlt => c ⟨hh, hl, fun b hb => by rw [e] at hb; injection hb with hb; subst hb; exact hlt⟩
        exact ⟨by omega, fun _ => by omega⟩
      · exact h4 j (by omega) hh hl
 where
  old_none {l : Nat → Pl} {h : Nat → Bool} {x : Bool} : ∀ {n : Nat}, old l h x n = none → ∀ j, j < n → h j = true → (l j).lat ≠ x
  | 0, _, j, hj, _ => by omega
  | n + 1, e, j, hj, hh => by
    unfold old at e
    split at e
    · cases e
    · rename_i c
      by_cases ej : j = n
      · subst ej
        intro hl
        exact c ⟨hh, hl, fun a ha => by rw [e] at ha; cases ha⟩
      · exact old_none e j (by omega) hh
theorem old_none {l : Nat → Pl} {h : Nat → Bool} {x : Bool} {n : Nat} (e : old l h x n = none) : ∀ j, j < n → h j = true → (l j).lat ≠ x := old_some.old_none e
/-- The one that is let go is a place. -/
theorem drop_lt {P : Nat} {l : Nat → Pl} {h : Nat → Bool} (hP : 0 < P) : dropAt P l h < P := by
  unfold dropAt
  split
  · rename_i a ha; exact (old_some ha).1
  · rename_i hn
    cases ho : old l h true P with
    | some a => exact (old_some ho).1
    | none => exact hP

/-! ### which places hold -/
theorem beats_iff {l : Nat → Pl} {k i : Nat} : beats l k i = true ↔ (l k).good = true ∧ (l k).code = (l i).code ∧ ((l i).num < (l k).num ∨ ((l k).num = (l i).num ∧ k < i)) := by
  simp [beats, and_assoc]
theorem best_iff {P : Nat} {l : Nat → Pl} {i : Nat} : best P l i = true ↔ (l i).good = true ∧ ∀ k, k < P → ¬ beats l k i = true := by
  simp [best]
theorem beats_trans {l : Nat → Pl} {a b c : Nat} (h : beats l a b = true) (k : beats l b c = true) : beats l a c = true := by
  rw [beats_iff] at *
  obtain ⟨h1, h2, h3⟩ := h
  obtain ⟨k1, k2, k3⟩ := k
  exact ⟨h1, h2.trans k2, by omega⟩
/-- Two that hold, of one code, are one. -/
theorem best_uniq {P : Nat} {l : Nat → Pl} {i j : Nat} (hi : i < P) (hj : j < P) (h : best P l i = true) (k : best P l j = true) (e : (l i).code = (l j).code) : i = j := by
  rw [best_iff] at h k
  have a := h.2 j hj
  have b := k.2 i hi
  rw [beats_iff] at a b
  simp only [not_and, h.1, k.1, e, true_implies] at a b
  omega
theorem cnt_best_le (P : Nat) (l : Nat → Pl) : cnt P (best P l) ≤ P := cnt_le _ _
theorem holds_best {P : Nat} {l : Nat → Pl} {i : Nat} (h : holds P l i = true) : best P l i = true := by
  unfold holds at h
  split at h
  · simp only [Bool.and_eq_true] at h; exact h.1
  · exact h
theorem holds_good {P : Nat} {l : Nat → Pl} {i : Nat} (h : holds P l i = true) : (l i).good = true := (best_iff.1 (holds_best h)).1
theorem holds_uniq {P : Nat} {l : Nat → Pl} {i j : Nat} (hi : i < P) (hj : j < P) (h : holds P l i = true) (k : holds P l j = true) (e : (l i).code = (l j).code) : i = j := best_uniq hi hj (holds_best h) (holds_best k) e
/-- No more hold than there is room. -/
theorem holds_cnt {P : Nat} (hP : 2 ≤ P) (l : Nat → Pl) : cnt P (holds P l) ≤ P - 1 := by
  by_cases c : P - 1 < cnt P (best P l)
  · have hc : cnt P (best P l) = P := by have := cnt_best_le P l; omega
    have hd := drop_lt (l := l) (h := best P l) (show 0 < P by omega)
    have he : cnt P (holds P l) = cnt P (fun i => best P l i && decide (i ≠ dropAt P l (best P l))) := cnt_congr fun i _ => by simp [holds, c]
    have := cnt_but hd (cnt_full hc hd)
    omega
  · have he : cnt P (holds P l) = cnt P (best P l) := cnt_congr fun i _ => by simp [holds, c]
    omega
/-- There is one that does not hold. -/
theorem holds_not {P : Nat} (hP : 2 ≤ P) (l : Nat → Pl) : ∃ i, i < P ∧ holds P l i = false := by
  by_cases c : ∃ i, i < P ∧ holds P l i = false
  · exact c
  · have := holds_cnt hP l
    rw [cnt_all (n := P) fun i hi => by
      cases e : holds P l i with
      | true => rfl
      | false => exact absurd ⟨i, hi, e⟩ c] at this
    omega
theorem first_spec {P : Nat} {h : Nat → Bool} (e : ∃ i, i < P ∧ h i = false) : first P h < P ∧ h (first P h) = false ∧ ∀ j, j < first P h → h j = true := by
  unfold first
  cases hf : (List.range P).find? fun i => !h i with
  | none =>
    obtain ⟨i, hi, hh⟩ := e
    have := List.find?_eq_none.1 hf i (by simpa using hi)
    simp [hh] at this
  | some a =>
    have h1 := List.find?_some hf
    have h2 : a < P := by simpa using List.mem_of_find?_eq_some hf
    refine ⟨h2, by simpa using h1, fun j hj => ?_⟩
    simp only [Option.getD_some] at hj
    have := List.find?_range_eq_some.1 hf
    have := this.2.2 j hj
    simpa using this
theorem first_uniq {P : Nat} {h : Nat → Bool} {a : Nat} (ha : a < P) (e : h a = false) (b : ∀ j, j < a → h j = true) : first P h = a := by
  obtain ⟨h1, h2, h3⟩ := first_spec ⟨a, ha, e⟩
  rcases Nat.lt_trichotomy (first P h) a with c | c | c
  · rw [b _ c] at h2; cases h2
  · exact c
  · rw [h3 _ c] at e; cases e
end Sp
