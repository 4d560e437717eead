/- Plain arithmetic of stores: what a place that is spoilt, and one that is put, turn; records as a list. No program is named here. -/
import Derived.Test.YtlhapipgmadbeaaStoreMath
namespace Sp

theorem beats_irr (l : Nat → Pl) (i : Nat) : beats l i i = false := by
  cases h : beats l i i with
  | false => rfl
  | true => rw [beats_iff] at h; omega
theorem upd_same (l : Nat → Pl) (a : Nat) (p : Pl) : upd l a p a = p := if_pos rfl
theorem upd_other (l : Nat → Pl) {a i : Nat} (p : Pl) (h : i ≠ a) : upd l a p i = l i := if_neg h
theorem beats_upd {l : Nat → Pl} {a k i : Nat} {p : Pl} (hk : k ≠ a) (hi : i ≠ a) : beats (upd l a p) k i = beats l k i := by
  unfold beats; rw [upd_other l p hk, upd_other l p hi]
theorem holds_full {P : Nat} {l : Nat → Pl} (c : ¬ P - 1 < cnt P (best P l)) (i : Nat) : holds P l i = best P l i := by unfold holds; rw [if_neg c]
theorem holds_drop {P : Nat} {l : Nat → Pl} (c : P - 1 < cnt P (best P l)) (i : Nat) : holds P l i = (best P l i && decide (i ≠ dropAt P l (best P l))) := by unfold holds; rw [if_pos c]

/-- What holds, beside a place that does not: the places that no other one than it beats. -/
theorem holds_but {P : Nat} {l : Nat → Pl} {a i : Nat} (ha : a < P) (hh : holds P l a = false) (hi : i < P) (hia : i ≠ a) :
    holds P l i = true ↔ (l i).good = true ∧ ∀ k, k < P → k ≠ a → ¬ beats l k i = true := by
  constructor
  · intro h
    have := best_iff.1 (holds_best h)
    exact ⟨this.1, fun k hk _ => this.2 k hk⟩
  · rintro ⟨hg, hb⟩
    by_cases c : P - 1 < cnt P (best P l)
    · have hc : cnt P (best P l) = P := by have := cnt_best_le P l; omega
      rw [holds_drop c] at hh ⊢
      have e1 := cnt_full hc ha
      have e2 := cnt_full hc hi
      rw [e1] at hh
      rw [e2]
      simp only [Bool.true_and, decide_eq_false_iff_not, Decidable.not_not, decide_eq_true_eq] at hh ⊢
      omega
    · rw [holds_full c] at hh ⊢
      rw [best_iff]
      refine ⟨hg, fun k hk hbt => ?_⟩
      by_cases e : k = a
      · subst e
        have hkg := (beats_iff.1 hbt).1
        have : ∃ j, j < P ∧ beats l j k = true := by
          by_cases c : ∃ j, j < P ∧ beats l j k = true
          · exact c
          · have : best P l k = true := best_iff.2 ⟨hkg, fun j hj hb => c ⟨j, hj, hb⟩⟩
            rw [this] at hh; cases hh
        obtain ⟨j, hj, hjk⟩ := this
        have hne : j ≠ k := fun e => by subst e; rw [beats_irr] at hjk; cases hjk
        exact hb j hj hne (beats_trans hjk hbt)
      · exact hb k hk e hbt

theorem bool_eq {a b : Bool} (h : a = true ↔ b = true) : a = b := by cases a <;> cases b <;> simp_all

/-- A place that does not hold may be spoilt: nothing turns. -/
theorem best_bad {P : Nat} {l : Nat → Pl} {a : Nat} {p : Pl} (ha : a < P) (hh : holds P l a = false) (hp : p.good = false) (i : Nat) (hi : i < P) : best P (upd l a p) i = holds P l i := by
  apply bool_eq
  by_cases e : i = a
  · subst e
    rw [best_iff, upd_same, hp, hh]
    simp
  · rw [holds_but ha hh hi e, best_iff, upd_other l p e]
    constructor
    · rintro ⟨h1, h2⟩
      exact ⟨h1, fun k hk hka => by have := h2 k hk; rwa [beats_upd hka e] at this⟩
    · rintro ⟨h1, h2⟩
      refine ⟨h1, fun k hk => ?_⟩
      by_cases c : k = a
      · subst c
        intro hb
        have := (beats_iff.1 hb).1
        rw [upd_same, hp] at this
        cases this
      · rw [beats_upd c e]; exact h2 k hk c
theorem holds_bad {P : Nat} (hP : 2 ≤ P) {l : Nat → Pl} {a : Nat} {p : Pl} (ha : a < P) (hh : holds P l a = false) (hp : p.good = false) (i : Nat) (hi : i < P) : holds P (upd l a p) i = holds P l i := by
  have e := cnt_congr (n := P) (h := best P (upd l a p)) (g := holds P l) fun i hi => best_bad ha hh hp i hi
  have := holds_cnt hP l
  rw [holds_full (by omega), best_bad ha hh hp i hi]

/-- A place that does not hold takes a number that is greater than all: it is best, and all that held are, but for its code. -/
theorem best_put {P : Nat} {l : Nat → Pl} {a : Nat} {p : Pl} (ha : a < P) (hh : holds P l a = false) (hp : p.good = true) (hn : ∀ k, k < P → (l k).good = true → (l k).num < p.num) (i : Nat) (hi : i < P) :
    best P (upd l a p) i = if i = a then true else holds P l i && decide ((l i).code ≠ p.code) := by
  by_cases e : i = a
  · subst e
    rw [if_pos rfl, best_iff, upd_same]
    refine ⟨hp, fun k hk hb => ?_⟩
    rw [beats_iff, upd_same] at hb
    by_cases c : k = i
    · subst c; rw [upd_same] at hb; omega
    · rw [upd_other l p c] at hb
      have := hn k hk hb.1
      omega
  · rw [if_neg e]
    apply bool_eq
    rw [best_iff, upd_other l p e, Bool.and_eq_true, decide_eq_true_eq, holds_but ha hh hi e]
    constructor
    · rintro ⟨h1, h2⟩
      refine ⟨⟨h1, fun k hk hka => by have := h2 k hk; rwa [beats_upd hka e] at this⟩, fun hc => ?_⟩
      apply h2 a ha
      rw [beats_iff, upd_same, upd_other l p e]
      exact ⟨hp, hc.symm, .inl (hn i hi h1)⟩
    · rintro ⟨⟨h1, h2⟩, h3⟩
      refine ⟨h1, fun k hk => ?_⟩
      by_cases c : k = a
      · subst c
        intro hb
        rw [beats_iff, upd_same, upd_other l p e] at hb
        exact h3 hb.2.1.symm
      · rw [beats_upd c e]; exact h2 k hk c

/-! ### the greatest number -/
theorem most_ge (l : Nat → Pl) : ∀ n k, k < n → (l k).good = true → (l k).num ≤ most l n
  | 0, k, hk, _ => by omega
  | n + 1, k, hk, hg => by
    unfold most
    by_cases e : k = n
    · subst e
      split
      · exact Int.le_refl _
      · rename_i c; simp only [hg, true_and] at c; omega
    · have := most_ge l n k (by omega) hg
      split <;> omega
theorem most_nonneg (l : Nat → Pl) : ∀ n, 0 ≤ most l n
  | 0 => by simp [most]
  | n + 1 => by
    have := most_nonneg l n
    unfold most
    split <;> omega
theorem most_le {l : Nat → Pl} {K : Int} (hK : 0 ≤ K) : ∀ n, (∀ k, k < n → (l k).good = true → (l k).num ≤ K) → most l n ≤ K
  | 0, _ => by simpa [most] using hK
  | n + 1, h => by
    have := most_le hK n fun k hk => h k (by omega)
    unfold most
    split
    · rename_i c; exact h n (by omega) c.1
    · exact this

/-! ### records -/
theorem recs_congr {P : Nat} {l l' : Nat → Pl} (h : ∀ i, i < P → holds P l i = holds P l' i ∧ (holds P l i = true → rc (l i) = rc (l' i))) : recs P l = recs P l' := by
  unfold recs
  congr 1
  funext c
  have : ∀ (L : List Nat), (∀ i ∈ L, i < P) → ((L.filter fun i => holds P l i && decide ((l i).code = (c : Int) + 1)).map fun i => rc (l i)) = ((L.filter fun i => holds P l' i && decide ((l' i).code = (c : Int) + 1)).map fun i => rc (l' i)) := by
    intro L
    induction L with
    | nil => intro _; rfl
    | cons a L ih =>
      intro hL
      have h1 := h a (hL a (by simp))
      have h2 := ih fun i hi => hL i (by simp [hi])
      by_cases e : holds P l a = true
      · have hr := h1.2 e
        have hc : (l a).code = (l' a).code := congrArg R.code hr
        have e' := h1.1 ▸ e
        by_cases d : (l' a).code = (c : Int) + 1
        · rw [List.filter_cons_of_pos (by simp [e, hc, d]), List.filter_cons_of_pos (by simp [e', d]), List.map_cons, List.map_cons, h2, hr]
        · rw [List.filter_cons_of_neg (by simp [hc, d]), List.filter_cons_of_neg (by simp [d]), h2]
      · have e' : ¬ holds P l' a = true := h1.1 ▸ e
        rw [List.filter_cons_of_neg (by simp [e]), List.filter_cons_of_neg (by simp [e']), h2]
  exact this _ fun i hi => by simpa using hi
theorem recs_mem {P : Nat} {l : Nat → Pl} (hc : ∀ i, i < P → (l i).good = true → 1 ≤ (l i).code ∧ (l i).code ≤ 255) (r : R) : r ∈ recs P l ↔ ∃ i, i < P ∧ holds P l i = true ∧ rc (l i) = r := by
  unfold recs
  simp only [List.mem_flatMap, List.mem_range, List.mem_map, List.mem_filter, Bool.and_eq_true, decide_eq_true_eq]
  constructor
  · rintro ⟨c, _, i, ⟨h1, h2, _⟩, h3⟩
    exact ⟨i, h1, h2, h3⟩
  · rintro ⟨i, h1, h2, h3⟩
    have := hc i h1 (holds_good h2)
    exact ⟨((l i).code - 1).toNat, by omega, i, ⟨h1, h2, by omega⟩, h3⟩
theorem recs_rise (P : Nat) (l : Nat → Pl) : (recs P l).Pairwise fun a b => a.code < b.code := by
  unfold recs
  rw [List.pairwise_flatMap]
  constructor
  · intro c _
    rw [List.pairwise_map]
    refine List.Pairwise.imp_of_mem ?_ (List.Pairwise.filter _ List.pairwise_lt_range)
    intro i j hi hj hij
    simp only [List.mem_filter, List.mem_range, Bool.and_eq_true, decide_eq_true_eq] at hi hj
    have := holds_uniq hi.1 hj.1 hi.2.1 hj.2.1 (by omega)
    omega
  · refine List.Pairwise.imp ?_ (List.pairwise_lt_range (n := 255))
    intro a b hab x hx y hy
    simp only [List.mem_map, List.mem_filter, List.mem_range, Bool.and_eq_true, decide_eq_true_eq] at hx hy
    obtain ⟨i, hi, rfl⟩ := hx
    obtain ⟨j, hj, rfl⟩ := hy
    simp only [rc]
    omega
theorem cnt_or {n : Nat} {f g h : Nat → Bool} (e : ∀ i, i < n → h i = (f i || g i)) (d : ∀ i, i < n → (f i && g i) = false) : cnt n h = cnt n f + cnt n g := by
  induction n with
  | zero => rfl
  | succ n ih =>
    rw [cnt_succ, cnt_succ, cnt_succ, ih (fun i hi => e i (by omega)) (fun i hi => d i (by omega)), e n (by omega)]
    have := d n (by omega)
    cases hf : f n <;> cases hg : g n <;> simp_all <;> omega
theorem recs_length {P : Nat} {l : Nat → Pl} (hc : ∀ i, i < P → (l i).good = true → 1 ≤ (l i).code ∧ (l i).code ≤ 255) : (recs P l).length = cnt P (holds P l) := by
  have key : ∀ n : Nat, ((List.range n).flatMap fun c : Nat => ((List.range P).filter fun i => holds P l i && decide ((l i).code = (c : Int) + 1)).map fun i => rc (l i)).length = cnt P (fun i => holds P l i && decide (1 ≤ (l i).code ∧ (l i).code ≤ (n : Int))) := by
    intro n
    induction n with
    | zero =>
      have : cnt P (fun i => holds P l i && decide (1 ≤ (l i).code ∧ (l i).code ≤ ((0 : Nat) : Int))) = cnt P (fun _ => false) := cnt_congr fun i _ => by
        have : ¬ (1 ≤ (l i).code ∧ (l i).code ≤ ((0 : Nat) : Int)) := by omega
        simp only [this]; simp
      rw [this]
      simp [cnt]
    | succ n ih =>
      rw [List.range_succ, List.flatMap_append, List.length_append, ih, List.flatMap_cons, List.flatMap_nil, List.append_nil, List.length_map, ← List.countP_eq_length_filter]
      refine (cnt_or (fun i _ => ?_) (fun i _ => ?_)).symm
      · cases holds P l i with
        | false => rfl
        | true =>
          simp only [Bool.true_and]
          rw [← Bool.decide_or]
          exact decide_eq_decide.2 (by omega)
      · cases holds P l i with
        | false => rfl
        | true =>
          simp only [Bool.true_and]
          rw [← Bool.decide_and]
          exact decide_eq_false (by omega)
  show ((List.range 255).flatMap _).length = _
  rw [key 255]
  refine cnt_congr fun i hi => ?_
  cases h : holds P l i with
  | false => rfl
  | true =>
    have := hc i hi (holds_good h)
    simp only [Bool.true_and]
    exact decide_eq_true (by omega)
/-- Two lists that rise, of the same members, are one. -/
theorem rise_ext {α : Type} {r : α → α → Prop} (ht : ∀ a b, r a b → ¬ r b a) : ∀ {a b : List α}, a.Pairwise r → b.Pairwise r → (∀ x, x ∈ a ↔ x ∈ b) → a = b
  | [], [], _, _, _ => rfl
  | [], y :: b, _, _, h => by have := (h y).2 (by simp); cases this
  | x :: a, [], _, _, h => by have := (h x).1 (by simp); cases this
  | x :: a, y :: b, ha, hb, h => by
    rw [List.pairwise_cons] at ha hb
    have hxy : x = y := by
      have h1 := (h x).1 (by simp)
      have h2 := (h y).2 (by simp)
      rw [List.mem_cons] at h1 h2
      rcases h1 with e | h1
      · exact e
      · rcases h2 with e | h2
        · exact e.symm
        · exact absurd (ha.1 y h2) (ht _ _ (hb.1 x h1))
    subst hxy
    rw [rise_ext ht ha.2 hb.2 fun z => ?_]
    constructor
    · intro hz
      have := (h z).1 (by simp [hz])
      rw [List.mem_cons] at this
      rcases this with e | e
      · subst e; exact absurd (ha.1 _ hz) (fun q => ht _ _ q q)
      · exact e
    · intro hz
      have := (h z).2 (by simp [hz])
      rw [List.mem_cons] at this
      rcases this with e | e
      · subst e; exact absurd (hb.1 _ hz) (fun q => ht _ _ q q)
      · exact e
end Sp
