/- Plain arithmetic of stores: two that hold alike; what a record that is put keeps. No program is named here. -/
import Derived.Test.YtlhapipgmadbeaaStoreMath2
namespace Sp

/-- Two rows of places in which the same ones hold, tell the same, and lie in one order. -/
structure Sim (P : Nat) (l o : Nat → Pl) : Prop where
  hs : ∀ i, i < P → holds P l i = holds P o i
  told : ∀ i, i < P → holds P l i = true → rc (l i) = rc (o i)
  ord : ∀ i j, i < P → j < P → holds P l i = true → holds P l j = true → ((l i).num < (l j).num ↔ (o i).num < (o j).num)
theorem Sim.refl (P : Nat) (l : Nat → Pl) : Sim P l l := ⟨fun _ _ => rfl, fun _ _ _ => rfl, fun _ _ _ _ _ _ => Iff.rfl⟩
theorem Sim.recs {P : Nat} {l o : Nat → Pl} (h : Sim P l o) : recs P l = recs P o := recs_congr fun i hi => ⟨h.hs i hi, h.told i hi⟩
theorem Sim.first {P : Nat} (hP : 2 ≤ P) {l o : Nat → Pl} (h : Sim P l o) : first P (holds P l) = first P (holds P o) := by
  obtain ⟨h1, h2, h3⟩ := first_spec (holds_not hP o)
  refine first_uniq h1 (by rw [h.hs _ h1]; exact h2) fun j hj => ?_
  rw [h.hs j (by omega)]; exact h3 j hj
theorem Sim.bad {P : Nat} (hP : 2 ≤ P) {l o : Nat → Pl} (h : Sim P l o) {a : Nat} {p : Pl} (ha : a < P) (hh : holds P l a = false) (hp : p.good = false) : Sim P (upd l a p) o := by
  have e := fun i hi => holds_bad hP (p := p) ha hh hp i hi
  have ne : ∀ i, holds P l i = true → i ≠ a := fun i hi c => by subst c; rw [hh] at hi; cases hi
  refine ⟨fun i hi => (e i hi).trans (h.hs i hi), fun i hi hx => ?_, fun i j hi hj hx hy => ?_⟩
  · rw [e i hi] at hx
    rw [upd_other l p (ne i hx)]; exact h.told i hi hx
  · rw [e i hi] at hx
    rw [e j hj] at hy
    rw [upd_other l p (ne i hx), upd_other l p (ne j hy)]; exact h.ord i j hi hj hx hy
theorem old_congr {l o : Nat → Pl} {h g : Nat → Bool} {x : Bool} : ∀ {n : Nat}, (∀ i, i < n → h i = g i) → (∀ i, i < n → h i = true → (l i).lat = (o i).lat) →
    (∀ i j, i < n → j < n → h i = true → h j = true → ((l i).num < (l j).num ↔ (o i).num < (o j).num)) → old l h x n = old o g x n
  | 0, _, _, _ => rfl
  | n + 1, h1, h2, h3 => by
    have ih := old_congr (x := x) (n := n) (fun i hi => h1 i (by omega)) (fun i hi => h2 i (by omega)) (fun i j hi hj => h3 i j (by omega) (by omega))
    unfold old
    rw [ih]
    have : (h n = true ∧ (l n).lat = x ∧ ∀ a, old o g x n = some a → (l n).num < (l a).num) ↔ (g n = true ∧ (o n).lat = x ∧ ∀ a, old o g x n = some a → (o n).num < (o a).num) := by
      rw [h1 n (by omega)]
      constructor
      · rintro ⟨a1, a2, a3⟩
        have hn : h n = true := by rw [h1 n (by omega)]; exact a1
        refine ⟨a1, by rw [← h2 n (by omega) hn]; exact a2, fun a ha => ?_⟩
        have ho := old_some ha
        exact (h3 n a (by omega) (by omega) hn (by rw [h1 a (by omega)]; exact ho.2.1)).1 (a3 a ha)
      · rintro ⟨a1, a2, a3⟩
        have hn : h n = true := by rw [h1 n (by omega)]; exact a1
        refine ⟨a1, by rw [h2 n (by omega) hn]; exact a2, fun a ha => ?_⟩
        have ho := old_some ha
        exact (h3 n a (by omega) (by omega) hn (by rw [h1 a (by omega)]; exact ho.2.1)).2 (a3 a ha)
    simp only [this]
theorem drop_congr {P : Nat} {l o : Nat → Pl} {h g : Nat → Bool} (h1 : ∀ i, i < P → h i = g i) (h2 : ∀ i, i < P → h i = true → (l i).lat = (o i).lat)
    (h3 : ∀ i j, i < P → j < P → h i = true → h j = true → ((l i).num < (l j).num ↔ (o i).num < (o j).num)) : dropAt P l h = dropAt P o g := by
  unfold dropAt
  rw [old_congr (x := false) h1 h2 h3, old_congr (x := true) h1 h2 h3]
theorem lat_rc {p q : Pl} (h : rc p = rc q) : p.lat = q.lat := congrArg R.lat h
theorem code_rc {p q : Pl} (h : rc p = rc q) : p.code = q.code := congrArg R.code h
theorem Sim.put {P : Nat} {l o : Nat → Pl} (h : Sim P l o) {a : Nat} {p q : Pl} (ha : a < P) (hh : holds P l a = false) (hp : p.good = true) (hq : q.good = true) (he : rc p = rc q)
    (hn : ∀ k, k < P → (l k).good = true → (l k).num < p.num) (hm : ∀ k, k < P → (o k).good = true → (o k).num < q.num) : Sim P (upd l a p) (upd o a q) := by
  have hh' : holds P o a = false := by rw [← h.hs a ha]; exact hh
  have e1 := fun i hi => best_put ha hh hp hn i hi
  have e2 := fun i hi => best_put ha hh' hq hm i hi
  have code : ∀ i, i < P → holds P l i = true → (l i).code = (o i).code := fun i hi hx => code_rc (h.told i hi hx)
  have eb : ∀ i, i < P → best P (upd l a p) i = best P (upd o a q) i := by
    intro i hi
    rw [e1 i hi, e2 i hi, ← h.hs i hi]
    by_cases c : i = a
    · rw [if_pos c, if_pos c]
    · rw [if_neg c, if_neg c]
      cases hx : holds P l i with
      | false => rfl
      | true => rw [code i hi hx, code_rc he]
  -- what is best is the new one, or held
  have hb : ∀ i, i < P → best P (upd l a p) i = true → i = a ∨ (i ≠ a ∧ holds P l i = true) := by
    intro i hi hx
    rw [e1 i hi] at hx
    by_cases c : i = a
    · exact .inl c
    · rw [if_neg c, Bool.and_eq_true] at hx
      exact .inr ⟨c, hx.1⟩
  have hr : ∀ i, i < P → best P (upd l a p) i = true → rc (upd l a p i) = rc (upd o a q i) := by
    intro i hi hx
    rcases hb i hi hx with c | ⟨c, hy⟩
    · subst c; rw [upd_same, upd_same]; exact he
    · rw [upd_other l p c, upd_other o q c]; exact h.told i hi hy
  have ho : ∀ i j, i < P → j < P → best P (upd l a p) i = true → best P (upd l a p) j = true → ((upd l a p i).num < (upd l a p j).num ↔ (upd o a q i).num < (upd o a q j).num) := by
    intro i j hi hj hx hy
    rcases hb i hi hx with c | ⟨c, hx'⟩
    · subst c
      rcases hb j hj hy with d | ⟨d, hy'⟩
      · subst d; simp
      · rw [upd_same, upd_same, upd_other l p d, upd_other o q d]
        have := hn j hj (holds_good hy')
        have := hm j hj (holds_good (h.hs j hj ▸ hy'))
        omega
    · rcases hb j hj hy with d | ⟨d, hy'⟩
      · subst d
        rw [upd_same, upd_same, upd_other l p c, upd_other o q c]
        have := hn i hi (holds_good hx')
        have := hm i hi (holds_good (h.hs i hi ▸ hx'))
        omega
      · rw [upd_other l p c, upd_other o q c, upd_other l p d, upd_other o q d]
        exact h.ord i j hi hj hx' hy'
  have ed := drop_congr (h := best P (upd l a p)) (g := best P (upd o a q)) eb (fun i hi hx => lat_rc (hr i hi hx)) ho
  have ec := cnt_congr (n := P) (h := best P (upd l a p)) (g := best P (upd o a q)) eb
  refine ⟨fun i hi => ?_, fun i hi hx => hr i hi (holds_best hx), fun i j hi hj hx hy => ho i j hi hj (holds_best hx) (holds_best hy)⟩
  unfold holds
  rw [ec, eb i hi, ed]

/-! ### what a record that is put keeps -/
section
variable {P : Nat} {l : Nat → Pl} {a : Nat} {p : Pl}
structure Put (P : Nat) (l : Nat → Pl) (a : Nat) (p : Pl) : Prop where
  two : 2 ≤ P
  lt : a < P
  free : holds P l a = false
  good : p.good = true
  top : ∀ k, k < P → (l k).good = true → (l k).num < p.num
  code : ∀ i, i < P → (l i).good = true → 1 ≤ (l i).code ∧ (l i).code ≤ 255
  pcode : 1 ≤ p.code ∧ p.code ≤ 255
theorem Put.codes (h : Put P l a p) (i : Nat) (hi : i < P) (hg : (upd l a p i).good = true) : 1 ≤ (upd l a p i).code ∧ (upd l a p i).code ≤ 255 := by
  by_cases c : i = a
  · subst c; rw [upd_same]; exact h.pcode
  · rw [upd_other l p c] at hg ⊢; exact h.code i hi hg
theorem Put.best (h : Put P l a p) (i : Nat) (hi : i < P) : best P (upd l a p) i = if i = a then true else holds P l i && decide ((l i).code ≠ p.code) := best_put h.lt h.free h.good h.top i hi
theorem Put.best_a (h : Put P l a p) : Sp.best P (upd l a p) a = true := by rw [h.best a h.lt, if_pos rfl]
/-- Where one is let go all others held, and are no records of this code. -/
theorem Put.all (h : Put P l a p) (c : P - 1 < cnt P (Sp.best P (upd l a p))) (i : Nat) (hi : i < P) (hia : i ≠ a) : holds P l i = true ∧ (l i).code ≠ p.code := by
  have hc : cnt P (Sp.best P (upd l a p)) = P := by have := cnt_best_le P (upd l a p); omega
  have := cnt_full hc hi
  rw [h.best i hi, if_neg hia, Bool.and_eq_true, decide_eq_true_eq] at this
  exact this
/-- The one that is let go, where one that is not latched is there: one of those, of the least number. -/
theorem drop_free {l : Nat → Pl} {h : Nat → Bool} {i : Nat} (hi : i < P) (hh : h i = true) (hl : (l i).lat = false) : dropAt P l h < P ∧ h (dropAt P l h) = true ∧ (l (dropAt P l h)).lat = false ∧ (l (dropAt P l h)).num ≤ (l i).num := by
  unfold dropAt
  cases e : old l h false P with
  | none => exact absurd hl (old_none e i hi hh)
  | some b =>
    obtain ⟨h1, h2, h3, h4⟩ := old_some e
    exact ⟨h1, h2, h3, (h4 i hi hh hl).1⟩
theorem drop_all {l : Nat → Pl} {h : Nat → Bool} (hall : ∀ i, i < P → h i = true → (l i).lat = true) {i : Nat} (hi : i < P) (hh : h i = true) : dropAt P l h < P ∧ h (dropAt P l h) = true ∧ (l (dropAt P l h)).num ≤ (l i).num := by
  unfold dropAt
  cases e : old l h false P with
  | some b =>
    obtain ⟨h1, h2, h3, _⟩ := old_some e
    rw [hall b h1 h2] at h3; cases h3
  | none =>
    cases e2 : old l h true P with
    | none => exact absurd (hall i hi hh) (old_none e2 i hi hh)
    | some b =>
      obtain ⟨h1, h2, h3, h4⟩ := old_some e2
      exact ⟨h1, h2, (h4 i hi hh (hall i hi hh)).1⟩
/-- The new one holds, unless it is the only one that is not latched. -/
theorem Put.there (h : Put P l a p) (hr : p.lat = true ∨ cnt P (fun i => holds P l i && (l i).lat) < P - 1) : holds P (upd l a p) a = true := by
  by_cases c : P - 1 < cnt P (Sp.best P (upd l a p))
  · rw [holds_drop c, h.best_a]
    simp only [Bool.true_and, decide_eq_true_eq]
    have all := h.all c
    have hbest : ∀ i, i < P → Sp.best P (upd l a p) i = true := fun i hi => cnt_full (by have := cnt_best_le P (upd l a p); omega) hi
    by_cases ex : ∃ i, i < P ∧ i ≠ a ∧ (l i).lat = false
    · obtain ⟨i, hi, hia, hl⟩ := ex
      have := drop_free (l := upd l a p) hi (hbest i hi) (by rw [upd_other l p hia]; exact hl)
      intro e
      rw [← e, upd_same, upd_other l p hia] at this
      have := h.top i hi (holds_good (all i hi hia).1)
      omega
    · have hlat : ∀ i, i < P → i ≠ a → (l i).lat = true := fun i hi hia => by
        cases e : (l i).lat with
        | true => rfl
        | false => exact absurd ⟨i, hi, hia, e⟩ ex
      have hpl : p.lat = true := by
        rcases hr with hr | hr
        · exact hr
        · exfalso
          have e1 : cnt P (fun i => decide (i ≠ a)) + 1 = P := by
            have := cnt_but (h := fun _ => true) h.lt rfl
            rw [cnt_all (n := P) (h := fun _ => true) fun _ _ => rfl] at this
            simpa using this
          have e2 := cnt_mono (n := P) (h := fun i => decide (i ≠ a)) (g := fun i => holds P l i && (l i).lat) fun i hi hx => by
            have hx := of_decide_eq_true hx
            simp [(all i hi hx).1, hlat i hi hx]
          omega
      obtain ⟨i, hi, hia⟩ : ∃ i, i < P ∧ i ≠ a := by
        have := h.two
        by_cases c0 : a = 0
        · exact ⟨1, by omega, by omega⟩
        · exact ⟨0, by omega, by omega⟩
      have := drop_all (l := upd l a p) (h := Sp.best P (upd l a p)) (fun j hj _ => by
        by_cases e : j = a
        · subst e; rw [upd_same]; exact hpl
        · rw [upd_other l p e]; exact hlat j hj e) hi (hbest i hi)
      intro e
      rw [← e, upd_same, upd_other l p hia] at this
      have := h.top i hi (holds_good (all i hi hia).1)
      omega
  · rw [holds_full c]; exact h.best_a
/-- As many hold as held, at least. -/
theorem Put.cnt_ge (h : Put P l a p) : cnt P (holds P l) ≤ cnt P (holds P (upd l a p)) := by
  by_cases c : P - 1 < cnt P (Sp.best P (upd l a p))
  · have hc : cnt P (Sp.best P (upd l a p)) = P := by have := cnt_best_le P (upd l a p); omega
    have hd := drop_lt (l := upd l a p) (h := Sp.best P (upd l a p)) (show 0 < P by have := h.two; omega)
    have he : cnt P (holds P (upd l a p)) = cnt P (fun i => Sp.best P (upd l a p) i && decide (i ≠ dropAt P (upd l a p) (Sp.best P (upd l a p)))) := cnt_congr fun i _ => holds_drop c i
    have := cnt_but hd (cnt_full hc hd)
    have := holds_cnt h.two l
    omega
  · have e1 : cnt P (holds P (upd l a p)) = cnt P (Sp.best P (upd l a p)) := cnt_congr fun i _ => holds_full c i
    have e2 := cnt_but (n := P) (h := Sp.best P (upd l a p)) h.lt h.best_a
    -- at most one that held has this code
    by_cases ex : ∃ j, j < P ∧ holds P l j = true ∧ (l j).code = p.code
    · obtain ⟨j, hj, hh, hcode⟩ := ex
      have e3 := cnt_but (n := P) hj hh
      have e4 := cnt_mono (n := P) (h := fun i => holds P l i && decide (i ≠ j)) (g := fun i => Sp.best P (upd l a p) i && decide (i ≠ a)) fun i hi hx => by
        rw [Bool.and_eq_true, decide_eq_true_eq] at hx
        have hia : i ≠ a := fun e => by subst e; rw [h.free] at hx; cases hx.1
        have hne : (l i).code ≠ p.code := fun e => hx.2 (holds_uniq hi hj hx.1 hh (e.trans hcode.symm))
        rw [h.best i hi, if_neg hia]
        simp [hx.1, hne, hia]
      omega
    · have e4 := cnt_mono (n := P) (h := holds P l) (g := fun i => Sp.best P (upd l a p) i && decide (i ≠ a)) fun i hi hx => by
        have hia : i ≠ a := fun e => by subst e; rw [h.free] at hx; cases hx
        have hne : (l i).code ≠ p.code := fun e => ex ⟨i, hi, hx, e⟩
        rw [h.best i hi, if_neg hia]
        simp [hx, hne, hia]
      omega
/-- One that was latched stays, or its code's new one is there, unless all are latched. -/
theorem Put.stays (h : Put P l a p) (hp : p.lat = true) (hn : ∃ j, j < P ∧ holds P (upd l a p) j = true ∧ (upd l a p j).lat = false) {i : Nat} (hi : i < P) (hh : holds P l i = true) (hl : (l i).lat = true) :
    (∃ j, j < P ∧ holds P (upd l a p) j = true ∧ rc (upd l a p j) = rc (l i)) ∨ ((l i).code = p.code ∧ holds P (upd l a p) a = true) := by
  by_cases e : (l i).code = p.code
  · exact .inr ⟨e, h.there (.inl hp)⟩
  · have hia : i ≠ a := fun c => by subst c; rw [h.free] at hh; cases hh
    have hb : Sp.best P (upd l a p) i = true := by rw [h.best i hi, if_neg hia]; simp [hh, e]
    left
    refine ⟨i, hi, ?_, by rw [upd_other l p hia]⟩
    by_cases c : P - 1 < cnt P (Sp.best P (upd l a p))
    · rw [holds_drop c, hb]
      simp only [Bool.true_and, decide_eq_true_eq]
      intro ed
      obtain ⟨j, hj, hjh, hjl⟩ := hn
      have := drop_free (l := upd l a p) hj (holds_best hjh) hjl
      rw [← ed, upd_other l p hia] at this
      rw [hl] at this
      cases this.2.2.1
    · rw [holds_full c]; exact hb
/-- Where there is room all that held stay, but for this code's. -/
theorem Put.room (h : Put P l a p) (hr : cnt P (holds P l) + 1 < P) (i : Nat) (hi : i < P) : holds P (upd l a p) i = if i = a then true else holds P l i && decide ((l i).code ≠ p.code) := by
  have e2 := cnt_but (n := P) (h := Sp.best P (upd l a p)) h.lt h.best_a
  have e4 := cnt_mono (n := P) (h := fun i => Sp.best P (upd l a p) i && decide (i ≠ a)) (g := holds P l) fun i hi hx => by
    rw [Bool.and_eq_true, decide_eq_true_eq, h.best i hi] at hx
    rw [if_neg hx.2, Bool.and_eq_true] at hx
    exact hx.1.1
  rw [holds_full (by omega), h.best i hi]
end
end Sp
