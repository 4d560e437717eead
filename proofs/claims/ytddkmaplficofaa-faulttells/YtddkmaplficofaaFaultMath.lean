/- Plain arithmetic of counts of faults: a list of records that rises by code, one code more, and what follows of it. No program is named here. -/
import Derived.Test.YtddkmaplficofaaStoreMath
namespace Fa
open Sp (R)

def zero : R := ⟨0, 0, false⟩
/-- A record, one more. -/
def bump (r : R) : R := ⟨r.code, min r.cnt 65534 + 1, r.lat || decide (3 ≤ min r.cnt 65534 + 1)⟩
/-- A code more, at its place. -/
def put (c : Int) : List R → List R
  | [] => [bump ⟨c, 0, false⟩]
  | r :: l => if r.code < c then r :: put c l else if r.code = c then bump r :: l else bump ⟨c, 0, false⟩ :: r :: l
def okC (c : Int) : Bool := decide (1 ≤ c ∧ c ≤ 255)
def raise (l : List R) (c : Int) : List R := if okC c = true then put c l else l
def err (c : Int) : Int := if okC c = true then 0 else 1
def raised (cs : List Int) : List R := cs.foldl raise []
def find (c : Int) : List R → Option R
  | [] => none
  | r :: l => if r.code = c then some r else find c l
def got (c : Int) (l : List R) : R := (find c l).getD zero
def has (c : Int) (l : List R) : Bool := (find c l).isSome
def Rising : List R → Prop
  | [] => True
  | r :: l => (∀ s ∈ l, r.code < s.code) ∧ Rising l
def Few (l : List R) : Prop := ∀ r ∈ l, 0 ≤ r.cnt ∧ r.cnt ≤ 65535

theorem bump_code (r : R) : (bump r).code = r.code := rfl
theorem bump_one (c : Int) : bump ⟨c, 0, false⟩ = ⟨c, 1, false⟩ := by simp [bump]; omega
theorem bump_more {r : R} (h : r.cnt ≤ 65535) : r.cnt ≤ (bump r).cnt := by simp only [bump]; omega
theorem bump_lat {r : R} (h : r.lat = true) : (bump r).lat = true := by simp [bump, h]
theorem bump_few {r : R} (h : 0 ≤ r.cnt) : 0 ≤ (bump r).cnt ∧ (bump r).cnt ≤ 65535 := by simp only [bump]; omega

theorem raise_snoc (cs : List Int) (c : Int) : raised (cs ++ [c]) = raise (raised cs) c := by simp [raised, List.foldl_append]

/-! ### what stays -/
theorem put_above {a c : Int} (hc : a < c) : ∀ {l : List R}, (∀ s ∈ l, a < s.code) → ∀ s ∈ put c l, a < s.code
  | [], _, s, hs => by
    simp only [put, List.mem_singleton] at hs
    subst hs
    exact hc
  | r :: l, h, s, hs => by
    unfold put at hs
    split at hs
    · rcases List.mem_cons.1 hs with rfl | hs
      · exact h _ List.mem_cons_self
      · exact put_above hc (fun x hx => h x (List.mem_cons_of_mem _ hx)) s hs
    · split at hs
      · rcases List.mem_cons.1 hs with rfl | hs
        · exact h r List.mem_cons_self
        · exact h s (List.mem_cons_of_mem _ hs)
      · rcases List.mem_cons.1 hs with rfl | hs
        · exact hc
        · exact h s hs
theorem put_rising {c : Int} : ∀ {l : List R}, Rising l → Rising (put c l)
  | [], _ => by simp [put, Rising]
  | r :: l, h => by
    unfold put
    split
    · next h1 => exact ⟨put_above h1 h.1, put_rising h.2⟩
    · next h1 =>
      split
      · exact ⟨h.1, h.2⟩
      · next h2 =>
        have h3 : c < r.code := by omega
        refine ⟨fun s hs => ?_, h⟩
        rcases List.mem_cons.1 hs with rfl | hs
        · exact h3
        · exact Int.lt_trans h3 (h.1 s hs)
theorem put_few {c : Int} : ∀ {l : List R}, Few l → Few (put c l)
  | [], _ => by
    intro r hr
    simp only [put, List.mem_singleton] at hr
    subst hr
    exact bump_few (by simp)
  | r :: l, h => by
    have hl : Few l := fun x hx => h x (List.mem_cons_of_mem _ hx)
    have hr := h r List.mem_cons_self
    unfold put
    split
    · intro x hx
      rcases List.mem_cons.1 hx with rfl | hx
      · exact hr
      · exact put_few hl x hx
    · split
      · intro x hx
        rcases List.mem_cons.1 hx with rfl | hx
        · exact bump_few hr.1
        · exact hl x hx
      · intro x hx
        rcases List.mem_cons.1 hx with rfl | hx
        · exact bump_few (by simp)
        · exact h x hx
theorem put_len (c : Int) : ∀ l : List R, l.length ≤ (put c l).length ∧ (put c l).length ≤ l.length + 1
  | [] => by simp [put]
  | r :: l => by
    unfold put
    have := put_len c l
    split
    · simp only [List.length_cons]; omega
    · split <;> simp only [List.length_cons] <;> omega
theorem put_ne (c : Int) (l : List R) : put c l ≠ [] := by
  cases l with
  | nil => simp [put]
  | cons r l => unfold put; split <;> (try split) <;> simp
theorem raise_rising {c : Int} {l : List R} (h : Rising l) : Rising (raise l c) := by unfold raise; split; exact put_rising h; exact h
theorem raise_few {c : Int} {l : List R} (h : Few l) : Few (raise l c) := by unfold raise; split; exact put_few h; exact h
theorem raise_len (l : List R) (c : Int) : l.length ≤ (raise l c).length ∧ (raise l c).length ≤ l.length + 1 := by
  unfold raise
  split
  · exact put_len c l
  · omega

/-- All that is known of records behind faults. -/
structure Good (l : List R) (n : Nat) : Prop where
  up : Rising l
  few : Few l
  len : l.length ≤ n
theorem good_nil : Good [] 0 := ⟨trivial, (fun _ hr => nomatch hr), Nat.le_refl _⟩
theorem Good.raise {l : List R} {n : Nat} (h : Good l n) (c : Int) : Good (raise l c) (n + 1) := ⟨raise_rising h.up, raise_few h.few, by have := raise_len l c; have := h.len; omega⟩
theorem Good.le {l : List R} {n m : Nat} (h : Good l n) (hm : n ≤ m) : Good l m := ⟨h.up, h.few, by have := h.len; omega⟩
theorem Good.fold (cs : List Int) : ∀ {l : List R} {n : Nat}, Good l n → Good (cs.foldl Fa.raise l) (n + cs.length) := by
  induction cs with
  | nil => intro l n h; exact h
  | cons c cs ih => intro l n h; have := ih (h.raise c); rw [List.foldl_cons, List.length_cons]; exact this.le (by omega)
theorem good_raised (cs : List Int) : Good (raised cs) cs.length := by
  have := Good.fold cs good_nil
  rwa [Nat.zero_add] at this

/-! ### where a code is -/
theorem find_above {a : Int} : ∀ {l : List R}, (∀ s ∈ l, a < s.code) → find a l = none
  | [], _ => rfl
  | r :: l, h => by
    have := h r List.mem_cons_self
    unfold find
    rw [if_neg (by omega)]
    exact find_above fun s hs => h s (List.mem_cons_of_mem _ hs)
theorem find_code {c : Int} : ∀ {l : List R} {r : R}, find c l = some r → r.code = c ∧ r ∈ l
  | [], _, h => by cases h
  | s :: l, r, h => by
    unfold find at h
    split at h
    · next e => injection h with h; subst h; exact ⟨e, List.mem_cons_self⟩
    · obtain ⟨h1, h2⟩ := find_code h; exact ⟨h1, List.mem_cons_of_mem _ h2⟩
theorem find_mem {l : List R} (h : Rising l) {r : R} (hr : r ∈ l) : find r.code l = some r := by
  induction l with
  | nil => cases hr
  | cons s l ih =>
    unfold find
    rcases List.mem_cons.1 hr with rfl | hr
    · rw [if_pos rfl]
    · have := h.1 r hr
      rw [if_neg (by omega)]
      exact ih h.2 hr
theorem find_put_same {c : Int} : ∀ {l : List R}, Rising l → find c (put c l) = some (bump ((find c l).getD ⟨c, 0, false⟩))
  | [], _ => by simp [put, find, bump_code]
  | r :: l, h => by
    unfold put
    split
    · next h1 =>
      unfold find
      rw [if_neg (by omega), if_neg (by omega)]
      exact find_put_same h.2
    · next h1 =>
      split
      · next h2 =>
        subst h2
        unfold find
        rw [if_pos rfl, if_pos (bump_code r)]
        rfl
      · next h2 =>
        have h3 : find c (r :: l) = none := find_above fun s hs => by
          rcases List.mem_cons.1 hs with rfl | hs
          · omega
          · have := h.1 s hs; omega
        rw [h3]
        unfold find
        rw [if_pos (bump_code _)]
        rfl
theorem find_put_other {c a : Int} (hne : a ≠ c) : ∀ {l : List R}, find a (put c l) = find a l
  | [] => by
    have : ¬ (bump ⟨c, 0, false⟩).code = a := fun e => hne e.symm
    simp [put, find, this]
  | r :: l => by
    unfold put
    split
    · unfold find
      rw [find_put_other hne]
    · split
      · next h2 =>
        have h3 : ¬ r.code = a := fun e => hne (by omega)
        have h4 : ¬ (bump r).code = a := h3
        simp only [find, if_neg h3, if_neg h4]
      · have : ¬ (bump ⟨c, 0, false⟩).code = a := fun e => hne e.symm
        rw [show find a (bump ⟨c, 0, false⟩ :: r :: l) = find a (r :: l) from by rw [find, if_neg this]]

/-- What is found tells all. -/
theorem rising_ext : ∀ {l m : List R}, Rising l → Rising m → (∀ c, find c l = find c m) → l = m
  | [], [], _, _, _ => rfl
  | [], s :: m, _, hm, h => by
    have := h s.code
    simp [find] at this
  | r :: l, [], _, _, h => by
    have := h r.code
    simp [find] at this
  | r :: l, s :: m, hl, hm, h => by
    have hrs : r.code = s.code := by
      have h1 := h r.code
      have h2 := h s.code
      simp only [find, if_true] at h1 h2
      by_cases e : s.code = r.code
      · exact e.symm
      · rw [if_neg e] at h1
        rw [if_neg (fun x => e x.symm)] at h2
        have g1 := hm.1 r (find_code h1.symm).2
        have g2 := hl.1 s (find_code h2).2
        omega
    have e : r = s := by
      have h1 := h r.code
      simp only [find, if_true, if_pos hrs.symm] at h1
      injection h1
    subst e
    have : l = m := rising_ext hl.2 hm.2 fun c => by
      have h1 := h c
      by_cases hc : r.code = c
      · rw [find_above (a := c) fun s hs => by have := hl.1 s hs; omega, find_above (a := c) fun s hs => by have := hm.1 s hs; omega]
      · simpa [find, if_neg hc] using h1
    rw [this]

/-! ### how often a code came -/
def told (c : Int) (n : Nat) : Option R := if okC c = true ∧ 0 < n then some ⟨c, (min n 65535 : Nat), decide (3 ≤ n)⟩ else none
theorem told_next {c : Int} (hc : okC c = true) (n : Nat) : some (bump ((told c n).getD ⟨c, 0, false⟩)) = told c (n + 1) := by
  have e1 : told c (n + 1) = some ⟨c, (min (n + 1) 65535 : Nat), decide (3 ≤ n + 1)⟩ := if_pos ⟨hc, Nat.succ_pos n⟩
  rw [e1]
  by_cases h : 0 < n
  · have e2 : told c n = some ⟨c, (min n 65535 : Nat), decide (3 ≤ n)⟩ := if_pos ⟨hc, h⟩
    rw [e2]
    simp only [Option.getD_some, bump]
    congr 2
    · omega
    · rw [Bool.eq_iff_iff]; simp; omega
  · have e2 : told c n = none := if_neg fun x => h x.2
    obtain rfl : n = 0 := by omega
    rw [e2]
    simp only [Option.getD_none, bump_one]
    rfl
theorem find_raised (cs : List Int) (c : Int) : find c (raised cs) = told c (cs.count c) := by
  suffices H : ∀ n (cs : List Int), cs.length = n → find c (raised cs) = told c (cs.count c) from H _ cs rfl
  intro n
  induction n with
  | zero => intro cs h; obtain rfl := List.eq_nil_of_length_eq_zero h; simp [raised, find, told]
  | succ n ih =>
    intro cs h
    obtain ⟨ds, d, rfl⟩ : ∃ ds d, cs = ds ++ [d] := ⟨cs.dropLast, cs.getLast (by intro e; simp [e] at h), (List.dropLast_concat_getLast _).symm⟩
    have hi := ih ds (by simp at h; omega)
    rw [raise_snoc, List.count_append, List.count_singleton]
    unfold raise
    by_cases hd : okC d = true
    · rw [if_pos hd]
      by_cases e : d = c
      · subst e
        rw [find_put_same (good_raised ds).up, hi, told_next hd]
        simp
      · rw [find_put_other (fun x => e x.symm), hi]
        simp [e]
    · rw [if_neg hd, hi]
      by_cases e : d = c
      · subst e
        unfold told
        rw [if_neg fun x => hd x.1, if_neg fun x => hd x.1]
      · simp [e]
theorem raised_alike {cs ds : List Int} (h : ∀ c, cs.count c = ds.count c) : raised cs = raised ds :=
  rising_ext (good_raised cs).up (good_raised ds).up fun c => by rw [find_raised, find_raised, h]
theorem raised_turned (cs : List Int) (k : Nat) : raised cs = raised (cs.drop k ++ cs.take k) := raised_alike fun c => by
  have : cs.count c = (cs.take k ++ cs.drop k).count c := by rw [List.take_append_drop]
  rw [this, List.count_append, List.count_append, Nat.add_comm]
theorem raised_back (cs : List Int) : raised cs = raised cs.reverse := raised_alike fun c => by rw [List.count_reverse]

/-! ### as the program does it: the first place of the code, or the first one of a greater code -/
def at_ (q : R → Bool) : List R → Nat
  | [] => 0
  | r :: l => if q r = true then 0 else at_ q l + 1
def eqB (c : Int) (r : R) : Bool := r.code == c
def gtB (c : Int) (r : R) : Bool := decide (c < r.code)
theorem at_le (q : R → Bool) : ∀ l : List R, at_ q l ≤ l.length
  | [] => Nat.le_refl _
  | r :: l => by unfold at_; split; omega; have := at_le q l; simp only [List.length_cons]; omega
theorem find_at (c : Int) : ∀ l : List R, find c l = l[at_ (eqB c) l]?
  | [] => rfl
  | r :: l => by
    unfold find at_ eqB
    by_cases h : r.code = c
    · simp [h]
    · have := find_at c l
      unfold eqB at this
      simp [h, this]
theorem put_at {c : Int} : ∀ {l : List R}, Rising l → put c l = match l[at_ (eqB c) l]? with
    | some r => l.set (at_ (eqB c) l) (bump r)
    | none => (l.take (at_ (gtB c) l) ++ ⟨c, 0, false⟩ :: l.drop (at_ (gtB c) l)).set (at_ (gtB c) l) (bump ⟨c, 0, false⟩)
  | [], _ => rfl
  | r :: l, h => by
    unfold put
    split
    · next h1 =>
      have e1 : eqB c r = false := by simp [eqB]; omega
      have e2 : gtB c r = false := by simp [gtB]; omega
      simp only [at_, e1, e2, Bool.false_eq_true, if_false, List.getElem?_cons_succ, List.set_cons_succ, List.take_succ_cons, List.drop_succ_cons, List.cons_append]
      rw [put_at h.2]
      cases l[at_ (eqB c) l]? <;> rfl
    · next h1 =>
      split
      · next h2 =>
        have e1 : eqB c r = true := by simp [eqB, h2]
        simp [at_, e1]
      · next h2 =>
        have e3 : (r :: l)[at_ (eqB c) (r :: l)]? = none := by
          rw [← find_at]
          exact find_above fun s hs => by
            rcases List.mem_cons.1 hs with rfl | hs
            · omega
            · have := h.1 s hs; omega
        have e2 : gtB c r = true := by simp [gtB]; omega
        rw [e3]
        simp [at_, e2]

/-! ### as the document does it: one record behind the other -/
def step (c : Int) (r : R) (x : List R × Bool) (s : R) : List R × Bool :=
  let y := if x.2 = false ∧ c ≤ s.code then (x.1 ++ [r], true) else x
  if s.code = c then y else (y.1 ++ [s], y.2)
def ends (r : R) (x : List R × Bool) : List R := if x.2 = false then x.1 ++ [r] else x.1
theorem step_done {c : Int} (r : R) : ∀ (l : List R) (o : List R), (∀ s ∈ l, s.code ≠ c) → l.foldl (step c r) (o, true) = (o ++ l, true)
  | [], o, _ => by simp
  | s :: l, o, h => by
    have h1 := h s List.mem_cons_self
    rw [List.foldl_cons]
    have : step c r (o, true) s = (o ++ [s], true) := by simp [step, h1]
    rw [this, step_done r l _ fun x hx => h x (List.mem_cons_of_mem _ hx)]
    simp
theorem step_put {c : Int} : ∀ (l : List R) (o : List R), Rising l → ends (bump ((find c l).getD ⟨c, 0, false⟩)) (l.foldl (step c (bump ((find c l).getD ⟨c, 0, false⟩))) (o, false)) = o ++ put c l
  | [], o, _ => by simp [ends, put, find]
  | s :: l, o, h => by
    unfold put
    split
    · next h1 =>
      have e : find c (s :: l) = find c l := by rw [find, if_neg (by omega)]
      rw [e, List.foldl_cons]
      have : step c (bump ((find c l).getD ⟨c, 0, false⟩)) (o, false) s = (o ++ [s], false) := by
        have h2 : ¬ c ≤ s.code := by omega
        have h3 : ¬ s.code = c := by omega
        simp [step, h2, h3]
      rw [this, step_put l _ h.2]
      simp
    · next h1 =>
      split
      · next h2 =>
        have e : find c (s :: l) = some s := by rw [find, if_pos h2]
        rw [e, List.foldl_cons, Option.getD_some]
        have : step c (bump s) (o, false) s = (o ++ [bump s], true) := by
          have h3 : c ≤ s.code := by omega
          simp [step, h2]
        rw [this, step_done _ l _ fun x hx => by have := h.1 x hx; omega]
        simp [ends]
      · next h2 =>
        have e : find c (s :: l) = none := find_above fun x hx => by
          rcases List.mem_cons.1 hx with rfl | hx
          · omega
          · have := h.1 x hx; omega
        rw [e, List.foldl_cons, Option.getD_none]
        have : step c (bump ⟨c, 0, false⟩) (o, false) s = (o ++ [bump ⟨c, 0, false⟩] ++ [s], true) := by
          have h3 : c ≤ s.code := by omega
          simp [step, h2, h3]
        rw [this, step_done _ l _ fun x hx => by have := h.1 x hx; omega]
        simp [ends]
theorem step_len (c : Int) (r : R) (x : List R × Bool) (s : R) : (step c r x s).1.length ≤ x.1.length + 2 := by
  unfold step
  dsimp only
  split <;> split <;> simp <;> omega

/-! ### places that are so -/
/-- The places below m that are so. -/
def ups (q : Nat → Bool) (m : Nat) : List Nat := (List.range m).filter q
theorem ups_succ (q : Nat → Bool) (m : Nat) : ups q (m + 1) = ups q m ++ (if q m = true then [m] else []) := by
  unfold ups
  rw [List.range_succ, List.filter_append]
  cases h : q m <;> simp [h]
theorem ups_len (q : Nat → Bool) (m : Nat) : (ups q m).length ≤ m := by
  unfold ups
  have := List.length_filter_le q (List.range m)
  rwa [List.length_range] at this
theorem ups_one {q : Nat → Bool} : ∀ {m x : Nat}, ups q m = [x] → q x = true ∧ x < m ∧ ∀ j, j < x → q j = false
  | 0, x, h => by simp [ups] at h
  | m + 1, x, h => by
    rw [ups_succ] at h
    cases hq : q m with
    | false =>
      rw [hq] at h
      simp only [Bool.false_eq_true, if_false, List.append_nil] at h
      obtain ⟨h1, h2, h3⟩ := ups_one h
      exact ⟨h1, by omega, h3⟩
    | true =>
      rw [hq] at h
      simp only [if_true] at h
      have h0 : ups q m = [] := by
        cases e : ups q m with
        | nil => rfl
        | cons a l => rw [e] at h; simp at h
      rw [h0] at h
      simp only [List.nil_append, List.cons.injEq, and_true] at h
      subst h
      refine ⟨hq, Nat.lt_succ_self _, fun j hj => ?_⟩
      cases hj2 : q j with
      | false => rfl
      | true =>
        have : j ∈ ups q m := List.mem_filter.2 ⟨List.mem_range.2 hj, hj2⟩
        rw [h0] at this
        cases this
theorem ups_nil {q : Nat → Bool} {m : Nat} (h : ups q m = []) : ∀ j, j < m → q j = false := by
  intro j hj
  cases hj2 : q j with
  | false => rfl
  | true =>
    have : j ∈ ups q m := List.mem_filter.2 ⟨List.mem_range.2 hj, hj2⟩
    rw [h] at this
    cases this
/-- The first one. -/
theorem at_first {p : R → Bool} : ∀ {l : List R} {x : Nat}, (∃ r, l[x]? = some r ∧ p r = true) → (∀ (j : Nat) (r : R), j < x → l[j]? = some r → p r = false) → at_ p l = x
  | [], x, ⟨r, h, _⟩, _ => by simp at h
  | s :: l, 0, ⟨r, h, hp⟩, _ => by
    simp only [List.getElem?_cons_zero, Option.some.injEq] at h
    subst h
    simp [at_, hp]
  | s :: l, x + 1, ⟨r, h, hp⟩, hn => by
    have h0 := hn 0 s (Nat.succ_pos x) rfl
    rw [at_, h0]
    have := at_first (p := p) (l := l) (x := x) ⟨r, by simpa using h, hp⟩ (fun j r hj hr => hn (j + 1) r (by omega) (by simpa using hr))
    simp [this]
theorem at_none {p : R → Bool} : ∀ {l : List R}, (∀ (j : Nat) (r : R), l[j]? = some r → p r = false) → at_ p l = l.length
  | [], _ => rfl
  | s :: l, hn => by
    have h0 := hn 0 s rfl
    rw [at_, h0]
    have := at_none (p := p) (l := l) (fun j r hr => hn (j + 1) r (by simpa using hr))
    simp [this]

/-! ### edges, and codes -/
def edgeB (was now : List Bool) (i : Nat) : Bool := now.getD i false && !was.getD i false
def edges (was now : List Bool) : List Nat := ups (edgeB was now) now.length
def code (a b : Int) : Int := if a < 0 ∨ 1 < a ∨ b < 0 ∨ 14 < b then 0 else 1 + 16 * a + b
end Fa
