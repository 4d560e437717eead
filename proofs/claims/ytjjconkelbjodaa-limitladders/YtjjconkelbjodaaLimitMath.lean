/- Fuel that is taken back, a ladder, and the least that three values leave, as plain functions. No program is named here. -/
import Derived.Test.YtjjconkelbjodaaFixMath
namespace Lt

/-- Of fixed numbers, with a margin of at least 1. -/
def core (v r m f l : Int) : Int := if f ≤ l ∨ v ≤ r - m then f else if r ≤ v then l else l + (min (f - l) 2147483647 * (r - v)).tdiv m
def trim (v r m f l : Int) : Int := core (Fx.sat v) (Fx.sat r) (Fx.clamp m 1 2147483647) (Fx.sat f) (Fx.sat l)
def low (l : List Int) : Int := l.foldl (fun a x => min a (Fx.sat x)) 2147483647
def ladder (floor : Int) (l : List Int) : Int := max (low l) (Fx.sat floor)
/-- The least of three, and the first one that is it, where that is below the fuel. -/
def least (a b c : Int) : Int := min (min a b) c
def which (a b c f : Int) : Int := if f ≤ least a b c then 0 else if a = least a b c then 1 else if b = least a b c then 2 else 3

theorem clamp1 (m : Int) : Fx.clamp m 1 2147483647 = max (Fx.sat m) 1 := by
  have h1 := Fx.sat_le m
  have e1 : Fx.sat 1 = 1 := by decide
  have e2 : Fx.sat 2147483647 = 2147483647 := by decide
  unfold Fx.clamp Fx.bound
  rw [e1, e2]
  (repeat' split) <;> omega
theorem clamp1_in (m : Int) : 1 ≤ Fx.clamp m 1 2147483647 ∧ Fx.clamp m 1 2147483647 ≤ 2147483647 := by
  have h1 := Fx.sat_le m
  rw [clamp1]
  omega
/-- What is added to lean: no more than the fuel above it; more where the value is less. -/
theorem part {d e m : Int} (hd : 0 ≤ d ∧ d ≤ 2147483647) (he : 0 < e) (hm : e < m) (hm' : m ≤ 2147483647) :
    0 ≤ d * e ∧ d * e ≤ 4611686014132420609 ∧ 0 ≤ (d * e).tdiv m ∧ (d * e).tdiv m ≤ d := by
  have h0 : 0 ≤ d * e := Int.mul_nonneg hd.1 (by omega)
  have h1 : d * e ≤ d * m := Int.mul_le_mul_of_nonneg_left (by omega) hd.1
  have h2 : d * e ≤ 2147483647 * 2147483647 := Int.mul_le_mul hd.2 (by omega) (by omega) (by omega)
  refine ⟨h0, by omega, Int.tdiv_nonneg h0 (by omega), ?_⟩
  rw [Int.tdiv_eq_ediv_of_nonneg h0]
  have : d * e / m ≤ d * m / m := Int.ediv_le_ediv (by omega) h1
  rwa [Int.mul_ediv_cancel _ (by omega)] at this

section
variable {v r m f l : Int}
theorem core_all (h : f ≤ l ∨ v ≤ r - m) : core v r m f l = f := if_pos h
theorem core_lean (h : ¬ (f ≤ l ∨ v ≤ r - m)) (k : r ≤ v) : core v r m f l = l := by rw [core, if_neg h, if_pos k]
theorem core_part (h : ¬ (f ≤ l ∨ v ≤ r - m)) (k : ¬ r ≤ v) : core v r m f l = l + (min (f - l) 2147483647 * (r - v)).tdiv m := by rw [core, if_neg h, if_neg k]
theorem core_in (hm : 1 ≤ m ∧ m ≤ 2147483647) : min f l ≤ core v r m f l ∧ core v r m f l ≤ max f l ∧ (f ≤ l → core v r m f l = f) ∧ (l < f → l ≤ core v r m f l ∧ core v r m f l ≤ f) := by
  unfold core
  (repeat' split)
  · omega
  · omega
  · have := part (d := min (f - l) 2147483647) (e := r - v) (m := m) (by omega) (by omega) (by omega) hm.2
    omega
end
theorem trim_in (v r m f l : Int) : -2147483648 ≤ trim v r m f l ∧ trim v r m f l ≤ 2147483647 ∧ trim v r m f l ≤ Fx.sat f := by
  have h := core_in (v := Fx.sat v) (r := Fx.sat r) (m := Fx.clamp m 1 2147483647) (f := Fx.sat f) (l := Fx.sat l) (clamp1_in m)
  have h1 := Fx.sat_in f
  have h2 := Fx.sat_in l
  unfold trim
  omega

theorem low_in (l : List Int) : -2147483648 ≤ low l ∧ low l ≤ 2147483647 := by
  unfold low
  have : ∀ (l : List Int) (a : Int), -2147483648 ≤ a ∧ a ≤ 2147483647 → -2147483648 ≤ l.foldl (fun a x => min a (Fx.sat x)) a ∧ l.foldl (fun a x => min a (Fx.sat x)) a ≤ 2147483647 := by
    intro l
    induction l with
    | nil => intro a h; exact h
    | cons x l ih => intro a h; have := Fx.sat_in x; exact ih (min a (Fx.sat x)) (by omega)
  exact this l _ (by omega)
theorem low_take (l : List Int) (k : Nat) (h : k < l.length) : low (l.take (k + 1)) = min (low (l.take k)) (Fx.sat (l.getD k 0)) := by
  unfold low
  rw [List.take_succ_eq_append_getElem h, List.foldl_append]
  simp [List.getD_eq_getElem?_getD, h]
theorem low3 {a b c : Int} (ha : -2147483648 ≤ a ∧ a ≤ 2147483647) (hb : -2147483648 ≤ b ∧ b ≤ 2147483647) (hc : -2147483648 ≤ c ∧ c ≤ 2147483647) : ladder (-2147483648) [a, b, c] = least a b c := by
  simp only [ladder, low, List.foldl_cons, List.foldl_nil, Fx.sat_id a ha.1 ha.2, Fx.sat_id b hb.1 hb.2, Fx.sat_id c hc.1 hc.2, least, show Fx.sat (-2147483648) = -2147483648 from by decide]
  omega
theorem tdiv_mono {a b m : Int} (ha : 0 ≤ a) (h : a ≤ b) (hm : 0 < m) : a.tdiv m ≤ b.tdiv m := by
  rw [Int.tdiv_eq_ediv_of_nonneg ha, Int.tdiv_eq_ediv_of_nonneg (by omega)]
  exact Int.ediv_le_ediv hm h
/-- A greater value leaves no more. -/
theorem core_value {v v' r m f l : Int} (hm : 1 ≤ m ∧ m ≤ 2147483647) (h : v ≤ v') : core v' r m f l ≤ core v r m f l := by
  have i1 := core_in (v := v) (r := r) (f := f) (l := l) hm
  have i2 := core_in (v := v') (r := r) (f := f) (l := l) hm
  by_cases c1 : f ≤ l ∨ v ≤ r - m
  · rw [core_all c1]
    omega
  · by_cases c2 : r ≤ v
    · rw [core_lean c1 c2, core_lean (by omega) (by omega)]
      exact Int.le_refl _
    · by_cases c3 : r ≤ v'
      · rw [core_lean (v := v') (by omega) c3]
        omega
      · rw [core_part c1 c2, core_part (by omega) c3]
        have hd : 0 ≤ min (f - l) 2147483647 := by omega
        have := Int.mul_le_mul_of_nonneg_left (show r - v' ≤ r - v by omega) hd
        have := tdiv_mono (m := m) (Int.mul_nonneg hd (show 0 ≤ r - v' by omega)) this (by omega)
        omega
/-- More fuel, no less. -/
theorem core_fuel {v r m f f' l : Int} (hm : 1 ≤ m ∧ m ≤ 2147483647) (h : f ≤ f') : core v r m f l ≤ core v r m f' l := by
  have i1 := core_in (v := v) (r := r) (f := f) (l := l) hm
  have i2 := core_in (v := v) (r := r) (f := f') (l := l) hm
  by_cases c1 : f ≤ l
  · rw [core_all (Or.inl c1)]
    omega
  · by_cases c2 : v ≤ r - m
    · rw [core_all (Or.inr c2), core_all (Or.inr c2)]
      exact h
    · by_cases c3 : r ≤ v
      · rw [core_lean (by omega) c3, core_lean (by omega) c3]
        exact Int.le_refl _
      · rw [core_part (by omega) c3, core_part (by omega) c3]
        have he : 0 ≤ r - v := by omega
        have := Int.mul_le_mul_of_nonneg_right (show min (f - l) 2147483647 ≤ min (f' - l) 2147483647 by omega) he
        have := tdiv_mono (m := m) (Int.mul_nonneg (show 0 ≤ min (f - l) 2147483647 by omega) he) this (by omega)
        omega
theorem trim_value {v v' r m f l : Int} (h : v ≤ v') : trim v' r m f l ≤ trim v r m f l := core_value (clamp1_in m) (Fx.sat_mono h)
theorem trim_fuel {v r m f f' l : Int} (h : f ≤ f') : trim v r m f l ≤ trim v r m f' l := core_fuel (clamp1_in m) (Fx.sat_mono h)
/-- Of fixed numbers. -/
theorem trim_is {v r m f l : Int} (hv : -2147483648 ≤ v ∧ v ≤ 2147483647) (hr : -2147483648 ≤ r ∧ r ≤ 2147483647) (hm : 1 ≤ m ∧ m ≤ 2147483647) (hf : -2147483648 ≤ f ∧ f ≤ 2147483647) (hl : -2147483648 ≤ l ∧ l ≤ 2147483647) : trim v r m f l = core v r m f l := by
  unfold trim
  rw [clamp1, Fx.sat_id v hv.1 hv.2, Fx.sat_id r hr.1 hr.2, Fx.sat_id f hf.1 hf.2, Fx.sat_id l hl.1 hl.2, Fx.sat_id m (by omega) hm.2, show max m 1 = m from by omega]
theorem low_from (l : List Int) : ∀ a, (l.foldl (fun a x => min a (Fx.sat x)) a) ≤ a ∧ ∀ x ∈ l, (l.foldl (fun a x => min a (Fx.sat x)) a) ≤ Fx.sat x := by
  induction l with
  | nil => intro a; exact ⟨Int.le_refl _, fun x h => by cases h⟩
  | cons y l ih =>
    intro a
    obtain ⟨h1, h2⟩ := ih (min a (Fx.sat y))
    rw [List.foldl_cons]
    refine ⟨by omega, fun x hx => ?_⟩
    rcases List.mem_cons.1 hx with rfl | hx
    · omega
    · exact h2 x hx
theorem low_le {l : List Int} {x : Int} (h : x ∈ l) : low l ≤ Fx.sat x := (low_from l _).2 x h
theorem low_app (l k : List Int) : low (l ++ k) = min (low l) (low k) := by
  unfold low
  rw [List.foldl_append]
  have : ∀ (k : List Int) (a : Int), a ≤ 2147483647 → k.foldl (fun a x => min a (Fx.sat x)) a = min a (k.foldl (fun a x => min a (Fx.sat x)) 2147483647) := by
    intro k
    induction k with
    | nil => intro a h; show a = min a 2147483647; omega
    | cons y k ih =>
      intro a h
      have := Fx.sat_le y
      rw [List.foldl_cons, List.foldl_cons, ih (min a (Fx.sat y)) (by omega), ih (min 2147483647 (Fx.sat y)) (by omega)]
      omega
  exact this k _ (low_in l).2
theorem low_one (x : Int) : low [x] = Fx.sat x := by
  have := Fx.sat_le x
  show min 2147483647 (Fx.sat x) = _
  omega
theorem low_reverse (l : List Int) : low l.reverse = low l := by
  induction l with
  | nil => rfl
  | cons x l ih => rw [List.reverse_cons, low_app, ih, show x :: l = [x] ++ l from rfl, low_app]; omega
theorem ladder_reverse (x : Int) (l : List Int) : ladder x l.reverse = ladder x l := by unfold ladder; rw [low_reverse]
theorem ladder_end {x : Int} (hx : -2147483648 ≤ x ∧ x ≤ 2147483647) (l : List Int) : ladder x (l ++ [x]) = x := by
  unfold ladder
  rw [low_app, low_one, Fx.sat_id x hx.1 hx.2]
  omega
theorem ladder_ge {x : Int} (hx : -2147483648 ≤ x ∧ x ≤ 2147483647) (l : List Int) : x ≤ ladder x l := by
  unfold ladder
  rw [Fx.sat_id x hx.1 hx.2]
  omega
theorem ladder_rung {x y : Int} (hx : -2147483648 ≤ x ∧ x ≤ 2147483647) {l : List Int} (hy : y ∈ l) (h : x < ladder x l) : ladder x l ≤ y := by
  have h1 := low_le hy
  unfold ladder at h ⊢
  rw [Fx.sat_id x hx.1 hx.2] at h ⊢
  have h2 : low l ≤ Fx.sat y := h1
  rcases Int.lt_or_le y (-2147483648) with hl | hl
  · have : Fx.sat y = -2147483648 := by unfold Fx.sat; (repeat' split) <;> omega
    omega
  · have : Fx.sat y ≤ y := by unfold Fx.sat; (repeat' split) <;> omega
    omega
theorem which_in (a b c f : Int) : 0 ≤ which a b c f ∧ which a b c f ≤ 3 := by
  unfold which
  (repeat' split) <;> omega
theorem holds_over {v1 v2 v3 r1 r2 r3 m f l : Int} (hm : 1 ≤ m ∧ m ≤ 2147483647) (h : l < f) (k : r1 ≤ v1 ∨ r2 ≤ v2 ∨ r3 ≤ v3) :
    least (core v1 r1 m f l) (core v2 r2 m f l) (core v3 r3 m f l) = l ∧ 0 < which (core v1 r1 m f l) (core v2 r2 m f l) (core v3 r3 m f l) f := by
  have i1 := (core_in (v := v1) (r := r1) (f := f) (l := l) hm).2.2.2 h
  have i2 := (core_in (v := v2) (r := r2) (f := f) (l := l) hm).2.2.2 h
  have i3 := (core_in (v := v3) (r := r3) (f := f) (l := l) hm).2.2.2 h
  have e : least (core v1 r1 m f l) (core v2 r2 m f l) (core v3 r3 m f l) = l := by
    unfold least
    rcases k with k | k | k
    · rw [core_lean (v := v1) (by omega) k] at i1 ⊢; omega
    · rw [core_lean (v := v2) (by omega) k] at i2 ⊢; omega
    · rw [core_lean (v := v3) (by omega) k] at i3 ⊢; omega
  refine ⟨e, ?_⟩
  unfold which
  rw [if_neg (by rw [e]; omega)]
  (repeat' split) <;> omega
theorem holds_below {v1 v2 v3 r1 r2 r3 m f l : Int} (k1 : v1 ≤ r1 - m) (k2 : v2 ≤ r2 - m) (k3 : v3 ≤ r3 - m) :
    least (core v1 r1 m f l) (core v2 r2 m f l) (core v3 r3 m f l) = f ∧ which (core v1 r1 m f l) (core v2 r2 m f l) (core v3 r3 m f l) f = 0 := by
  rw [core_all (Or.inr k1), core_all (Or.inr k2), core_all (Or.inr k3)]
  have e : least f f f = f := by unfold least; omega
  exact ⟨e, by unfold which; rw [e, if_pos (Int.le_refl _)]⟩
/-- The document's own way: one after another. -/
def lw2 (a b : Int) : Int × Int := if b < a then (b, 2) else (a, 1)
def lw3 (a b c : Int) : Int × Int := if c < (lw2 a b).1 then (c, 3) else lw2 a b
theorem lw3_cases (a b c : Int) : (¬ b < a ∧ ¬ c < a ∧ lw3 a b c = (a, 1)) ∨ (b < a ∧ ¬ c < b ∧ lw3 a b c = (b, 2)) ∨ (c < a ∧ c < b ∧ lw3 a b c = (c, 3)) ∨ (¬ b < a ∧ c < a ∧ lw3 a b c = (c, 3)) := by
  by_cases h : b < a
  · have e : lw2 a b = (b, 2) := if_pos h
    by_cases k : c < b
    · exact Or.inr (Or.inr (Or.inl ⟨by omega, k, by unfold lw3; rw [e, if_pos k]⟩))
    · exact Or.inr (Or.inl ⟨h, k, by unfold lw3; rw [e, if_neg k]⟩)
  · have e : lw2 a b = (a, 1) := if_neg h
    by_cases k : c < a
    · exact Or.inr (Or.inr (Or.inr ⟨h, k, by unfold lw3; rw [e, if_pos k]⟩))
    · exact Or.inl ⟨h, k, by unfold lw3; rw [e, if_neg k]⟩
theorem lw_least (a b c : Int) : (lw3 a b c).1 = least a b c := by
  unfold least
  rcases lw3_cases a b c with ⟨_, _, e⟩ | ⟨_, _, e⟩ | ⟨_, _, e⟩ | ⟨_, _, e⟩ <;> rw [e] <;> dsimp only <;> omega
theorem lw_which (a b c f : Int) : which a b c f = if f ≤ (lw3 a b c).1 then 0 else (lw3 a b c).2 := by
  rw [lw_least]
  unfold which
  split
  · rfl
  · unfold least
    rcases lw3_cases a b c with ⟨_, _, e⟩ | ⟨_, _, e⟩ | ⟨_, _, e⟩ | ⟨_, _, e⟩ <;> rw [e] <;> dsimp only <;> (repeat' split) <;> omega
end Lt
