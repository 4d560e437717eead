/- What a health score is, of which signals are lost, and for how long a channel was quiet; and what follows of it. -/
namespace Hh
/-- What each signal takes. -/
def cost : Nat → Int
  | 0 => 60
  | 1 => 100
  | 2 => 60
  | 3 => 40
  | 4 => 40
  | _ => 0
/-- What the first k signals take, of those that are lost. -/
def tk (f : Nat → Bool) : Nat → Int
  | 0 => 0
  | k + 1 => tk f k + if f k then cost k else 0
theorem cost_in : ∀ k, 0 ≤ cost k ∧ cost k ≤ 100
  | 0 | 1 | 2 | 3 | 4 => by simp [cost]
  | _ + 5 => by simp [cost]
theorem tk_in (f : Nat → Bool) : ∀ k : Nat, 0 ≤ tk f k ∧ tk f k ≤ 100 * k
  | 0 => by simp [tk]
  | k + 1 => by
    have := tk_in f k
    have := cost_in k
    simp only [tk]
    split <;> omega
theorem tk5 (f : Nat → Bool) : tk f 5 = (if f 0 then 60 else 0) + (if f 1 then 100 else 0) + (if f 2 then 60 else 0) + (if f 3 then 40 else 0) + (if f 4 then 40 else 0) := by
  simp [tk, cost]
theorem tk5_in (f : Nat → Bool) : 0 ≤ tk f 5 ∧ tk f 5 ≤ 300 := by
  rw [tk5]
  constructor <;> (repeat' split) <;> omega
/-- The score; how long it was quiet, one frame more; whether it is well. -/
def sc (f : Nat → Bool) (q : Int) : Int := if 5 < q then 0 else max (255 - tk f 5 - 20 * max q 0) 0
def lg (q : Int) : Int := min (max q 0) 999 + 1
def nq (q : Int) (heard : Bool) : Int := if heard then 0 else lg q
def well (q s : Int) : Bool := decide (128 ≤ s) && decide (q ≤ 5)
theorem sc_in (f : Nat → Bool) (q : Int) : 0 ≤ sc f q ∧ sc f q ≤ 255 := by
  have := tk5_in f
  unfold sc
  split <;> omega
/-- With more lost, or quiet for longer, no greater. -/
theorem tk_more {f g : Nat → Bool} (h : ∀ k, f k = true → g k = true) : ∀ k, tk f k ≤ tk g k
  | 0 => by simp [tk]
  | k + 1 => by
    have := tk_more h k
    have := cost_in k
    have := h k
    simp only [tk]
    cases hf : f k <;> cases hg : g k <;> simp_all <;> omega
theorem sc_more {f g : Nat → Bool} (h : ∀ k, f k = true → g k = true) (q : Int) : sc g q ≤ sc f q := by
  have := tk_more h 5
  unfold sc
  split <;> omega
theorem sc_longer (f : Nat → Bool) {p q : Int} (h : p ≤ q) : sc f q ≤ sc f p := by
  have := tk5_in f
  unfold sc
  split <;> split <;> omega
/-- None lost; one; two. -/
def no : Nat → Bool := fun _ => false
def put (f : Nat → Bool) (j : Nat) : Nat → Bool := fun k => if k = j then true else f k
theorem tk_no : tk no 5 = 0 := rfl
theorem tk_put {j : Nat} (hj : j < 5) : tk (put no j) 5 = cost j := by
  obtain rfl | rfl | rfl | rfl | rfl : j = 0 ∨ j = 1 ∨ j = 2 ∨ j = 3 ∨ j = 4 := by omega
  all_goals rfl
theorem tk_put2 {i j : Nat} (hi : i < 5) (hj : j < 5) : tk (put (put no i) j) 5 = if i = j then cost i else cost i + cost j := by
  obtain rfl | rfl | rfl | rfl | rfl : i = 0 ∨ i = 1 ∨ i = 2 ∨ i = 3 ∨ i = 4 := by omega
  all_goals obtain rfl | rfl | rfl | rfl | rfl : j = 0 ∨ j = 1 ∨ j = 2 ∨ j = 3 ∨ j = 4 := by omega
  all_goals rfl
theorem sc_one {j : Nat} (hj : j < 5) : 155 ≤ sc (put no j) 0 := by
  have := tk_put hj
  have := cost_in j
  unfold sc
  rw [if_neg (by decide)]
  omega
theorem well_one {j : Nat} (hj : j < 5) : well 0 (sc (put no j) 0) = true := by
  have := sc_one hj
  simp [well]
  omega
theorem sc_two {j : Nat} (hj : j < 5) (h : j ≠ 1) : sc (put (put no 1) j) 0 ≤ 115 := by
  have e := tk_put2 (i := 1) (by decide) hj
  rw [if_neg (fun q => h q.symm)] at e
  have : 40 ≤ cost j := by
    obtain rfl | rfl | rfl | rfl | rfl : j = 0 ∨ j = 1 ∨ j = 2 ∨ j = 3 ∨ j = 4 := by omega
    all_goals simp [cost]
  have : cost 1 = 100 := rfl
  unfold sc
  rw [if_neg (by decide)]
  omega
theorem sc_same : sc (put (put no 1) 1) 0 = 155 := rfl
theorem sc_no {q : Int} (h0 : 0 ≤ q) (h : q < 3) : sc no q = 255 - 20 * q := by
  have := tk_no
  unfold sc
  rw [if_neg (by omega)]
  omega
/-- What two take is what each takes. -/
theorem sc_sum {i j : Nat} (hi : i < 5) (hj : j < 5) (h : i ≠ j) {q : Int} (h0 : 0 ≤ q) (h2 : q < 3) : sc (put (put no i) j) q = sc (put no i) q + sc (put no j) q - sc no q := by
  have e1 := tk_put hi
  have e2 := tk_put hj
  have e3 := tk_put2 hi hj
  have e4 := tk_no
  rw [if_neg h] at e3
  have c : cost i + cost j ≤ 160 := by
    obtain rfl | rfl | rfl | rfl | rfl : i = 0 ∨ i = 1 ∨ i = 2 ∨ i = 3 ∨ i = 4 := by omega
    all_goals obtain rfl | rfl | rfl | rfl | rfl : j = 0 ∨ j = 1 ∨ j = 2 ∨ j = 3 ∨ j = 4 := by omega
    all_goals first | exact absurd rfl h | simp [cost]
  have := cost_in i
  have := cost_in j
  unfold sc
  rw [if_neg (by omega), if_neg (by omega), if_neg (by omega), if_neg (by omega)]
  omega
theorem put_same (f : Nat → Bool) (i : Nat) : put (put f i) i = put f i := by
  funext k
  simp only [put]
  split <;> rfl
/-- A channel that lost nothing. -/
theorem sc_quiet (q : Int) (h : 0 ≤ q) : (decide (128 ≤ sc no q) && decide (q ≤ 5)) = decide (q ≤ 5) := by
  have := tk_no
  by_cases c : q ≤ 5
  · have : 128 ≤ sc no q := by unfold sc; rw [if_neg (by omega)]; omega
    simp [c, this]
  · simp [c]
theorem well_quiet (q : Int) (h : 0 ≤ q) : well q (sc no q) = decide (q ≤ 5) := sc_quiet q h
/-- The document's order of taking. -/
theorem ref_is (f : Nat → Bool) (q : Int) (h : ¬ 5 < q) : max (255 - 20 * max q 0 - (if f 1 then 100 else 0) - (if f 0 then 60 else 0) - (if f 2 then 60 else 0) - (if f 3 then 40 else 0) - (if f 4 then 40 else 0)) 0 = sc f q := by
  unfold sc
  rw [if_neg h, tk5]
  congr 1
  omega
end Hh
