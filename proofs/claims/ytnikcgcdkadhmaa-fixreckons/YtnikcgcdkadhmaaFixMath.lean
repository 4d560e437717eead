/- Plain arithmetic of fixed numbers: what the functions of package fix, and the document's answers beside them, come to. No program is named here. -/
namespace Fx

def sat (x : Int) : Int := if x < -2147483648 then -2147483648 else if 2147483647 < x then 2147483647 else x
def bound (x lo hi : Int) : Int := if hi < lo then lo else if x < lo then lo else if hi < x then hi else x
def add (a b : Int) : Int := sat (sat a + sat b)
def sub (a b : Int) : Int := sat (sat a - sat b)
def mul (a b s : Int) : Int := sat ((sat a * sat b) / 2 ^ (bound s 0 62).toNat)
def divq (a b : Int) : Int := if sat b = 0 then 0 else sat ((sat a).tdiv (sat b))
def dive (b : Int) : Int := if sat b = 0 then 10 else 0
def clamp (x lo hi : Int) : Int := bound (sat x) (sat lo) (sat hi)
def slew (x y n : Int) : Int :=
  if bound n 0 2147483647 < sat y - sat x then add (sat x) (bound n 0 2147483647)
  else if sat y - sat x < -(bound n 0 2147483647) then sub (sat x) (bound n 0 2147483647) else sat y

def sum (l : List Int) : Int := l.foldl add 0

theorem sum_take (l : List Int) (k : Nat) (h : k < l.length) : sum (l.take (k + 1)) = add (sum (l.take k)) (l.getD k 0) := by
  unfold sum
  rw [List.take_succ_eq_append_getElem h, List.foldl_append]
  simp [List.getD_eq_getElem?_getD, h]
theorem sat_ge (x : Int) : -2147483648 ≤ sat x := by unfold sat; (repeat' split) <;> omega
theorem sat_le (x : Int) : sat x ≤ 2147483647 := by unfold sat; (repeat' split) <;> omega
theorem sat_id (x : Int) (h1 : -2147483648 ≤ x) (h2 : x ≤ 2147483647) : sat x = x := by unfold sat; (repeat' split) <;> omega
theorem sat_sat (x : Int) : sat (sat x) = sat x := sat_id _ (sat_ge x) (sat_le x)
theorem bound_sat (x : Int) : bound x (-2147483648) 2147483647 = sat x := by unfold bound sat; (repeat' split) <;> omega
theorem bound_ge (x lo hi : Int) : lo ≤ bound x lo hi := by unfold bound; (repeat' split) <;> omega
theorem bound_le (x lo hi : Int) (h : lo ≤ hi) : bound x lo hi ≤ hi := by unfold bound; (repeat' split) <;> omega

theorem mul_abs_le {a b A B : Int} (h1 : -A ≤ a) (h2 : a ≤ A) (h3 : -B ≤ b) (h4 : b ≤ B) : -(A * B) ≤ a * b ∧ a * b ≤ A * B := by
  have hA : 0 ≤ A := by omega
  have p1 : 0 ≤ (A - a) * (B - b) := Int.mul_nonneg (by omega) (by omega)
  have p2 : 0 ≤ (A + a) * (B + b) := Int.mul_nonneg (by omega) (by omega)
  have p3 : 0 ≤ (A - a) * (B + b) := Int.mul_nonneg (by omega) (by omega)
  have p4 : 0 ≤ (A + a) * (B - b) := Int.mul_nonneg (by omega) (by omega)
  simp only [Int.sub_mul, Int.add_mul, Int.mul_sub, Int.mul_add] at p1 p2 p3 p4
  constructor <;> omega

theorem prod_bd (a b : Int) : -4611686018427387904 ≤ sat a * sat b ∧ sat a * sat b ≤ 4611686018427387904 := by
  have h := mul_abs_le (A := 2147483648) (B := 2147483648) (sat_ge a) (by have := sat_le a; omega) (sat_ge b) (by have := sat_le b; omega)
  omega

theorem tdiv_bd (a b : Int) (ha : -2147483648 ≤ a) (hb : a ≤ 2147483648) : -2147483648 ≤ a.tdiv b ∧ a.tdiv b ≤ 2147483648 := by
  have h := Int.natAbs_tdiv_le_natAbs a b
  omega

theorem sat_zero (x : Int) : sat x = 0 ↔ x = 0 := by unfold sat; (repeat' split) <;> omega
theorem slew_ref (x y n : Int) : slew x y n = (if (if sat n < 0 then 0 else sat n) < sat y - sat x then add x (if sat n < 0 then 0 else sat n)
    else if (if sat n < 0 then 0 else sat n) < -(sat y - sat x) then sub x (if sat n < 0 then 0 else sat n) else sat y) := by
  have e : bound n 0 2147483647 = if sat n < 0 then 0 else sat n := by unfold bound sat; (repeat' split) <;> omega
  unfold slew add sub
  rw [e]
  simp only [sat_sat]
  (repeat' split) <;> first | rfl | omega

/-- Halving, the greatest not above, as the document's answer does it. -/
theorem half_odd (p : Int) (h : p.tmod 2 ≠ 0) : (p - 1).tdiv 2 = p / 2 := by
  rw [Int.tmod_eq_emod] at h
  rw [Int.tdiv_eq_ediv]
  have hs : Int.sign 2 = 1 := rfl
  rw [hs]
  split <;> split at h <;> omega
theorem half_even (p : Int) (h : p.tmod 2 = 0) : p.tdiv 2 = p / 2 := by
  rw [Int.tmod_eq_emod] at h
  rw [Int.tdiv_eq_ediv]
  have hs : Int.sign 2 = 1 := rfl
  rw [hs]
  split at h <;> split <;> omega
theorem pow_half (P : Int) (k : Nat) : P / 2 ^ (k + 1) = P / 2 ^ k / 2 := by
  rw [Int.pow_succ, Int.ediv_ediv_of_nonneg (Int.pow_nonneg (by decide))]
theorem pow_bd (P : Int) (k : Nat) (B : Int) (h1 : -B ≤ P) (h2 : P ≤ B) : -B ≤ P / 2 ^ k ∧ P / 2 ^ k ≤ B := by
  induction k with
  | zero => simp; omega
  | succ k ih => rw [pow_half]; omega

end Fx
