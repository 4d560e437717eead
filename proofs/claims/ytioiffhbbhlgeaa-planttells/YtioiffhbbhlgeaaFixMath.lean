/- Plain arithmetic of fixed numbers: what the functions of package fix, and the document's answers beside them, come to. No program is named here. -/
namespace Fx

def sat (x : Int) : Int := if x < -2147483648 then -2147483648 else if 2147483647 < x then 2147483647 else x
def bound (x lo hi : Int) : Int := if hi < lo then lo else if x < lo then lo else if hi < x then hi else x
def add (a b : Int) : Int := sat (sat a + sat b)
def sub (a b : Int) : Int := sat (sat a - sat b)
def mul (a b s : Int) : Int := sat ((sat a * sat b) / 2 ^ (bound s 0 62).toNat)
def divq (a b : Int) : Int := if sat b = 0 then 0 else sat ((sat a).tdiv (sat b))
def dive (b : Int) : Int := if sat b = 0 then 10 else 0
def clamp (x lo hi : Int) : Int := bound (sat x) (sat lo) (sat hi)
def slew (x y n : Int) : Int :=
  if bound n 0 2147483647 < sat y - sat x then add (sat x) (bound n 0 2147483647)
  else if sat y - sat x < -(bound n 0 2147483647) then sub (sat x) (bound n 0 2147483647) else sat y

def sum (l : List Int) : Int := l.foldl add 0

theorem sum_take (l : List Int) (k : Nat) (h : k < l.length) : sum (l.take (k + 1)) = add (sum (l.take k)) (l.getD k 0) := by
  unfold sum
  rw [List.take_succ_eq_append_getElem h, List.foldl_append]
  simp [List.getD_eq_getElem?_getD, h]
theorem sat_ge (x : Int) : -2147483648 ≤ sat x := by unfold sat; (repeat' split) <;> omega
theorem sat_le (x : Int) : sat x ≤ 2147483647 := by unfold sat; (repeat' split) <;> omega
theorem sat_id (x : Int) (h1 : -2147483648 ≤ x) (h2 : x ≤ 2147483647) : sat x = x := by unfold sat; (repeat' split) <;> omega
theorem sat_sat (x : Int) : sat (sat x) = sat x := sat_id _ (sat_ge x) (sat_le x)
theorem bound_sat (x : Int) : bound x (-2147483648) 2147483647 = sat x := by unfold bound sat; (repeat' split) <;> omega
theorem bound_ge (x lo hi : Int) : lo ≤ bound x lo hi := by unfold bound; (repeat' split) <;> omega
theorem bound_le (x lo hi : Int) (h : lo ≤ hi) : bound x lo hi ≤ hi := by unfold bound; (repeat' split) <;> omega

theorem mul_abs_le {a b A B : Int} (h1 : -A ≤ a) (h2 : a ≤ A) (h3 : -B ≤ b) (h4 : b ≤ B) : -(A * B) ≤ a * b ∧ a * b ≤ A * B := by
  have hA : 0 ≤ A := by omega
  have p1 : 0 ≤ (A - a) * (B - b) := Int.mul_nonneg (by omega) (by omega)
  have p2 : 0 ≤ (A + a) * (B + b) := Int.mul_nonneg (by omega) (by omega)
  have p3 : 0 ≤ (A - a) * (B + b) := Int.mul_nonneg (by omega) (by omega)
  have p4 : 0 ≤ (A + a) * (B - b) := Int.mul_nonneg (by omega) (by omega)
  simp only [Int.sub_mul, Int.add_mul, Int.mul_sub, Int.mul_add] at p1 p2 p3 p4
  constructor <;> omega

theorem prod_bd (a b : Int) : -4611686018427387904 ≤ sat a * sat b ∧ sat a * sat b ≤ 4611686018427387904 := by
  have h := mul_abs_le (A := 2147483648) (B := 2147483648) (sat_ge a) (by have := sat_le a; omega) (sat_ge b) (by have := sat_le b; omega)
  omega

theorem tdiv_bd (a b : Int) (ha : -2147483648 ≤ a) (hb : a ≤ 2147483648) : -2147483648 ≤ a.tdiv b ∧ a.tdiv b ≤ 2147483648 := by
  have h := Int.natAbs_tdiv_le_natAbs a b
  omega

theorem sat_in (x : Int) : -2147483648 ≤ sat x ∧ sat x ≤ 2147483647 := ⟨sat_ge x, sat_le x⟩
theorem divq_in (a b : Int) : -2147483648 ≤ divq a b ∧ divq a b ≤ 2147483647 := by
  unfold divq
  split
  · omega
  · exact sat_in _
theorem bound_in (x lo hi : Int) (h1 : -2147483648 ≤ x ∧ x ≤ 2147483647) (h2 : -2147483648 ≤ lo ∧ lo ≤ 2147483647) (h3 : -2147483648 ≤ hi ∧ hi ≤ 2147483647) :
    -2147483648 ≤ bound x lo hi ∧ bound x lo hi ≤ 2147483647 := by unfold bound; (repeat' split) <;> omega
theorem clamp_in (x lo hi : Int) : -2147483648 ≤ clamp x lo hi ∧ clamp x lo hi ≤ 2147483647 := bound_in _ _ _ (sat_in _) (sat_in _) (sat_in _)
theorem slew_in (x y n : Int) : -2147483648 ≤ slew x y n ∧ slew x y n ≤ 2147483647 := by
  unfold slew
  (repeat' split) <;> exact sat_in _
theorem sat_zero (x : Int) : sat x = 0 ↔ x = 0 := by unfold sat; (repeat' split) <;> omega
theorem slew_ref (x y n : Int) : slew x y n = (if (if sat n < 0 then 0 else sat n) < sat y - sat x then add x (if sat n < 0 then 0 else sat n)
    else if (if sat n < 0 then 0 else sat n) < -(sat y - sat x) then sub x (if sat n < 0 then 0 else sat n) else sat y) := by
  have e : bound n 0 2147483647 = if sat n < 0 then 0 else sat n := by unfold bound sat; (repeat' split) <;> omega
  unfold slew add sub
  rw [e]
  simp only [sat_sat]
  (repeat' split) <;> first | rfl | omega

/-- Halving, the greatest not above, as the document's answer does it. -/
theorem half_odd (p : Int) (h : p.tmod 2 ≠ 0) : (p - 1).tdiv 2 = p / 2 := by
  rw [Int.tmod_eq_emod] at h
  rw [Int.tdiv_eq_ediv]
  have hs : Int.sign 2 = 1 := rfl
  rw [hs]
  split <;> split at h <;> omega
theorem half_even (p : Int) (h : p.tmod 2 = 0) : p.tdiv 2 = p / 2 := by
  rw [Int.tmod_eq_emod] at h
  rw [Int.tdiv_eq_ediv]
  have hs : Int.sign 2 = 1 := rfl
  rw [hs]
  split at h <;> split <;> omega
theorem pow_half (P : Int) (k : Nat) : P / 2 ^ (k + 1) = P / 2 ^ k / 2 := by
  rw [Int.pow_succ, Int.ediv_ediv_of_nonneg (Int.pow_nonneg (by decide))]
theorem pow_bd (P : Int) (k : Nat) (B : Int) (h1 : -B ≤ P) (h2 : P ≤ B) : -B ≤ P / 2 ^ k ∧ P / 2 ^ k ≤ B := by
  induction k with
  | zero => simp; omega
  | succ k ih => rw [pow_half]; omega

theorem sat_mono {x y : Int} (h : x ≤ y) : sat x ≤ sat y := by unfold sat; (repeat' split) <;> omega
theorem add_mono {x y : Int} (z : Int) (h : x ≤ y) : add x z ≤ add y z := by
  have := sat_mono h
  exact sat_mono (by omega)
theorem add_comm (x y : Int) : add x y = add y x := by unfold add; rw [Int.add_comm]
theorem mul_comm (x y s : Int) : mul x y s = mul y x s := by unfold mul; rw [Int.mul_comm]
theorem sub_add {x y : Int} (hx : -2147483648 ≤ x ∧ x ≤ 2147483647) (hy : -2147483648 ≤ y ∧ y ≤ 2147483647) (h1 : -2147483648 ≤ x - y) (h2 : x - y ≤ 2147483647) : add (sub x y) y = x := by
  unfold add sub
  simp only [sat_id x hx.1 hx.2, sat_id y hy.1 hy.2]
  rw [sat_id (x - y) h1 h2, sat_id (x - y) h1 h2, sat_id (x - y + y) (by omega) (by omega)]
  omega
theorem mul_mono3 {x y z : Int} (h : x ≤ y) (hz : 0 ≤ z) : mul x z 3 ≤ mul y z 3 := by
  have h1 := sat_mono h
  have h2 := sat_mono hz
  have h0 : sat 0 = 0 := by decide
  have hm : sat x * sat z ≤ sat y * sat z := Int.mul_le_mul_of_nonneg_right h1 (by omega)
  have hb : (bound 3 0 62).toNat = 3 := by decide
  unfold mul
  rw [hb]
  exact sat_mono (Int.ediv_le_ediv (by decide) hm)
theorem mul_16 {x : Int} (hx : -2147483648 ≤ x ∧ x ≤ 2147483647) : mul x 65536 16 = x := by
  have hb : (bound 16 0 62).toNat = 16 := by decide
  have hs : sat 65536 = 65536 := by decide
  unfold mul
  rw [hb, hs, sat_id x hx.1 hx.2]
  have : (2 : Int) ^ 16 = 65536 := by decide
  rw [this, Int.mul_ediv_cancel _ (by decide)]
  exact sat_id x hx.1 hx.2

theorem slew_up {x y n : Int} (hx : -2147483648 ≤ x ∧ x ≤ 2147483647) (hy : -2147483648 ≤ y ∧ y ≤ 2147483647) (hn : 0 ≤ n ∧ n ≤ 2147483647) (h : n < y - x) : slew x y n = x + n := by
  have hb : bound n 0 2147483647 = n := by unfold bound; (repeat' split) <;> omega
  unfold slew add
  rw [sat_id x hx.1 hx.2, sat_id y hy.1 hy.2, hb, if_pos h, sat_id x hx.1 hx.2, sat_id n (by omega) (by omega), sat_id _ (by omega) (by omega)]
theorem slew_down {x y n : Int} (hx : -2147483648 ≤ x ∧ x ≤ 2147483647) (hy : -2147483648 ≤ y ∧ y ≤ 2147483647) (hn : 0 ≤ n ∧ n ≤ 2147483647) (h : n < x - y) : slew x y n = x - n := by
  have hb : bound n 0 2147483647 = n := by unfold bound; (repeat' split) <;> omega
  unfold slew sub
  rw [sat_id x hx.1 hx.2, sat_id y hy.1 hy.2, hb, if_neg (by omega), if_pos (by omega), sat_id x hx.1 hx.2, sat_id n (by omega) (by omega), sat_id _ (by omega) (by omega)]
theorem slew_there {x y n : Int} (hx : -2147483648 ≤ x ∧ x ≤ 2147483647) (hy : -2147483648 ≤ y ∧ y ≤ 2147483647) (hn : 0 ≤ n ∧ n ≤ 2147483647) (h1 : y - x ≤ n) (h2 : x - y ≤ n) : slew x y n = y := by
  have hb : bound n 0 2147483647 = n := by unfold bound; (repeat' split) <;> omega
  unfold slew
  rw [sat_id x hx.1 hx.2, sat_id y hy.1 hy.2, hb, if_neg (by omega), if_neg (by omega)]
theorem slew_still {x y n : Int} (hx : -2147483648 ≤ x ∧ x ≤ 2147483647) (hy : -2147483648 ≤ y ∧ y ≤ 2147483647) (hn : n ≤ 0) : slew x y n = x := by
  have hb : bound n 0 2147483647 = 0 := by unfold bound; (repeat' split) <;> omega
  unfold slew add sub
  rw [sat_id x hx.1 hx.2, sat_id y hy.1 hy.2, hb, sat_id x hx.1 hx.2, sat_id 0 (by omega) (by omega)]
  (repeat' split) <;> first | omega | (rw [sat_id _ (by omega) (by omega)]; omega)

theorem tmod_small (x : Int) {y : Int} (h : y ≠ 0) : (x.tmod y).natAbs < y.natAbs := by
  rw [Int.natAbs_tmod]
  exact Nat.mod_lt _ (by omega)
theorem tmod_sign (x y : Int) : (0 ≤ x → 0 ≤ x.tmod y) ∧ (x ≤ 0 → x.tmod y ≤ 0) := by
  refine ⟨Int.tmod_nonneg y, fun h => ?_⟩
  have := Int.tmod_nonneg (a := -x) y (by omega)
  rw [Int.neg_tmod] at this
  omega

/-- The quotient of two fixed numbers, and what is left. -/
theorem divq_left {x y : Int} (hx : -2147483648 ≤ x ∧ x ≤ 2147483647) (hy : -2147483648 ≤ y ∧ y ≤ 2147483647) (h0 : y ≠ 0) (h1 : ¬ (x = -2147483648 ∧ y = -1)) :
    x - divq x y * y = x.tmod y := by
  have hq : -2147483648 ≤ x.tdiv y ∧ x.tdiv y ≤ 2147483647 := by
    have h := tdiv_bd x y hx.1 (by omega)
    refine ⟨h.1, ?_⟩
    rcases (by omega : 2147483647 < x.tdiv y ∨ x.tdiv y ≤ 2147483647) with hlt | hge
    · exfalso
      have e : x.tdiv y = 2147483648 := by omega
      have hm := Int.mul_tdiv_add_tmod x y
      rw [e] at hm
      have hl := Int.natAbs_tdiv_le_natAbs x y
      have hx' : x = -2147483648 := by omega
      have hr1 : y * 2147483648 + x.tmod y = x := hm
      have hr2 := tmod_small x h0
      apply h1
      refine ⟨hx', ?_⟩
      omega
    · exact hge
  have e : divq x y = x.tdiv y := by
    unfold divq
    rw [sat_id y hy.1 hy.2, if_neg h0, sat_id x hx.1 hx.2, sat_id _ hq.1 hq.2]
  rw [e]
  have := Int.mul_tdiv_add_tmod x y
  rw [Int.mul_comm] at this
  omega

end Fx
