/- Plain arithmetic of scales: counts of values, values of counts. No program is named here. -/
import Derived.Test.YtildceoakohhmaaFixMath
namespace Sn

/-- A value's count. -/
def cnt (g o v : Int) : Int := o + v * g / 65536
/-- It, without the offset. -/
def pr (g v : Int) : Int := v * g / 65536
theorem cnt_pr (g o v : Int) : cnt g o v = o + pr g v := rfl
/-- A scale may be. -/
def Ok (g o l h : Int) : Prop := 1 ≤ g ∧ g ≤ 1048576 ∧ 0 ≤ o ∧ o ≤ 65535 ∧ -1048576 ≤ l ∧ h ≤ 1048576 ∧ l < h ∧ 0 ≤ cnt g o l ∧ cnt g o h ≤ 65535
instance (g o l h : Int) : Decidable (Ok g o l h) := by unfold Ok; infer_instance
def err (g o l h : Int) : Int := if Ok g o l h then 0 else 60
def bd (v l h : Int) : Int := if v < l then l else if h < v then h else v
def raw (g o l h v : Int) : Int := if Ok g o l h then cnt g o (bd v l h) else 0
/-- How many of the first m are not yet. -/
def least (p : Nat → Bool) : Nat → Nat
  | 0 => 0
  | m + 1 => if least p m < m then least p m else if p m then m else m + 1
/-- A count's value. -/
def val (g o l h n : Int) : Int := if Ok g o l h then l + least (fun i => decide (n ≤ cnt g o (l + i))) (h - l).toNat else 0
def step (g l h : Int) : Int := if (65536 + g - 1) / g - 1 < h - l then (65536 + g - 1) / g - 1 else h - l
def stp (g o l h : Int) : Int := if Ok g o l h then step g l h else 0

theorem err_ok {g o l h : Int} (k : Ok g o l h) : err g o l h = 0 := if_pos k
theorem err_no {g o l h : Int} (k : ¬ Ok g o l h) : err g o l h = 60 := if_neg k
theorem raw_ok {g o l h v : Int} (k : Ok g o l h) : raw g o l h v = cnt g o (bd v l h) := if_pos k
theorem raw_no {g o l h v : Int} (k : ¬ Ok g o l h) : raw g o l h v = 0 := if_neg k
theorem val_no {g o l h v : Int} (k : ¬ Ok g o l h) : val g o l h v = 0 := if_neg k
theorem stp_ok {g o l h : Int} (k : Ok g o l h) : stp g o l h = step g l h := if_pos k
theorem stp_no {g o l h : Int} (k : ¬ Ok g o l h) : stp g o l h = 0 := if_neg k

/-- Of values that may be the product is nowhere cut off. -/
theorem mul_small {v g : Int} (h1 : -1048576 ≤ v) (h2 : v ≤ 1048576) (h3 : 1 ≤ g) (h4 : g ≤ 1048576) : Fx.mul v g 16 = v * g / 65536 ∧ -16777216 ≤ v * g / 65536 ∧ v * g / 65536 ≤ 16777216 := by
  have hb : (Fx.bound 16 0 62).toNat = 16 := by decide
  have hp : (2 : Int) ^ 16 = 65536 := by decide
  have hm := Fx.mul_abs_le (A := 1048576) (B := 1048576) (a := v) (b := g) (by omega) (by omega) (by omega) (by omega)
  have hd : -16777216 ≤ v * g / 65536 ∧ v * g / 65536 ≤ 16777216 := by
    generalize v * g = p at *
    omega
  refine ⟨?_, hd⟩
  unfold Fx.mul
  rw [hb, hp, Fx.sat_id v (by omega) (by omega), Fx.sat_id g (by omega) (by omega)]
  exact Fx.sat_id _ (by omega) (by omega)
theorem pr_in {v g : Int} (h1 : -1048576 ≤ v ∧ v ≤ 1048576) (h3 : 1 ≤ g ∧ g ≤ 1048576) : Fx.mul v g 16 = pr g v ∧ -16777216 ≤ pr g v ∧ pr g v ≤ 16777216 := mul_small h1.1 h1.2 h3.1 h3.2
theorem clamp_bd {v l h : Int} (h1 : -1048576 ≤ l) (h2 : h ≤ 1048576) (h3 : l < h) : Fx.clamp v l h = bd v l h := by
  unfold Fx.clamp
  rw [Fx.sat_id l (by omega) (by omega), Fx.sat_id h (by omega) (by omega)]
  unfold Fx.bound bd Fx.sat
  (repeat' split) <;> omega
theorem bd_in {v l h : Int} (h3 : l < h) : l ≤ bd v l h ∧ bd v l h ≤ h := by
  unfold bd
  (repeat' split) <;> omega
theorem bd_id {v l h : Int} (h1 : l ≤ v) (h2 : v ≤ h) : bd v l h = v := by
  unfold bd
  (repeat' split) <;> omega
theorem bd_low {v l h : Int} (h1 : v ≤ l) (h2 : l < h) : bd v l h = l := by
  unfold bd
  (repeat' split) <;> omega
theorem bd_high {v l h : Int} (h1 : h ≤ v) (h2 : l < h) : bd v l h = h := by
  unfold bd
  (repeat' split) <;> omega
theorem bd_mono {a b l h : Int} (k : a ≤ b) (h2 : l < h) : bd a l h ≤ bd b l h := by
  unfold bd
  (repeat' split) <;> omega
theorem cnt_mono {g o a b : Int} (hg : 1 ≤ g) (k : a ≤ b) : cnt g o a ≤ cnt g o b := by
  have hm : a * g ≤ b * g := Int.mul_le_mul_of_nonneg_right k (by omega)
  unfold cnt
  generalize a * g = p at *
  generalize b * g = q at *
  omega
theorem cnt_in {g o v : Int} (h1 : -1048576 ≤ v) (h2 : v ≤ 1048576) (h3 : 1 ≤ g) (h4 : g ≤ 1048576) (h5 : 0 ≤ o) (h6 : o ≤ 65535) : -16777216 ≤ cnt g o v ∧ cnt g o v ≤ 16842751 := by
  have := (mul_small h1 h2 h3 h4).2
  unfold cnt
  omega

theorem least_le (p : Nat → Bool) (m : Nat) : least p m ≤ m := by
  induction m with
  | zero => exact Nat.le_refl _
  | succ m ih =>
    unfold least
    (repeat' split) <;> omega
theorem least_below (p : Nat → Bool) (m i : Nat) (h : i < least p m) : p i = false := by
  induction m with
  | zero => exact absurd h (Nat.not_lt_zero _)
  | succ m ih =>
    have hl := least_le p m
    unfold least at h
    by_cases h1 : least p m < m
    · rw [if_pos h1] at h
      exact ih h
    · rw [if_neg h1] at h
      have e : least p m = m := by omega
      cases hp : p m
      · rw [hp] at h
        by_cases h2 : i < m
        · exact ih (by omega)
        · have : i < m + 1 := h
          have : i = m := by omega
          rw [this, hp]
      · rw [hp] at h
        exact ih (by rw [e]; exact h)
theorem least_at (p : Nat → Bool) (m : Nat) (h : least p m < m) : p (least p m) = true := by
  induction m with
  | zero => exact absurd h (Nat.not_lt_zero _)
  | succ m ih =>
    have hl := least_le p m
    unfold least at h ⊢
    by_cases h1 : least p m < m
    · rw [if_pos h1]
      exact ih h1
    · rw [if_neg h1] at h ⊢
      cases hp : p m
      · rw [hp] at h
        have : m + 1 < m + 1 := h
        omega
      · exact hp

/-- A count's value, told by what it is. -/
structure IsV (g o l h n r : Int) : Prop where
  lo : l ≤ r
  hi : r ≤ h
  below : ∀ v, l ≤ v → v < r → cnt g o v < n
  at_ : r < h → n ≤ cnt g o r
theorem IsV.uniq {g o l h n r s : Int} (a : IsV g o l h n r) (b : IsV g o l h n s) : r = s := by
  rcases (by omega : r < s ∨ r = s ∨ s < r) with k | k | k
  · have h1 := b.below r a.lo k
    have h2 := a.at_ (by have := b.hi; omega)
    omega
  · exact k
  · have h1 := a.below s b.lo k
    have h2 := b.at_ (by have := a.hi; omega)
    omega
theorem val_is {g o l h : Int} (n : Int) (k : Ok g o l h) : IsV g o l h n (val g o l h n) := by
  have hlt : l < h := k.2.2.2.2.2.2.1
  unfold val
  rw [if_pos k]
  have h1 := least_le (fun i => decide (n ≤ cnt g o (l + i))) (h - l).toNat
  have h2 := least_below (fun i => decide (n ≤ cnt g o (l + i))) (h - l).toNat
  have h3 := least_at (fun i => decide (n ≤ cnt g o (l + i))) (h - l).toNat
  generalize least (fun i => decide (n ≤ cnt g o (l + i))) (h - l).toNat = r at *
  refine ⟨by omega, by omega, fun v hv1 hv2 => ?_, fun hr => ?_⟩
  · have := h2 (v - l).toNat (by omega)
    have e : l + ((v - l).toNat : Int) = v := by omega
    simp only [e] at this
    have := of_decide_eq_false this
    omega
  · have := h3 (by omega)
    exact of_decide_eq_true this
theorem val_of {g o l h n r : Int} (k : Ok g o l h) (a : IsV g o l h n r) : val g o l h n = r := (val_is n k).uniq a

/-- Steps: the least number that times Gain is at least 2^16. -/
theorem ceil_of {g n : Int} (hg : 1 ≤ g) (h1 : 65536 ≤ n * g) (h2 : (n - 1) * g < 65536) : (65536 + g - 1) / g = n := by
  have e : (n - 1) * g = n * g - g := by rw [Int.sub_mul, Int.one_mul]
  rw [e] at h2
  apply Int.le_antisymm
  · have : (65536 + g - 1) / g < n + 1 := Int.ediv_lt_of_lt_mul (by omega) (by rw [Int.add_mul, Int.one_mul]; omega)
    omega
  · exact Int.le_ediv_of_mul_le (by omega) (by omega)
theorem ceil_in {g : Int} (hg : 1 ≤ g) : 65536 ≤ (65536 + g - 1) / g * g ∧ 1 ≤ (65536 + g - 1) / g ∧ (65536 + g - 1) / g ≤ 65536 := by
  have h0 := Int.mul_ediv_add_emod (65536 + g - 1) g
  have h1 := Int.emod_lt_of_pos (65536 + g - 1) (by omega : 0 < g)
  have h2 := Int.emod_nonneg (65536 + g - 1) (by omega : g ≠ 0)
  have h3 : 65536 ≤ (65536 + g - 1) / g * g := by rw [Int.mul_comm]; omega
  refine ⟨h3, Int.le_ediv_of_mul_le (by omega) (by omega), ?_⟩
  have : (65536 + g - 1) / g < 65536 + 1 := Int.ediv_lt_of_lt_mul (by omega) (by
    have : 65536 * (g - 1) ≥ 0 := by omega
    rw [Int.add_mul]; omega)
  omega

section
variable {g o l h : Int}
theorem raw_in (k : Ok g o l h) (v : Int) : 0 ≤ raw g o l h v ∧ raw g o l h v ≤ 65535 := by
  have b := bd_in (v := v) k.2.2.2.2.2.2.1
  have h1 := cnt_mono (o := o) k.1 b.1
  have h2 := cnt_mono (o := o) k.1 b.2
  have h3 := k.2.2.2.2.2.2.2.1
  have h4 := k.2.2.2.2.2.2.2.2
  rw [raw_ok k]
  omega
theorem raw_mono (k : Ok g o l h) {a b : Int} (hab : a ≤ b) : raw g o l h a ≤ raw g o l h b := by
  rw [raw_ok k, raw_ok k]
  exact cnt_mono k.1 (bd_mono hab k.2.2.2.2.2.2.1)
theorem raw_low (k : Ok g o l h) {v : Int} (hv : v ≤ l) : raw g o l h v = cnt g o l := by
  rw [raw_ok k, bd_low hv k.2.2.2.2.2.2.1]
theorem raw_high (k : Ok g o l h) {v : Int} (hv : h ≤ v) : raw g o l h v = cnt g o h := by
  rw [raw_ok k, bd_high hv k.2.2.2.2.2.2.1]
theorem raw_at (k : Ok g o l h) {v : Int} (h1 : l ≤ v) (h2 : v ≤ h) : raw g o l h v = cnt g o v := by
  rw [raw_ok k, bd_id h1 h2]
theorem val_in (k : Ok g o l h) (n : Int) : l ≤ val g o l h n ∧ val g o l h n ≤ h := ⟨(val_is n k).lo, (val_is n k).hi⟩
theorem val_mono (k : Ok g o l h) {a b : Int} (hab : a ≤ b) : val g o l h a ≤ val g o l h b := by
  have A := val_is a k
  have B := val_is b k
  generalize val g o l h a = r at *
  generalize val g o l h b = s at *
  rcases (by omega : r ≤ s ∨ s < r) with q | q
  · exact q
  · have h1 := A.below s B.lo q
    have h2 := B.at_ (by have := A.hi; omega)
    omega
theorem val_low (k : Ok g o l h) {n : Int} (hn : n ≤ 0) : val g o l h n = l :=
  val_of k ⟨Int.le_refl _, by have := k.2.2.2.2.2.2.1; omega, fun v h1 h2 => absurd h2 (by omega), fun _ => by have := k.2.2.2.2.2.2.2.1; omega⟩
theorem val_high (k : Ok g o l h) {n : Int} (hn : 65535 < n) : val g o l h n = h :=
  val_of k ⟨by have := k.2.2.2.2.2.2.1; omega, Int.le_refl _, fun v h1 h2 => by
    have := cnt_mono (o := o) k.1 (by omega : v ≤ h)
    have := k.2.2.2.2.2.2.2.2
    omega, fun q => absurd q (by omega)⟩

/-- A value that is counted is told as one with the same count, at most step below it. -/
theorem back (k : Ok g o l h) {v : Int} (h1 : l ≤ v) (h2 : v ≤ h) :
    val g o l h (cnt g o v) ≤ v ∧ cnt g o (val g o l h (cnt g o v)) = cnt g o v ∧ v - val g o l h (cnt g o v) ≤ step g l h := by
  have V := val_is (cnt g o v) k
  generalize val g o l h (cnt g o v) = w at *
  have a1 : w ≤ v := by
    rcases (by omega : w ≤ v ∨ v < w) with q | q
    · exact q
    · have := V.below v h1 q
      omega
  have a2 : cnt g o w = cnt g o v := by
    have m := cnt_mono (o := o) k.1 a1
    rcases (by have := V.hi; omega : w < h ∨ w = h) with q | q
    · have := V.at_ q
      omega
    · have : w = v := by omega
      rw [this]
  refine ⟨a1, a2, ?_⟩
  have c := ceil_in k.1
  generalize hn : (65536 + g - 1) / g = n at c
  have b1 : v - w ≤ n - 1 := by
    rcases (by omega : v - w ≤ n - 1 ∨ n ≤ v - w) with q | q
    · exact q
    · exfalso
      have m := Int.mul_le_mul_of_nonneg_right q (by have := k.1; omega : 0 ≤ g)
      rw [Int.sub_mul] at m
      have c1 := c.1
      unfold cnt at a2
      generalize n * g = x at *
      generalize v * g = y at *
      generalize w * g = z at *
      omega
  have b2 : v - w ≤ h - l := by have := V.lo; omega
  unfold step
  rw [hn]
  split <;> omega
theorem ceil_one (hg : 65536 ≤ g) : (65536 + g - 1) / g = 1 := ceil_of (by omega) (by omega) (by omega)
theorem step_zero (k : Ok g o l h) (hg : 65536 ≤ g) : step g l h = 0 := by
  have := k.2.2.2.2.2.2.1
  unfold step
  rw [ceil_one hg]
  split <;> omega
theorem step_in (k : Ok g o l h) : 0 ≤ step g l h ∧ step g l h ≤ 65535 := by
  have := k.2.2.2.2.2.2.1
  have c := (ceil_in k.1).2
  unfold step
  generalize (65536 + g - 1) / g = n at *
  split <;> omega
end
end Sn
