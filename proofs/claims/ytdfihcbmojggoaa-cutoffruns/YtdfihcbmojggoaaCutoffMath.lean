/- What a cutoff is behind a frame, and how far a speed goes at most; what follows of it. No program is named here. -/
import Derived.Lib.Hide
import Derived.Test.YtdfihcbmojggoaaFixMath
namespace Cu

/-- One frame with too much more. -/
def lg (q : Int) : Int := min (max q 0) 1073741823 + 1
/-- The count, and whether it is shut, behind a frame. -/
def cq (t q a b : Int) : Int := if a < t ∧ b < t then 0 else lg q
def cs (t k q : Int) (s : Bool) (a b : Int) (r : Bool) : Bool := if a < t ∧ b < t then s && !r else s || decide (k ≤ lg q)
/-- A cutoff: its count, whether it is shut. -/
def stp (t k : Int) (c : Int × Bool) (p : Int × Int) (r : Bool) : Int × Bool := (cq t c.1 p.1 p.2, cs t k c.1 c.2 p.1 p.2 r)
/-- The cutoff behind the first m of frames; all that were. -/
def st (t k : Int) (P : List (Int × Int)) (R : List Bool) : Nat → Int × Bool
  | 0 => (0, false)
  | m + 1 => stp t k (st t k P R m) (P.getD m (0, 0)) (R.getD m false)
def run (t k : Int) (P : List (Int × Int)) (R : List Bool) : Nat → List (Int × Bool)
  | 0 => []
  | m + 1 => run t k P R m ++ [st t k P R (m + 1)]
theorem run_len (t k : Int) (P : List (Int × Int)) (R : List Bool) : ∀ m, (run t k P R m).length = m
  | 0 => rfl
  | m + 1 => by simp [run, run_len t k P R m]
theorem run_at (t k : Int) (P : List (Int × Int)) (R : List Bool) : ∀ {n m : Nat}, m < n → (run t k P R n)[m]? = some (st t k P R (m + 1))
  | 0, m, h => by omega
  | n + 1, m, h => by
    rw [run]
    by_cases e : m = n
    · subst e
      rw [List.getElem?_append_right (by rw [run_len]; exact Nat.le_refl _), run_len, Nat.sub_self]
      rfl
    · rw [List.getElem?_append_left (by rw [run_len]; omega)]
      exact run_at t k P R (by omega)
theorem lg_in (q : Int) : 1 ≤ lg q ∧ lg q ≤ 1073741824 := by unfold lg; omega
theorem lg_le {p q : Int} (h : p ≤ q) : lg p ≤ lg q := by unfold lg; omega
theorem cq_in (t q a b : Int) : 0 ≤ cq t q a b ∧ cq t q a b ≤ 1073741824 := by
  have := lg_in q
  unfold cq
  split <;> omega
/-- As many frames with too much, one behind the other, as there were at last. -/
def many (t : Int) (P : List (Int × Int)) : Nat → Int
  | 0 => 0
  | m + 1 => if (P.getD m (0, 0)).1 < t ∧ (P.getD m (0, 0)).2 < t then 0 else many t P m + 1
theorem many_in (t : Int) (P : List (Int × Int)) : ∀ m : Nat, 0 ≤ many t P m ∧ many t P m ≤ m
  | 0 => by simp [many]
  | m + 1 => by
    have := many_in t P m
    simp only [many]
    split <;> omega
theorem st_many (t k : Int) (P : List (Int × Int)) (R : List Bool) : ∀ m : Nat, m ≤ 1000 → (st t k P R m).1 = many t P m
  | 0, _ => rfl
  | m + 1, h => by
    have e := st_many t k P R m (by omega)
    have := many_in t P m
    simp only [st, stp, many, cq]
    split
    · rfl
    · rw [e]; unfold lg; omega
/-- How a cutoff follows upon another one. -/
theorem latch (t k : Int) {q : Int} (h0 : 0 ≤ q) (h1 : q ≤ 1000) (s : Bool) (a b : Int) (r : Bool) :
    (a < t ∧ b < t ∧ cq t q a b = 0 ∧ cs t k q s a b r = (s && !r)) ∨
    ((t ≤ a ∨ t ≤ b) ∧ cq t q a b = q + 1 ∧ cs t k q s a b r = (s || decide (k ≤ q + 1))) := by
  have e : lg q = q + 1 := by unfold lg; omega
  by_cases c : a < t ∧ b < t
  · exact .inl ⟨c.1, c.2, if_pos c, if_pos c⟩
  · refine .inr ⟨by omega, ?_, ?_⟩
    · unfold cq; rw [if_neg c, e]
    · unfold cs; rw [if_neg c, e]

/-- A lesser trip shuts no later. -/
theorem lesser {t u k : Int} (hu : u ≤ t) (P : List (Int × Int)) : ∀ m, 0 ≤ (st t k P [] m).1 ∧ (st t k P [] m).1 ≤ (st u k P [] m).1 ∧ ((st t k P [] m).2 = true → (st u k P [] m).2 = true)
  | 0 => by simp [st]
  | m + 1 => by
    obtain ⟨h0, h1, h2⟩ := lesser hu P m
    simp only [st, stp]
    generalize st t k P [] m = x at *
    generalize st u k P [] m = y at *
    generalize P.getD m (0, 0) = p
    have e := lg_le h1
    have i0 := cq_in u y.1 p.1 p.2
    have i1 := lg_in x.1
    simp only [List.getD_nil]
    unfold cq cs
    by_cases c : p.1 < u ∧ p.2 < u
    · rw [if_pos c, if_pos c, if_pos (by omega), if_pos (by omega)]
      refine ⟨Int.le_refl _, Int.le_refl _, ?_⟩
      simpa using h2
    · rw [if_neg c, if_neg c]
      by_cases d : p.1 < t ∧ p.2 < t
      · rw [if_pos d, if_pos d]
        have := lg_in y.1
        refine ⟨Int.le_refl _, by omega, ?_⟩
        intro h
        rw [h2 (by simpa using h)]
        rfl
      · rw [if_neg d, if_neg d]
        refine ⟨by omega, e, ?_⟩
        intro h
        rcases Bool.or_eq_true_iff.1 h with h | h
        · rw [h2 h]; rfl
        · have : k ≤ lg x.1 := of_decide_eq_true h
          rw [decide_eq_true (show k ≤ lg y.1 by omega), Bool.or_true]
/-- It does not matter which pickup tells what. -/
theorem stp_turn (t k : Int) (c : Int × Bool) (a b : Int) (r : Bool) : stp t k c (a, b) r = stp t k c (b, a) r := by
  simp only [stp, cq, cs, and_comm]
theorem st_turn (t k : Int) (P : List (Int × Int)) (R : List Bool) : ∀ m, m ≤ P.length → st t k (P.map Prod.swap) R m = st t k P R m
  | 0, _ => rfl
  | m + 1, h => by
    rw [st, st, st_turn t k P R m (by omega)]
    have e1 : (P.map Prod.swap).getD m (0, 0) = (P.getD m (0, 0)).swap := by
      rw [List.getD_eq_getElem?_getD, List.getElem?_map, List.getD_eq_getElem?_getD, List.getElem?_eq_getElem (show m < P.length by omega)]
      rfl
    rw [e1]
    generalize P.getD m (0, 0) = p
    obtain ⟨a, b⟩ := p
    exact stp_turn _ _ _ _ _ _

/-- How far a speed goes at most. -/
def mo (t k r : Int) : Int := Fx.sub (Fx.add t (Fx.mul (max k 0) (max r 0) 0)) 1
theorem mo_is {t k r : Int} (ht0 : 0 ≤ t) (ht : t ≤ 65536) (hk0 : 0 ≤ k) (hk : k ≤ 1000) (hr0 : 0 ≤ r) (hr : r ≤ 70000) : mo t k r = t - 1 + k * r := by
  have h1 : 0 ≤ k * r := Int.mul_nonneg hk0 hr0
  have h2 : k * r ≤ 1000 * 70000 := Int.mul_le_mul hk hr hr0 (by decide)
  have e1 : max k 0 = k := by omega
  have e2 : max r 0 = r := by omega
  unfold mo Fx.mul Fx.add Fx.sub
  rw [e1, e2, Fx.sat_id k (by omega) (by omega), Fx.sat_id r (by omega) (by omega), show Fx.bound 0 0 62 = 0 from rfl]
  simp only [Int.toNat_zero, Int.pow_zero, Int.ediv_one]
  generalize k * r = z at *
  have s1 := Fx.sat_id z (by omega) (by omega)
  have s2 := Fx.sat_id t (by omega) (by omega)
  have s3 := Fx.sat_id 1 (by omega) (by omega)
  have s4 := Fx.sat_id (t + z) (by omega) (by omega)
  have s5 := Fx.sat_id (t + z - 1) (by omega) (by omega)
  simp only [s1, s2, s3, s4, s5]
  omega
theorem mo_neg {t k r : Int} (ht0 : 0 ≤ t) (ht : t ≤ 65536) (hk0 : k ≤ 0) (hr0 : 0 ≤ r) (hr : r ≤ 70000) : mo t k r = t - 1 := by
  have e : mo t k r = mo t 0 r := by unfold mo; rw [show max k 0 = max (0 : Int) 0 by omega]
  rw [e, mo_is ht0 ht (Int.le_refl _) (by decide) hr0 hr]
  omega

/-- What a speed that keeps to its bound keeps. -/
structure Keeps (t k r : Int) (n q : Int) (s : Bool) : Prop where
  n0 : 0 ≤ n
  nm : n ≤ t - 1 + k * r
  q0 : 0 ≤ q
  op : s = false → q < k ∧ n ≤ t - 1 + q * r
theorem Keeps.start {t k r : Int} (ht : 1 ≤ t) (hk : 1 ≤ k) (hr : 0 ≤ r) : Keeps t k r 0 0 false :=
  ⟨Int.le_refl _, by have := Int.mul_nonneg (show 0 ≤ k by omega) hr; omega, Int.le_refl _, fun _ => ⟨by omega, by omega⟩⟩
theorem Keeps.step {t k r n q m n' : Int} {s : Bool} (h : Keeps t k r n q s) (hk : 1 ≤ k) (hk2 : k ≤ 1000) (hr : 0 ≤ r) (hm : m ≤ r) (hs : s = true → t ≤ n → m ≤ 0) (hn : n' = max (n + m) 0) (ht : 1 ≤ t) {a b : Int} (hab : a = n' ∨ b = n') :
    Keeps t k r n' (cq t q a b) (cs t k q s a b false) := by
  have kr : r ≤ k * r := by
    have := Int.mul_le_mul_of_nonneg_right hk hr
    simpa using this
  have i := cq_in t q a b
  cases s with
  | true =>
    have nm : n' ≤ t - 1 + k * r := by
      have h1 := h.nm
      have h0 := h.n0
      by_cases c : t ≤ n
      · have := hs rfl c
        omega
      · omega
    refine ⟨by omega, nm, i.1, ?_⟩
    intro e
    unfold cs at e
    split at e <;> simp at e
  | false =>
    obtain ⟨o1, o2⟩ := h.op rfl
    have q0 := h.q0
    have h0 := h.n0
    have e1 : (q + 1) * r = q * r + r := by rw [Int.add_mul, Int.one_mul]
    have e2 : (q + 1) * r ≤ k * r := Int.mul_le_mul_of_nonneg_right (by omega) hr
    have q1 : 0 ≤ q * r := Int.mul_nonneg q0 hr
    have n1 : n' ≤ t - 1 + (q + 1) * r := by omega
    refine ⟨by omega, by omega, i.1, ?_⟩
    intro e
    have el : lg q = q + 1 := by unfold lg; omega
    unfold cs at e
    unfold cq
    by_cases c : a < t ∧ b < t
    · rw [if_pos c]
      exact ⟨by omega, by omega⟩
    · rw [if_neg c, el] at e
      rw [if_neg c, el]
      have : ¬ k ≤ q + 1 := by
        intro hh
        rw [decide_eq_true hh] at e
        cases e
      exact ⟨by omega, n1⟩
end Cu
