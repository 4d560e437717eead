/- Plain arithmetic of stores: the words of a place; a record that is put as writes, one behind the other, into a memory whose power may go. No program is named here. -/
import Derived.Test.YtlhapipgmadbeaaStoreMath3
import Derived.Test.YtlhapipgmadbeaaNvmMath
namespace Sp
open Nv

theorem getD_set (l : List Int) (k : Nat) (v : Int) (hk : k < l.length) (j : Nat) : (l.set k v).getD j 0 = if j = k then v else l.getD j 0 := by
  by_cases e : j = k
  · subst e; simp [List.getD_eq_getElem?_getD, hk]
  · simp [List.getD_eq_getElem?_getD, Ne.symm e, e]
/-- Four words as a place. -/
def four (a b c d : Int) : Pl := ⟨a, b % 256, c, decide (256 ≤ b), decide (a = d) && decide (1 ≤ a) && decide (a ≤ 2147483648) && decide (1 ≤ b % 256) && decide (b < 512) && decide (1 ≤ c) && decide (c ≤ 65535)⟩
def pl (ws : List Int) (i : Nat) : Pl := four (ws.getD (4 * i) 0) (ws.getD (4 * i + 1) 0) (ws.getD (4 * i + 2) 0) (ws.getD (4 * i + 3) 0)
theorem four_good {a b c d : Int} (h : (four a b c d).good = true) : a = d ∧ 1 ≤ a ∧ a ≤ 2147483648 ∧ 1 ≤ b % 256 ∧ b < 512 ∧ 1 ≤ c ∧ c ≤ 65535 := by
  simpa [four, and_assoc] using h
theorem pl_code (ws : List Int) (i : Nat) (h : (pl ws i).good = true) : 1 ≤ (pl ws i).code ∧ (pl ws i).code ≤ 255 := by
  have := four_good h
  refine ⟨this.2.2.2.1, ?_⟩
  show _ % 256 ≤ 255
  omega
theorem pl_num (ws : List Int) (i : Nat) (h : (pl ws i).good = true) : 1 ≤ (pl ws i).num ∧ (pl ws i).num ≤ 2147483648 := by
  have := four_good h
  exact ⟨this.2.1, this.2.2.1⟩

/-- Writes one behind the other, up to the first one that fails: its error, and the memory behind it. -/
def writes (m : M) : List (Nat × Int) → Int × M
  | [] => (0, m)
  | (i, w) :: l => if werr m i = 0 then writes (wput m i w) l else (werr m i, wput m i w)
def apply (ws : List Int) (l : List (Nat × Int)) : List Int := l.foldl (fun ws x => ws.set x.1 x.2) ws
theorem apply_len (l : List (Nat × Int)) : ∀ ws : List Int, (apply ws l).length = ws.length := by
  induction l with
  | nil => intro ws; rfl
  | cons x l ih => intro ws; show (apply (ws.set x.1 x.2) l).length = _; rw [ih, List.length_set]
theorem in_true {m : M} {i : Nat} (h : i < m.ws.length) : inB m i = true := by simp [inB, h]
/-- Where the power never goes, or behind them all: all are done. -/
theorem writes_all : ∀ (l : List (Nat × Int)) (m : M), m.gone = false → (∀ x ∈ l, x.1 < m.ws.length) → (m.left < 0 ∨ (l.length : Int) ≤ m.left) →
    (writes m l).1 = 0 ∧ (writes m l).2.ws = apply m.ws l ∧ (writes m l).2.gone = false
  | [], m, hg, _, _ => ⟨rfl, rfl, hg⟩
  | (i, w) :: l, m, hg, hi, hl => by
    have h1 : i < m.ws.length := hi (i, w) (by simp)
    have hin := in_true h1
    simp only [List.length_cons] at hl
    have hl0 : m.left ≠ 0 := by omega
    have he : werr m i = 0 := by simp [werr, hg, hin, hl0]
    have hp : wput m i w = { m with ws := m.ws.set i w, left := if 0 < m.left then m.left - 1 else m.left, many := m.many + 1 } := by simp [wput, hg, hin, hl0]
    simp only [writes, he, if_true, hp]
    have := writes_all l { m with ws := m.ws.set i w, left := if 0 < m.left then m.left - 1 else m.left, many := m.many + 1 } hg
      (fun x hx => by simpa using hi x (by simp [hx])) (by show (if 0 < m.left then m.left - 1 else m.left) < 0 ∨ (l.length : Int) ≤ (if 0 < m.left then m.left - 1 else m.left); split <;> omega)
    exact this
/-- Else so many of them as were left. -/
theorem writes_cut : ∀ (l : List (Nat × Int)) (m : M) (c : Nat), m.gone = false → (∀ x ∈ l, x.1 < m.ws.length) → m.left = c → c < l.length →
    (writes m l).1 = 110 ∧ (writes m l).2.ws = apply m.ws (l.take c)
  | [], _, c, _, _, _, h => by simp at h
  | (i, w) :: l, m, c, hg, hi, hl, hc => by
    have h1 : i < m.ws.length := hi (i, w) (by simp)
    have hin := in_true h1
    cases c with
    | zero =>
      have hl0 : m.left = 0 := by simpa using hl
      have he : werr m i = 110 := by simp [werr, hg, hin, hl0]
      have hp : wput m i w = { m with gone := true } := by simp [wput, hg, hin, hl0]
      simp only [writes, he, hp]
      exact ⟨rfl, rfl⟩
    | succ c =>
      have hl0 : m.left ≠ 0 := by omega
      have hl1 : 0 < m.left := by omega
      have he : werr m i = 0 := by simp [werr, hg, hin, hl0]
      have hp : wput m i w = { m with ws := m.ws.set i w, left := m.left - 1, many := m.many + 1 } := by simp [wput, hg, hin, hl0, hl1]
      simp only [writes, he, if_true, hp]
      have := writes_cut l { m with ws := m.ws.set i w, left := m.left - 1, many := m.many + 1 } c hg (fun x hx => by simpa using hi x (by simp [hx])) (by show m.left - 1 = _; omega) (by simpa using hc)
      exact this
theorem writes_gone (l : List (Nat × Int)) (m : M) (h : m.gone = true) : (writes m l).1 = 0 → l = [] := by
  cases l with
  | nil => intro _; rfl
  | cons x l =>
    intro e
    have he : werr m x.1 = 110 := by simp [werr, h]
    simp [writes, he] at e

/-! ### a record that is put -/
def okR (r : R) : Bool := decide (1 ≤ r.code ∧ r.code ≤ 255 ∧ 1 ≤ r.cnt ∧ r.cnt ≤ 65535)
def second (r : R) : Int := if r.lat = true then r.code + 256 else r.code
def five (a : Nat) (r : R) (num : Int) : List (Nat × Int) := [(4 * a, 0), (4 * a + 1, second r), (4 * a + 2, r.cnt), (4 * a + 3, num), (4 * a, num)]
def rooms (m : M) : Nat := m.ws.length / 4
def free (m : M) : Nat := first (rooms m) (holds (rooms m) (pl m.ws))
def top (m : M) : Int := most (pl m.ws) (rooms m)
def put (m : M) (r : R) : Int × M :=
  if okR r = false then (1, m) else if m.gone = true then (110, m) else if 2147483648 ≤ top m then (120, m) else writes m (five (free m) r (top m + 1))
def clear (m : M) : Int × M := if m.gone = true then (110, m) else writes m ((List.range (rooms m)).map fun i => (4 * i, 0))
def told (m : M) : List R := if m.gone = true then [] else recs (rooms m) (pl m.ws)

theorem second_mod {r : R} (h : okR r = true) : second r % 256 = r.code ∧ second r < 512 ∧ (256 ≤ second r ↔ r.lat = true) := by
  have := of_decide_eq_true h
  unfold second
  split
  · rename_i e; exact ⟨by omega, by omega, by simp [e]; omega⟩
  · rename_i e; exact ⟨by omega, by omega, by simp [e]; omega⟩
/-- A place behind all five words. -/
theorem four_new {r : R} {num : Int} (h : okR r = true) (h1 : 1 ≤ num) (h2 : num ≤ 2147483648) : (four num (second r) r.cnt num).good = true ∧ rc (four num (second r) r.cnt num) = r ∧ (four num (second r) r.cnt num).num = num := by
  obtain ⟨a, b, c⟩ := second_mod h
  have := of_decide_eq_true h
  refine ⟨by simp [four, a]; omega, ?_, rfl⟩
  obtain ⟨code, cnt, lat⟩ := r
  simp only [rc, four, a, R.mk.injEq, true_and]
  cases lat <;> simp_all
/-- Behind the first so many of the five words: a place that is not good, and all others as they were. -/
theorem pl_part (ws : List Int) (a : Nat) (r : R) (num : Int) (ha : 4 * a + 3 < ws.length) (k : Nat) (hk : 1 ≤ k) (hk4 : k ≤ 4) : ∃ p : Pl, p.good = false ∧ ∀ i, pl (apply ws ((five a r num).take k)) i = upd (pl ws) a p i := by
  refine ⟨pl (apply ws ((five a r num).take k)) a, ?_, fun i => ?_⟩
  · have : k = 1 ∨ k = 2 ∨ k = 3 ∨ k = 4 := by omega
    rcases this with rfl | rfl | rfl | rfl <;>
    · simp only [five, List.take_succ_cons, List.take_zero, apply, List.foldl_cons, List.foldl_nil, pl]
      repeat rw [getD_set _ _ _ (by (try simp only [List.length_set]); omega)]
      (try rw [if_neg (by omega)])
      simp [four]
  · by_cases e : i = a
    · subst e; rw [upd_same]
    · rw [upd_other _ _ e]
      have : k = 1 ∨ k = 2 ∨ k = 3 ∨ k = 4 := by omega
      rcases this with rfl | rfl | rfl | rfl <;>
      · simp only [five, List.take_succ_cons, List.take_zero, apply, List.foldl_cons, List.foldl_nil, pl]
        repeat rw [getD_set _ _ _ (by (try simp only [List.length_set]); omega)]
        repeat rw [if_neg (by omega)]
theorem pl_whole (ws : List Int) (a : Nat) (r : R) (num : Int) (ha : 4 * a + 3 < ws.length) (i : Nat) : pl (apply ws (five a r num)) i = upd (pl ws) a (four num (second r) r.cnt num) i := by
  by_cases e : i = a
  · subst e
    rw [upd_same]
    simp only [five, apply, List.foldl_cons, List.foldl_nil, pl]
    repeat rw [getD_set _ _ _ (by (try simp only [List.length_set]); omega)]
    simp
  · rw [upd_other _ _ e]
    simp only [five, apply, List.foldl_cons, List.foldl_nil, pl]
    repeat rw [getD_set _ _ _ (by (try simp only [List.length_set]); omega)]
    repeat rw [if_neg (by omega)]
end Sp
