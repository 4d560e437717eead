/- Plain arithmetic of memories: what the functions of package nvm, and the document's answers beside them, come to. No program is named here. -/
namespace Nv

/-- A memory: its words, whether the power is gone, how many writes are left (below 0: it never goes), how many were done. -/
structure M where
  ws : List Int
  gone : Bool
  left : Int
  many : Int

def zeros (n : Nat) : List Int := List.replicate n 0
def new (n : Nat) : M := ⟨zeros n, false, -1, 0⟩
def inB (m : M) (i : Int) : Bool := decide (0 ≤ i) && decide (i < (m.ws.length : Int))
/-- Write: the error, and the memory behind it. -/
def werr (m : M) (i : Int) : Int := if m.gone = true then 110 else if inB m i = false then 111 else if m.left = 0 then 110 else 0
def wput (m : M) (i : Int) (w : Int) : M :=
  if m.gone = true then m else if inB m i = false then m else if m.left = 0 then { m with gone := true } else
  { m with ws := m.ws.set i.toNat w, left := if 0 < m.left then m.left - 1 else m.left, many := m.many + 1 }
/-- Read: the word, and the error. -/
def rerr (m : M) (i : Int) : Int := if m.gone = true then 110 else if inB m i = false then 111 else 0
def rval (m : M) (i : Int) : Int := if m.gone = true then 0 else if inB m i = false then 0 else m.ws.getD i.toNat 0
def arm (m : M) (k : Int) : M := if m.gone = true then m else { m with left := max k (-1) }
def up (m : M) : M := { m with gone := false, left := -1 }

/-- A call of a script: 1 write, 2 read, 3 arm, 4 up. -/
structure C where
  k : Int
  i : Int
  w : Int
def one (m : M) (c : C) : M := if c.k = 1 then wput m c.i c.w else if c.k = 3 then arm m c.i else if c.k = 4 then up m else m
def plays (m : M) (l : List C) : M := l.foldl one m
theorem plays_snoc (m : M) (l : List C) (c : C) : plays m (l ++ [c]) = one (plays m l) c := by simp [plays]

/-! ### what stays -/
theorem wput_len (m : M) (i w : Int) : (wput m i w).ws.length = m.ws.length := by
  unfold wput
  (repeat' split) <;> simp
theorem arm_len (m : M) (k : Int) : (arm m k).ws.length = m.ws.length := by unfold arm; split <;> rfl
theorem one_len (m : M) (c : C) : (one m c).ws.length = m.ws.length := by
  unfold one
  repeat' split
  · exact wput_len m _ _
  · exact arm_len m _
  · rfl
  · rfl
theorem plays_len (l : List C) : ∀ m : M, (plays m l).ws.length = m.ws.length := by
  induction l with
  | nil => intro m; rfl
  | cons c l ih => intro m; show (plays (one m c) l).ws.length = _; rw [ih, one_len]
/-- What may be of a memory that the calls made: so many writes at most, and none below. -/
structure Fit (m : M) (n : Nat) (B : Int) : Prop where
  len : m.ws.length = n
  lo : -1 ≤ m.left
  many0 : 0 ≤ m.many
  many1 : m.many ≤ B
theorem fit_new (n : Nat) : Fit (new n) n 0 := ⟨by simp [new, zeros], by simp [new], by simp [new], by simp [new]⟩
theorem Fit.more {m : M} {n : Nat} {B B' : Int} (h : Fit m n B) (hB : B ≤ B') : Fit m n B' := ⟨h.len, h.lo, h.many0, by have := h.many1; omega⟩
theorem Fit.wput {m : M} {n : Nat} {B : Int} (h : Fit m n B) (i w : Int) : Fit (wput m i w) n (B + 1) := by
  have a := h.lo
  have b := h.many0
  have c := h.many1
  unfold Nv.wput
  split
  · exact h.more (by omega)
  · split
    · exact h.more (by omega)
    · split
      · exact ⟨h.len, a, b, by show m.many ≤ B + 1; omega⟩
      · refine ⟨by simpa using h.len, ?_, by show 0 ≤ m.many + 1; omega, by show m.many + 1 ≤ B + 1; omega⟩
        show -1 ≤ if 0 < m.left then m.left - 1 else m.left
        split <;> omega
theorem Fit.arm {m : M} {n : Nat} {B : Int} (h : Fit m n B) (k : Int) : Fit (arm m k) n B := by
  obtain ⟨a, b, c, d⟩ := h
  refine ⟨by rw [arm_len, a], ?_, ?_, ?_⟩ <;> unfold Nv.arm <;> split <;> (try simp) <;> omega
theorem Fit.up {m : M} {n : Nat} {B : Int} (h : Fit m n B) : Fit (up m) n B := ⟨h.len, by simp [Nv.up], h.many0, h.many1⟩
theorem Fit.one {m : M} {n : Nat} {B : Int} (h : Fit m n B) (c : C) : Fit (one m c) n (B + 1) := by
  unfold Nv.one
  repeat' split
  · exact h.wput _ _
  · exact (h.arm _).more (by omega)
  · exact h.up.more (by omega)
  · exact h.more (by omega)

/-! ### cuts: words one behind the other, while the power goes -/
/-- Behind k writes of a list into a memory of n words that was armed for c. -/
def cut (l : List Int) (n : Nat) (c k : Nat) : M := ⟨l.take (min k c) ++ zeros (n - min k c), decide (c < k), (c : Int) - (min k c : Nat), (min k c : Nat)⟩
theorem cut_zero (l : List Int) (n c : Nat) : cut l n c 0 = arm (new n) c := by
  simp [cut, arm, new, zeros]; omega
theorem set_take (l : List Int) (k r : Nat) (hk : k < l.length) (hr : 0 < r) : (l.take k ++ zeros r).set k (l.getD k 0) = l.take (k + 1) ++ zeros (r - 1) := by
  have hl : (l.take k).length = k := by simp; omega
  rw [List.set_append_right _ _ (by omega), hl, Nat.sub_self]
  obtain ⟨r', rfl⟩ : ∃ r', r = r' + 1 := ⟨r - 1, by omega⟩
  simp only [zeros, List.replicate_succ, List.set_cons_zero, Nat.add_sub_cancel]
  rw [List.take_add_one, List.append_assoc]
  congr 1
  simp [List.getD_eq_getElem?_getD, hk]
theorem cut_len (l : List Int) (n c k : Nat) (h : min k c ≤ n) (hl : min k c ≤ l.length) : (cut l n c k).ws.length = n := by
  simp only [cut, zeros, List.length_append, List.length_take, List.length_replicate]; omega
theorem cut_err (l : List Int) (n c k : Nat) (hk : k < l.length) (hn : k < n) : werr (cut l n c k) k = if k < c then 0 else 110 := by
  have hlen := cut_len l n c k (by omega) (by omega)
  have hin : inB (cut l n c k) k = true := by simp only [inB, hlen, Bool.and_eq_true, decide_eq_true_eq]; omega
  by_cases h : k < c
  · have g : (cut l n c k).gone = false := by simp [cut]; omega
    have z : (cut l n c k).left ≠ 0 := by simp only [cut]; omega
    simp [werr, g, hin, z, h]
  · by_cases h' : c < k
    · have g : (cut l n c k).gone = true := by simp [cut, h']
      simp [werr, g, h]
    · have g : (cut l n c k).gone = false := by simp [cut]; omega
      have z : (cut l n c k).left = 0 := by simp only [cut]; omega
      simp [werr, g, hin, z, h]
theorem cut_put (l : List Int) (n c k : Nat) (hk : k < l.length) (hn : k < n) : wput (cut l n c k) k (l.getD k 0) = cut l n c (k + 1) := by
  have hlen := cut_len l n c k (by omega) (by omega)
  have hin : inB (cut l n c k) k = true := by simp only [inB, hlen, Bool.and_eq_true, decide_eq_true_eq]; omega
  by_cases h : k < c
  · have g : (cut l n c k).gone = false := by simp [cut]; omega
    have z : (cut l n c k).left ≠ 0 := by simp only [cut]; omega
    have p : 0 < (cut l n c k).left := by simp only [cut]; omega
    unfold wput
    rw [if_neg (by simp [g]), if_neg (by simp [hin]), if_neg z, if_pos p]
    have e1 : min k c = k := by omega
    have e2 : min (k + 1) c = k + 1 := by omega
    simp only [cut, e1, e2, Int.toNat_natCast, set_take l k (n - k) hk (by omega), M.mk.injEq]
    refine ⟨by rw [show n - k - 1 = n - (k + 1) by omega], ?_, by omega, by omega⟩
    simp; omega
  · have e1 : min k c = c := by omega
    have e2 : min (k + 1) c = c := by omega
    by_cases h' : c < k
    · have g : (cut l n c k).gone = true := by simp [cut, h']
      unfold wput
      rw [if_pos g]
      simp only [cut, e1, e2, M.mk.injEq, true_and, and_true]
      simp; omega
    · have g : (cut l n c k).gone = false := by simp [cut]; omega
      have z : (cut l n c k).left = 0 := by simp only [cut]; omega
      unfold wput
      rw [if_neg (by simp [g]), if_neg (by simp [hin]), if_pos z]
      simp only [cut, e1, e2, M.mk.injEq, true_and, and_true]
      simp; omega
/-- A word of what is there behind it. -/
theorem cut_word (l : List Int) (n c k i : Nat) (hk : k ≤ l.length) : (cut l n c k).ws.getD i 0 = if i < k ∧ i < c then l.getD i 0 else 0 := by
  simp only [cut, zeros]
  have hl : (l.take (min k c)).length = min k c := by simp; omega
  by_cases h : i < min k c
  · rw [if_pos (by omega), List.getD_eq_getElem?_getD, List.getElem?_append_left (by omega), List.getElem?_take, if_pos h, List.getD_eq_getElem?_getD]
  · rw [if_neg (by omega), List.getD_eq_getElem?_getD, List.getElem?_append_right (by omega), hl, List.getElem?_replicate]
    split <;> rfl

/-! ### the last word that was written -/
def last (n : Nat) (l : List Int) (k : Nat) : List Int := (l.take k).foldl (fun r v => r.set (v % 16).toNat v) (zeros n)
theorem last_zero (n : Nat) (l : List Int) : last n l 0 = zeros n := by simp [last]
theorem last_succ (n : Nat) (l : List Int) (k : Nat) (h : k < l.length) : last n l (k + 1) = (last n l k).set (l.getD k 0 % 16).toNat (l.getD k 0) := by
  unfold last
  rw [List.take_add_one, List.foldl_append]
  simp [List.getD_eq_getElem?_getD, h]
theorem last_len (n : Nat) (l : List Int) : ∀ k, (last n l k).length = n := by
  have : ∀ (q : List Int) (r : List Int), (q.foldl (fun r v => r.set (v % 16).toNat v) r).length = r.length := by
    intro q
    induction q with
    | nil => intro r; rfl
    | cons v q ih => intro r; rw [List.foldl_cons, ih]; simp
  intro k
  rw [last, this]; simp [zeros]
end Nv
