/- The mathematics of layer 5: a packet's thirty-two bytes, the packet that bytes are, and where the first one stands. -/
import Derived.Test.YtegjkbebnnpdcaaCrcMath
namespace Go.Proofs.Ytegjkbebnnpdcaa
namespace Ln

/-- A packet: whom it is from, its frame, five values, five flags, mode, score. -/
structure Pk where
  f : Int
  n : Int
  a : Int
  b : Int
  c : Int
  d : Int
  e : Int
  ga : Bool
  gb : Bool
  gc : Bool
  gd : Bool
  ge : Bool
  m : Int
  s : Int

def zero : Pk := ⟨0, 0, 0, 0, 0, 0, 0, false, false, false, false, false, 0, 0⟩

def inB (v lo hi : Int) : Bool := decide (lo ≤ v) && decide (v ≤ hi)
theorem inB_iff {v lo hi : Int} : inB v lo hi = true ↔ lo ≤ v ∧ v ≤ hi := by simp [inB]

def headB (p : Pk) : Bool := inB p.f 0 1 && inB p.n 0 4294967295 && inB p.m 0 15 && inB p.s 0 255
def val (v : Int) : Bool := inB v (-2147483648) 2147483647
def okB (p : Pk) : Bool := headB p && val p.a && val p.b && val p.c && val p.d && val p.e

structure Ok (p : Pk) : Prop where
  f : 0 ≤ p.f ∧ p.f ≤ 1
  n : 0 ≤ p.n ∧ p.n ≤ 4294967295
  m : 0 ≤ p.m ∧ p.m ≤ 15
  s : 0 ≤ p.s ∧ p.s ≤ 255
  a : -2147483648 ≤ p.a ∧ p.a ≤ 2147483647
  b : -2147483648 ≤ p.b ∧ p.b ≤ 2147483647
  c : -2147483648 ≤ p.c ∧ p.c ≤ 2147483647
  d : -2147483648 ≤ p.d ∧ p.d ≤ 2147483647
  e : -2147483648 ≤ p.e ∧ p.e ≤ 2147483647
theorem okB_iff {p : Pk} : okB p = true ↔ Ok p := by
  simp only [okB, headB, val, Bool.and_eq_true, inB_iff]
  constructor
  · rintro ⟨⟨⟨⟨⟨⟨⟨⟨h1, h2⟩, h3⟩, h4⟩, h5⟩, h6⟩, h7⟩, h8⟩, h9⟩
    exact ⟨h1, h2, h3, h4, h5, h6, h7, h8, h9⟩
  · rintro ⟨h1, h2, h3, h4, h5, h6, h7, h8, h9⟩
    exact ⟨⟨⟨⟨⟨⟨⟨⟨h1, h2⟩, h3⟩, h4⟩, h5⟩, h6⟩, h7⟩, h8⟩, h9⟩

/-- A number's byte, counted from the lowest. -/
def bt (n : Int) (k : Nat) : Nat := (n / 256 ^ k % 256).toNat
theorem bt_lt (n : Int) (k : Nat) : bt n k < 256 := by
  unfold bt
  have := Int.emod_lt_of_pos (n / 256 ^ k) (show (0 : Int) < 256 by decide)
  have := Int.emod_nonneg (n / 256 ^ k) (show (256 : Int) ≠ 0 by decide)
  omega
/-- A number's bytes, the highest first. -/
def be : Nat → Int → List Nat
  | 0, _ => []
  | k + 1, n => bt n k :: be k n
theorem be_len (k : Nat) (n : Int) : (be k n).length = k := by induction k with
  | zero => rfl
  | succ k ih => simp [be, ih]
theorem be_bytes (k : Nat) (n : Int) : Cr.Bytes (be k n) := by
  induction k with
  | zero => intro v hv; cases hv
  | succ k ih =>
    intro v hv
    rcases List.mem_cons.1 hv with rfl | h
    · exact bt_lt n k
    · exact ih v h
theorem bytes_app {a b : List Nat} (ha : Cr.Bytes a) (hb : Cr.Bytes b) : Cr.Bytes (a ++ b) := fun v hv => (List.mem_append.1 hv).elim (ha v) (hb v)

def bit (g : Bool) (n : Int) : Int := if g then n else 0
def bits (p : Pk) : Int := bit p.ga 1 + bit p.gb 2 + bit p.gc 4 + bit p.gd 8 + bit p.ge 16

/-- The first thirty bytes. -/
def e30 (p : Pk) : List Nat := [] ++ be 1 213 ++ be 1 p.f ++ be 4 p.n ++ be 1 p.m ++ be 1 p.s ++ be 4 p.a ++ be 4 p.b ++ be 4 p.c ++ be 4 p.d ++ be 4 p.e ++ be 1 (bits p) ++ be 1 0
theorem e30_len (p : Pk) : (e30 p).length = 30 := by simp [e30, be_len]
theorem e30_bytes (p : Pk) : Cr.Bytes (e30 p) := by
  unfold e30
  repeat' apply bytes_app
  all_goals first | exact be_bytes _ _ | (intro v hv; cases hv)
def enc (p : Pk) : List Nat := e30 p ++ be 2 (Cr.more 65535 (e30 p) : Nat)
theorem enc_len (p : Pk) : (enc p).length = 32 := by simp [enc, e30_len, be_len]
theorem enc_bytes (p : Pk) : Cr.Bytes (enc p) := bytes_app (e30_bytes p) (be_bytes _ _)

theorem be2 {n : Nat} (h : n < 65536) : be 2 (n : Int) = [n / 256, n % 256] := by
  have e1 : bt (n : Int) 1 = n / 256 := by unfold bt; simp only [Int.pow_succ, Int.pow_zero]; omega
  have e0 : bt (n : Int) 0 = n % 256 := by unfold bt; simp only [Int.pow_zero]; omega
  simp [be, e1, e0]
theorem enc_sum (p : Pk) : Cr.more 65535 (enc p) = 0 := by
  have h := Cr.own_more (e30_bytes p)
  have hl := Cr.more_lt (s := 65535) (by decide) (e30_bytes p)
  unfold enc
  rwa [be2 hl]

/-- The number that four bytes are. -/
def num (l : List Nat) (i : Nat) : Nat := ((l.getD i 0 * 256 + l.getD (i + 1) 0) * 256 + l.getD (i + 2) 0) * 256 + l.getD (i + 3) 0
def s32 (n : Nat) : Int := if n < 2147483648 then (n : Int) else (n : Int) - 4294967296
def odd (n k : Nat) : Bool := n / 2 ^ k % 2 == 1
/-- The packet that bytes seem to be. -/
def rd (l : List Nat) : Pk := ⟨l.getD 1 0, num l 2, s32 (num l 8), s32 (num l 12), s32 (num l 16), s32 (num l 20), s32 (num l 24), odd (l.getD 28 0) 0, odd (l.getD 28 0) 1, odd (l.getD 28 0) 2, odd (l.getD 28 0) 3, odd (l.getD 28 0) 4, l.getD 6 0, l.getD 7 0⟩

theorem bt0 (n : Int) : (bt n 0 : Int) = n % 256 := by unfold bt; simp only [Int.pow_zero]; omega
theorem bt1 (n : Int) : (bt n 1 : Int) = n / 256 % 256 := by unfold bt; simp only [Int.pow_succ, Int.pow_zero]; omega
theorem bt2 (n : Int) : (bt n 2 : Int) = n / 65536 % 256 := by unfold bt; simp only [Int.pow_succ, Int.pow_zero]; omega
theorem bt3 (n : Int) : (bt n 3 : Int) = n / 16777216 % 256 := by unfold bt; simp only [Int.pow_succ, Int.pow_zero]; omega
theorem four (n : Int) : ((((bt n 3 * 256 + bt n 2) * 256 + bt n 1) * 256 + bt n 0 : Nat) : Int) = n % 4294967296 := by
  have h0 := bt0 n
  have h1 := bt1 n
  have h2 := bt2 n
  have h3 := bt3 n
  omega
theorem s32_four {n : Int} (h : -2147483648 ≤ n ∧ n ≤ 2147483647) : s32 (((bt n 3 * 256 + bt n 2) * 256 + bt n 1) * 256 + bt n 0) = n := by
  have e := four n
  generalize ((bt n 3 * 256 + bt n 2) * 256 + bt n 1) * 256 + bt n 0 = x at e
  unfold s32
  split <;> omega

theorem enc_eq (p : Pk) : ∃ u v : Nat, enc p = [213, bt p.f 0, bt p.n 3, bt p.n 2, bt p.n 1, bt p.n 0, bt p.m 0, bt p.s 0, bt p.a 3, bt p.a 2, bt p.a 1, bt p.a 0, bt p.b 3, bt p.b 2, bt p.b 1, bt p.b 0,
    bt p.c 3, bt p.c 2, bt p.c 1, bt p.c 0, bt p.d 3, bt p.d 2, bt p.d 1, bt p.d 0, bt p.e 3, bt p.e 2, bt p.e 1, bt p.e 0, bt (bits p) 0, 0, u, v] := by
  refine ⟨bt (Cr.more 65535 (e30 p) : Nat) 1, bt (Cr.more 65535 (e30 p) : Nat) 0, ?_⟩
  unfold enc
  generalize ((Cr.more 65535 (e30 p) : Nat) : Int) = s
  have h1 : bt 213 0 = 213 := by decide
  have h2 : bt 0 0 = 0 := by decide
  simp only [e30, be, List.nil_append, List.cons_append, h1, h2]

theorem odd_bits (p : Pk) : odd (bt (bits p) 0) 0 = p.ga ∧ odd (bt (bits p) 0) 1 = p.gb ∧ odd (bt (bits p) 0) 2 = p.gc ∧ odd (bt (bits p) 0) 3 = p.gd ∧ odd (bt (bits p) 0) 4 = p.ge := by
  obtain ⟨f, n, a, b, c, d, e, ga, gb, gc, gd, ge, m, s⟩ := p
  simp only [bits]
  cases ga <;> cases gb <;> cases gc <;> cases gd <;> cases ge <;> decide

theorem rd_enc {p : Pk} (h : Ok p) : rd (enc p) = p := by
  obtain ⟨u, v, e⟩ := enc_eq p
  obtain ⟨o0, o1, o2, o3, o4⟩ := odd_bits p
  have hf : ((bt p.f 0 : Nat) : Int) = p.f := by rw [bt0]; have := h.f; omega
  have hm : ((bt p.m 0 : Nat) : Int) = p.m := by rw [bt0]; have := h.m; omega
  have hs : ((bt p.s 0 : Nat) : Int) = p.s := by rw [bt0]; have := h.s; omega
  have hn : ((((bt p.n 3 * 256 + bt p.n 2) * 256 + bt p.n 1) * 256 + bt p.n 0 : Nat) : Int) = p.n := by rw [four]; have := h.n; omega
  have ha := s32_four h.a
  have hb := s32_four h.b
  have hc := s32_four h.c
  have hd := s32_four h.d
  have he := s32_four h.e
  rw [e]
  unfold rd num
  simp only [List.getD_cons_zero, List.getD_cons_succ, hf, hm, hs, hn, ha, hb, hc, hd, he, o0, o1, o2, o3, o4]
theorem enc_inj {p q : Pk} (hp : Ok p) (hq : Ok q) (h : enc p = enc q) : p = q := by rw [← rd_enc hp, h, rd_enc hq]

/-- Bytes that are a packet's. -/
def good (l : List Nat) : Bool := (l.length == 32) && okB (rd l) && (enc (rd l) == l)
theorem good_iff {l : List Nat} : good l = true ↔ l.length = 32 ∧ Ok (rd l) ∧ enc (rd l) = l := by
  simp only [good, Bool.and_eq_true, beq_iff_eq, okB_iff, and_assoc]
theorem good_enc {p : Pk} (h : Ok p) : good (enc p) = true := good_iff.2 ⟨enc_len p, by rw [rd_enc h]; exact h, by rw [rd_enc h]⟩
theorem good_head {l : List Nat} (h : good l = true) : l.getD 0 0 = 213 := by
  obtain ⟨_, _, e⟩ := good_iff.1 h
  obtain ⟨u, v, e2⟩ := enc_eq (rd l)
  rw [← e, e2]
  rfl
theorem good_sum {l : List Nat} (h : good l = true) : Cr.more 65535 l = 0 := by
  obtain ⟨_, _, e⟩ := good_iff.1 h
  rw [← e]
  exact enc_sum _
def decP (l : List Nat) : Pk := if good l = true then rd l else zero
def decE (l : List Nat) : Int := if good l = true then 0 else 50

/-- Thirty-two bytes from a place on. -/
def sl (l : List Nat) (i : Nat) : List Nat := (l.drop i).take 32
/-- The first packet among bytes, how many are gone, and the error. -/
inductive Res (l : List Nat) : Pk → Nat → Int → Prop
  | hit (i : Nat) (hi : i + 32 ≤ l.length) (hg : good (sl l i) = true) (hb : ∀ j, j < i → good (sl l j) = false) : Res l (rd (sl l i)) (i + 32) 0
  | none (n : Nat) (hb : ∀ j, j + 32 ≤ l.length → good (sl l j) = false) (hn : n ≤ l.length) (h31 : l.length ≤ n + 31) (hd : ∀ j, l.length ≤ j + 31 → j < n → l.getD j 0 ≠ 213) (ht : n < l.length → l.getD n 0 = 213) : Res l zero n 50

theorem Res.uniq {l : List Nat} {p q : Pk} {n m : Nat} {e f : Int} (h : Res l p n e) (k : Res l q m f) : p = q ∧ n = m ∧ e = f := by
  cases h with
  | hit i hi hg hb =>
    cases k with
    | hit j hj hg' hb' =>
      have : i = j := by
        rcases Nat.lt_trichotomy i j with h | h | h
        · rw [hb' i h] at hg; cases hg
        · exact h
        · rw [hb j h] at hg'; cases hg'
      subst this
      exact ⟨rfl, rfl, rfl⟩
    | none m' hb' _ _ _ _ => rw [hb' i hi] at hg; cases hg
  | none n' hb hn h31 hd ht =>
    cases k with
    | hit j hj hg' _ => rw [hb j hj] at hg'; cases hg'
    | none m' _ hn' h31' hd' ht' =>
      refine ⟨rfl, ?_, rfl⟩
      rcases Nat.lt_trichotomy n m with h | h | h
      · exact absurd (ht (by omega)) (hd' n h31 h)
      · exact h
      · exact absurd (ht' (by omega)) (hd m h31' h)
theorem sl_len {l : List Nat} {i : Nat} (h : i + 32 ≤ l.length) : (sl l i).length = 32 := by simp [sl]; omega
theorem sl_getD {l : List Nat} {i j : Nat} (h : j < 32) : (sl l i).getD j 0 = l.getD (i + j) 0 := by
  simp [sl, h]
theorem not_good {l : List Nat} {i : Nat} (h : l.getD i 0 ≠ 213) : good (sl l i) = false := by
  by_cases g : good (sl l i) = true
  · have := good_head g
    rw [sl_getD (by decide)] at this
    exact absurd this h
  · simpa using g
end Ln
end Go.Proofs.Ytegjkbebnnpdcaa
