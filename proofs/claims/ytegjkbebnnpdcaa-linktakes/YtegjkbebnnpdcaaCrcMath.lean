/- Plain arithmetic of check sums: what More comes to, over natural numbers; that it is linear, and what follows. No program is named here. -/
namespace Cr

/-! ### one bit, over words of sixteen bits -/

theorem xlc {k : Nat} (x y z : BitVec k) : x ^^^ (y ^^^ z) = y ^^^ (x ^^^ z) := by rw [← BitVec.xor_assoc, BitVec.xor_comm x y, BitVec.xor_assoc]
theorem xcan {k : Nat} (x y : BitVec k) : x ^^^ (x ^^^ y) = y := by rw [← BitVec.xor_assoc, BitVec.xor_self, BitVec.zero_xor]

def sb (x : BitVec 16) : BitVec 16 := (x <<< 1) ^^^ (if x.msb then 0x1021#16 else 0#16)
theorem sb_xor (x y : BitVec 16) : sb (x ^^^ y) = sb x ^^^ sb y := by
  unfold sb
  rw [BitVec.shiftLeft_xor_distrib, BitVec.msb_xor]
  cases x.msb <;> cases y.msb <;> simp only [Bool.xor_false, Bool.xor_true, Bool.not_true, Bool.not_false, Bool.false_eq_true, if_false, if_true, BitVec.xor_zero]
  · rw [BitVec.xor_assoc]
  · rw [BitVec.xor_assoc, BitVec.xor_assoc, BitVec.xor_comm (y <<< 1)]
  · rw [BitVec.xor_assoc, xlc 0x1021#16, BitVec.xor_self, BitVec.xor_zero]
theorem sb_zero : sb 0#16 = 0#16 := by decide
theorem sb_eq_zero {x : BitVec 16} (h : sb x = 0#16) : x = 0#16 := by
  unfold sb at h
  cases hm : x.msb with
  | true =>
    rw [hm] at h
    have := congrArg (fun z : BitVec 16 => z.getLsbD 0) h
    simp at this
  | false =>
    rw [hm] at h
    simp only [Bool.false_eq_true, if_false, BitVec.xor_zero] at h
    have h1 := congrArg BitVec.toNat h
    rw [BitVec.toNat_shiftLeft] at h1
    have h2 := BitVec.msb_eq_decide x
    rw [hm] at h2
    simp at h1 h2
    apply BitVec.eq_of_toNat_eq
    simp only [BitVec.toNat_ofNat, Nat.zero_mod]
    have := x.isLt
    omega

def s8 (x : BitVec 16) : BitVec 16 := sb (sb (sb (sb (sb (sb (sb (sb x)))))))
theorem s8_xor (x y : BitVec 16) : s8 (x ^^^ y) = s8 x ^^^ s8 y := by unfold s8; simp only [sb_xor]
theorem s8_zero : s8 0#16 = 0#16 := by decide
theorem s8_eq_zero {x : BitVec 16} (h : s8 x = 0#16) : x = 0#16 := sb_eq_zero (sb_eq_zero (sb_eq_zero (sb_eq_zero (sb_eq_zero (sb_eq_zero (sb_eq_zero (sb_eq_zero h)))))))
theorem xor_eq_zero {x y : BitVec 16} (h : x ^^^ y = 0#16) : x = y := by
  have := congrArg (· ^^^ y) h
  simpa [BitVec.xor_assoc] using this
theorem s8_inj {x y : BitVec 16} (h : s8 x = s8 y) : x = y := by
  apply xor_eq_zero
  apply s8_eq_zero
  rw [s8_xor, h, BitVec.xor_self]

/-! ### bytes -/

/-- A byte in the eight highest bits. -/
def up (b : BitVec 8) : BitVec 16 := (b.zeroExtend 16) <<< 8
theorem up_xor (a b : BitVec 8) : up (a ^^^ b) = up a ^^^ up b := by
  unfold up
  rw [BitVec.zeroExtend_eq_setWidth, BitVec.zeroExtend_eq_setWidth, BitVec.zeroExtend_eq_setWidth, BitVec.setWidth_xor, BitVec.shiftLeft_xor_distrib]
theorem up_zero : up 0#8 = 0#16 := by decide
def one (s : BitVec 16) (b : BitVec 8) : BitVec 16 := s8 (s ^^^ up b)
theorem one_xor (s t : BitVec 16) (a b : BitVec 8) : one (s ^^^ t) (a ^^^ b) = one s a ^^^ one t b := by
  unfold one
  rw [up_xor, ← s8_xor]
  congr 1
  rw [BitVec.xor_assoc, BitVec.xor_assoc, xlc t]
theorem one_inj {s t : BitVec 16} {b : BitVec 8} (h : one s b = one t b) : s = t := by
  have := s8_inj h
  have := congrArg (· ^^^ up b) this
  simpa [BitVec.xor_assoc] using this

def mo (s : BitVec 16) (l : List (BitVec 8)) : BitVec 16 := l.foldl one s
theorem mo_append (s : BitVec 16) (a b : List (BitVec 8)) : mo s (a ++ b) = mo (mo s a) b := List.foldl_append
theorem mo_inj : ∀ (l : List (BitVec 8)) {s t : BitVec 16}, mo s l = mo t l → s = t
  | [], _, _, h => h
  | _ :: l, _, _, h => one_inj (mo_inj l h)
theorem mo_zip : ∀ (a b : List (BitVec 8)) (s t : BitVec 16), a.length = b.length → mo (s ^^^ t) (List.zipWith (· ^^^ ·) a b) = mo s a ^^^ mo t b
  | [], [], _, _, _ => rfl
  | x :: a, y :: b, s, t, h => by
    show mo (one (s ^^^ t) (x ^^^ y)) _ = mo (one s x) a ^^^ mo (one t y) b
    rw [one_xor, mo_zip a b _ _ (by simpa using h)]
  | [], _ :: _, _, _, h => by simp at h
  | _ :: _, [], _, _, h => by simp at h

/-- Two bytes that are not both 0, behind the sum 0, have no sum 0. -/
theorem two_zero : ∀ (x y : BitVec 8), one (one 0#16 x) y = 0#16 → x = 0#8 ∧ y = 0#8 := by
  have key : ∀ x : BitVec 8, (one 0#16 x) &&& 0x00FF#16 = 0#16 → x = 0#8 := by decide +kernel
  have hup : ∀ y : BitVec 8, up y &&& 0x00FF#16 = 0#16 := by decide +kernel
  have hup0 : ∀ y : BitVec 8, up y = 0#16 → y = 0#8 := by decide +kernel
  intro x y h
  have h1 : one 0#16 x = up y := xor_eq_zero (s8_eq_zero h)
  have hx := key x (by rw [h1]; exact hup y)
  refine ⟨hx, hup0 y ?_⟩
  rw [← h1, hx]
  decide
theorem s8_low : ∀ b : BitVec 8, s8 (b.zeroExtend 16) = up b := by decide +kernel
theorem halves (n : BitVec 16) : n ^^^ up (n.extractLsb' 8 8) = (n.extractLsb' 0 8).zeroExtend 16 := by
  apply BitVec.eq_of_getLsbD_eq
  intro i hi
  unfold up
  by_cases h : i < 8
  · simp [h, hi]
  · simp [h, hi, show i - 8 < 8 from by omega, show 8 + (i - 8) = i from by omega, BitVec.getLsbD_eq_getElem]
/-- A sum behind which its own bytes stand. -/
theorem own_zero (n : BitVec 16) : one (one n (n.extractLsb' 8 8)) (n.extractLsb' 0 8) = 0#16 := by
  unfold one
  rw [halves, s8_low, BitVec.xor_self, s8_zero]
/-- A byte by a table of 256. -/
theorem one_table (s : BitVec 16) (b : BitVec 8) : one s b = up (s.extractLsb' 0 8) ^^^ one 0#16 (s.extractLsb' 8 8 ^^^ b) := by
  unfold one
  rw [BitVec.zero_xor, ← s8_low (s.extractLsb' 0 8), ← s8_xor, ← halves, up_xor]
  congr 1
  rw [BitVec.xor_assoc, xcan]
theorem one_byte {s : BitVec 16} {u x : BitVec 8} (h : one s (u ^^^ x) = one s u) : x = 0#8 := by
  have hup0 : ∀ y : BitVec 8, up y = 0#16 → y = 0#8 := by decide +kernel
  have e := one_xor s 0#16 u x
  rw [BitVec.xor_zero, h] at e
  have e2 : one 0#16 x = 0#16 := by
    have := congrArg (one s u ^^^ ·) e
    simp only [BitVec.xor_self, xcan] at this
    exact this.symm
  have e3 := s8_eq_zero e2
  rw [BitVec.zero_xor] at e3
  exact hup0 x e3
theorem two_bytes {s : BitVec 16} {u v x y : BitVec 8} (h : one (one s (u ^^^ x)) (v ^^^ y) = one (one s u) v) : x = 0#8 ∧ y = 0#8 := by
  have e := one_xor s 0#16 u x
  rw [BitVec.xor_zero] at e
  rw [e, one_xor] at h
  apply two_zero
  have := congrArg (one (one s u) v ^^^ ·) h
  simpa only [BitVec.xor_self, xcan] using this

/-! ### the same over natural numbers -/

def stp (n : Nat) : Nat := if 65536 ≤ 2 * n then (2 * n - 65536) ^^^ 4129 else 2 * n
def st8 (n : Nat) : Nat := stp (stp (stp (stp (stp (stp (stp (stp n)))))))
def byt (s b : Nat) : Nat := st8 (s ^^^ (b * 256))
def more (s : Nat) (l : List Nat) : Nat := l.foldl byt s
def B (l : List Nat) : List (BitVec 8) := l.map (BitVec.ofNat 8)
def Bytes (l : List Nat) : Prop := ∀ v ∈ l, v < 256

theorem sb_nat (x : BitVec 16) : (sb x).toNat = stp x.toNat := by
  unfold sb stp
  rw [BitVec.msb_eq_decide, BitVec.toNat_xor, BitVec.toNat_shiftLeft, Nat.shiftLeft_eq]
  have := x.isLt
  by_cases c : 65536 ≤ 2 * x.toNat
  · rw [if_pos c, if_pos (by simp; omega), show x.toNat * 2 ^ 1 % 2 ^ 16 = 2 * x.toNat - 65536 from by omega]
    rfl
  · rw [if_neg c, if_neg (by simp; omega), show x.toNat * 2 ^ 1 % 2 ^ 16 = 2 * x.toNat from by omega]
    simp
theorem s8_nat (x : BitVec 16) : (s8 x).toNat = st8 x.toNat := by unfold s8 st8; simp only [sb_nat]
theorem up_nat (b : BitVec 8) : (up b).toNat = b.toNat * 256 := by
  unfold up
  have := b.isLt
  rw [BitVec.toNat_shiftLeft, Nat.shiftLeft_eq, BitVec.zeroExtend_eq_setWidth, BitVec.toNat_setWidth]
  omega
theorem one_nat (s : BitVec 16) (b : BitVec 8) : (one s b).toNat = byt s.toNat b.toNat := by
  unfold one byt
  rw [s8_nat, BitVec.toNat_xor, up_nat]
theorem mo_cons (s : BitVec 16) (b : BitVec 8) (l : List (BitVec 8)) : mo s (b :: l) = mo (one s b) l := by unfold mo; rw [List.foldl_cons]
theorem more_cons (s b : Nat) (l : List Nat) : more s (b :: l) = more (byt s b) l := by unfold more; rw [List.foldl_cons]
theorem more_nil (s : Nat) : more s [] = s := rfl
theorem mo_nat : ∀ (l : List (BitVec 8)) (s : BitVec 16), (mo s l).toNat = more s.toNat (l.map BitVec.toNat)
  | [], _ => rfl
  | b :: l, s => by
    rw [mo_cons, List.map_cons, more_cons, mo_nat l, one_nat]
theorem B_nat {l : List Nat} (h : Bytes l) : (B l).map BitVec.toNat = l := by
  unfold B
  rw [List.map_map]
  refine (List.map_congr_left fun v hv => ?_).trans (List.map_id l)
  simp [Nat.mod_eq_of_lt (h v hv)]
theorem w16 {s : Nat} (h : s < 65536) : (BitVec.ofNat 16 s).toNat = s := by simp [Nat.mod_eq_of_lt h]
theorem more_eq {s : Nat} {l : List Nat} (hs : s < 65536) (hl : Bytes l) : more s l = (mo (BitVec.ofNat 16 s) (B l)).toNat := by rw [mo_nat, B_nat hl, w16 hs]
theorem more_lt {s : Nat} {l : List Nat} (hs : s < 65536) (hl : Bytes l) : more s l < 65536 := by rw [more_eq hs hl]; exact (mo _ _).isLt
theorem more_append (s : Nat) (a b : List Nat) : more s (a ++ b) = more (more s a) b := List.foldl_append
theorem byt_eq {s b : Nat} (hs : s < 65536) (hb : b < 256) : byt s b = (one (BitVec.ofNat 16 s) (BitVec.ofNat 8 b)).toNat := by rw [one_nat, w16 hs]; simp [Nat.mod_eq_of_lt hb]
theorem byt_lt {s b : Nat} (hs : s < 65536) (hb : b < 256) : byt s b < 65536 := by rw [byt_eq hs hb]; exact (one _ _).isLt
theorem st8_lt {s : Nat} (hs : s < 65536) : st8 s < 65536 := by rw [← w16 hs, ← s8_nat]; exact (s8 _).isLt
theorem stp_lt {s : Nat} (hs : s < 65536) : stp s < 65536 := by rw [← w16 hs, ← sb_nat]; exact (sb _).isLt

def zx (a b : List Nat) : List Nat := List.zipWith (· ^^^ ·) a b
theorem zx_bytes {a b : List Nat} (ha : Bytes a) (hb : Bytes b) : Bytes (zx a b) := by
  intro v hv
  unfold zx at hv
  rw [List.mem_iff_getElem] at hv
  obtain ⟨i, hi, rfl⟩ := hv
  rw [List.getElem_zipWith]
  simp only [List.length_zipWith] at hi
  exact Nat.xor_lt_two_pow (n := 8) (ha _ (List.getElem_mem _)) (hb _ (List.getElem_mem _))
theorem B_zx (a b : List Nat) : B (zx a b) = List.zipWith (· ^^^ ·) (B a) (B b) := by
  unfold B zx
  rw [List.map_zipWith, List.zipWith_map]
  congr 1
  funext x y
  apply BitVec.eq_of_toNat_eq
  simp [BitVec.toNat_xor]
theorem xor_toNat (x y : BitVec 16) : (x ^^^ y).toNat = x.toNat ^^^ y.toNat := BitVec.toNat_xor x y
/-- **Adds.** -/
theorem adds {a b : List Nat} (ha : Bytes a) (hb : Bytes b) (h : a.length = b.length) : more 65535 (zx a b) = more 65535 a ^^^ more 65535 b ^^^ more 65535 (List.replicate a.length 0) := by
  have hz : Bytes (List.replicate a.length 0) := fun v hv => by rw [List.eq_of_mem_replicate hv]; decide
  rw [more_eq (by decide) (zx_bytes ha hb), more_eq (by decide) ha, more_eq (by decide) hb, more_eq (by decide) hz, ← xor_toNat, ← xor_toNat]
  congr 1
  have hBl : ∀ l : List Nat, (B l).length = l.length := fun l => by simp [B]
  rw [← mo_zip (B a) (B b) _ _ (by rw [hBl, hBl]; exact h), ← B_zx, ← mo_zip _ _ _ _ (by rw [hBl, hBl]; simp [zx, h])]
  congr 1
  refine List.ext_getElem (by simp [hBl, zx, h]) fun i h1 h2 => ?_
  simp [B]
/-- **None.** -/
theorem byt_inj {a b x : Nat} (ha : a < 65536) (hb : b < 65536) (hx : x < 256) : byt a x = byt b x ↔ a = b := by
  constructor
  · intro h
    rw [byt_eq ha hx, byt_eq hb hx] at h
    have := one_inj (BitVec.eq_of_toNat_eq h)
    have := congrArg BitVec.toNat this
    rwa [w16 ha, w16 hb] at this
  · intro h; rw [h]
theorem own {n : Nat} (hn : n < 65536) : byt (byt n (n / 256)) (n % 256) = 0 := by
  have h := congrArg BitVec.toNat (own_zero (BitVec.ofNat 16 n))
  rw [one_nat, one_nat, w16 hn] at h
  simp only [BitVec.extractLsb'_toNat, w16 hn, Nat.shiftRight_zero, BitVec.toNat_ofNat, Nat.zero_mod] at h
  rw [show n >>> 8 % 2 ^ 8 = n / 256 from by rw [Nat.shiftRight_eq_div_pow]; omega] at h
  exact h
/-- **The table.** -/
theorem table {s b : Nat} (hs : s < 65536) (hb : b < 256) : byt s b = (s * 256 % 65536) ^^^ byt 0 (s / 256 ^^^ b) := by
  have h := congrArg BitVec.toNat (one_table (BitVec.ofNat 16 s) (BitVec.ofNat 8 b))
  rw [xor_toNat, up_nat, one_nat, one_nat, w16 hs, BitVec.toNat_xor] at h
  simp only [BitVec.extractLsb'_toNat, w16 hs, Nat.shiftRight_zero, BitVec.toNat_ofNat, Nat.zero_mod] at h
  rw [show s >>> 8 % 2 ^ 8 = s / 256 from by rw [Nat.shiftRight_eq_div_pow]; omega, Nat.mod_eq_of_lt (show b < 2 ^ 8 from hb)] at h
  rw [h, show s % 2 ^ 8 * 256 = s * 256 % 65536 from by omega]
/-- **Turns.** -/
theorem turn1 {p : List Nat} {u x : Nat} (hp : Bytes p) (hu : u < 256) (hx : x < 256) (q : List Nat) (hq : Bytes q) : more 65535 (p ++ (u ^^^ x) :: q) = more 65535 (p ++ u :: q) ↔ x = 0 := by
  have hux : u ^^^ x < 256 := Nat.xor_lt_two_pow (n := 8) hu hx
  constructor
  · intro h
    rw [more_append, more_append, more_cons, more_cons] at h
    have hs : more 65535 p < 65536 := more_lt (by decide) hp
    generalize more 65535 p = s at h hs
    rw [more_eq (byt_lt hs hux) hq, more_eq (byt_lt hs hu) hq] at h
    have h2 := mo_inj _ (BitVec.eq_of_toNat_eq h)
    have h3 := congrArg BitVec.toNat h2
    rw [w16 (byt_lt hs hux), w16 (byt_lt hs hu), byt_eq hs hux, byt_eq hs hu] at h3
    have h4 := BitVec.eq_of_toNat_eq h3
    have e : BitVec.ofNat 8 (u ^^^ x) = BitVec.ofNat 8 u ^^^ BitVec.ofNat 8 x := by apply BitVec.eq_of_toNat_eq; simp [BitVec.toNat_xor]
    rw [e] at h4
    have h5 := congrArg BitVec.toNat (one_byte h4)
    simp only [BitVec.toNat_ofNat, Nat.zero_mod] at h5
    omega
  · intro h; rw [h, Nat.xor_zero]
theorem turn2 {p : List Nat} {u v x y : Nat} (hp : Bytes p) (hu : u < 256) (hv : v < 256) (hx : x < 256) (hy : y < 256) (q : List Nat) (hq : Bytes q) : more 65535 (p ++ (u ^^^ x) :: (v ^^^ y) :: q) = more 65535 (p ++ u :: v :: q) ↔ x = 0 ∧ y = 0 := by
  have hux : u ^^^ x < 256 := Nat.xor_lt_two_pow (n := 8) hu hx
  have hvy : v ^^^ y < 256 := Nat.xor_lt_two_pow (n := 8) hv hy
  constructor
  · intro h
    rw [more_append, more_append, more_cons, more_cons, more_cons, more_cons] at h
    have hs : more 65535 p < 65536 := more_lt (by decide) hp
    generalize more 65535 p = s at h hs
    have l1 := byt_lt hs hux
    have l2 := byt_lt hs hu
    rw [more_eq (byt_lt l1 hvy) hq, more_eq (byt_lt l2 hv) hq] at h
    have h2 := mo_inj _ (BitVec.eq_of_toNat_eq h)
    have h3 := congrArg BitVec.toNat h2
    rw [w16 (byt_lt l1 hvy), w16 (byt_lt l2 hv), byt_eq l1 hvy, byt_eq l2 hv, byt_eq hs hux, byt_eq hs hu, BitVec.ofNat_toNat, BitVec.ofNat_toNat, BitVec.setWidth_eq, BitVec.setWidth_eq] at h3
    have h4 := BitVec.eq_of_toNat_eq h3
    have e : ∀ a b : Nat, BitVec.ofNat 8 (a ^^^ b) = BitVec.ofNat 8 a ^^^ BitVec.ofNat 8 b := fun a b => by apply BitVec.eq_of_toNat_eq; simp [BitVec.toNat_xor]
    rw [e, e] at h4
    obtain ⟨h5, h6⟩ := two_bytes h4
    have h7 := congrArg BitVec.toNat h5
    have h8 := congrArg BitVec.toNat h6
    simp only [BitVec.toNat_ofNat, Nat.zero_mod] at h7 h8
    omega
  · rintro ⟨rfl, rfl⟩; rw [Nat.xor_zero, Nat.xor_zero]
theorem own_more {l : List Nat} (hl : Bytes l) : more 65535 (l ++ [more 65535 l / 256, more 65535 l % 256]) = 0 := by
  have hn : more 65535 l < 65536 := more_lt (by decide) hl
  rw [more_append]
  generalize more 65535 l = n at hn
  rw [more_cons, more_cons, more_nil, own hn]

end Cr
