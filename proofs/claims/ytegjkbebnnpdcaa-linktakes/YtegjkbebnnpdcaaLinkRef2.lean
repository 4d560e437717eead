/- The document's number of four bytes. -/
import Derived.Test.YtegjkbebnnpdcaaLinkRef1
namespace Go.Proofs.Ytegjkbebnnpdcaa
namespace Lw
open Go.RowKit

theorem or_u32 {a b : Nat} (ha : a < 4294967296) (hb : b < 4294967296) : bits .or .u32 (a : Int) (b : Int) = ((a ||| b : Nat) : Int) := by
  have hx : a ||| b < 2 ^ 32 := Nat.or_lt_two_pow (by omega) (by omega)
  have h1 : (BitVec.ofInt 32 (a : Int)).toNat = a := by rw [BitVec.ofInt_natCast, BitVec.toNat_ofNat]; exact Nat.mod_eq_of_lt (by omega)
  have h2 : (BitVec.ofInt 32 (b : Int)).toNat = b := by rw [BitVec.ofInt_natCast, BitVec.toNat_ofNat]; exact Nat.mod_eq_of_lt (by omega)
  show IntKind.u32.wrap ((BitVec.ofInt 32 (a : Int) ||| BitVec.ofInt 32 (b : Int)).toNat : Int) = _
  rw [BitVec.toNat_or, h1, h2, Cb.wrap_u32]
  omega
theorem or_add {x y : Nat} (k : Nat) (hy : y < 2 ^ k) : x * 2 ^ k ||| y = x * 2 ^ k + y := by
  have := Nat.shiftLeft_add_eq_or_of_lt (b := y) (i := k) hy x
  rw [Nat.shiftLeft_eq] at this
  exact this.symm
theorem number_ors {a b c d : Nat} (ha : a < 256) (hb : b < 256) (hc : c < 256) (hd : d < 256) :
    bits .or .u32 ((a * 16777216 : Nat) : Int) ((b * 65536 : Nat) : Int) = ((a * 16777216 + b * 65536 : Nat) : Int) ∧
    bits .or .u32 ((a * 16777216 + b * 65536 : Nat) : Int) ((c * 256 : Nat) : Int) = ((a * 16777216 + b * 65536 + c * 256 : Nat) : Int) ∧
    bits .or .u32 ((a * 16777216 + b * 65536 + c * 256 : Nat) : Int) (d : Int) = ((((a * 256 + b) * 256 + c) * 256 + d : Nat) : Int) := by
  refine ⟨?_, ?_, ?_⟩
  · rw [or_u32 (by omega) (by omega)]
    have := or_add (x := a) (y := b * 65536) 24 (by omega)
    rw [show (2 : Nat) ^ 24 = 16777216 from rfl] at this
    rw [this]
  · rw [or_u32 (by omega) (by omega)]
    have := or_add (x := a * 256 + b) (y := c * 256) 16 (by omega)
    rw [show (2 : Nat) ^ 16 = 65536 from rfl, show (a * 256 + b) * 65536 = a * 16777216 + b * 65536 from by omega] at this
    rw [this]
  · rw [or_u32 (by omega) (by omega)]
    have := or_add (x := a * 65536 + b * 256 + c) (y := d) 8 (by omega)
    rw [show (2 : Nat) ^ 8 = 256 from rfl, show (a * 65536 + b * 256 + c) * 256 = a * 16777216 + b * 65536 + c * 256 from by omega] at this
    rw [this]
    omega

theorem number_steps {a b c d R : Nat} (ha : a < 256) (hb : b < 256) (hc : c < 256) (hd : d < 256) (hR : ((a * 256 + b) * 256 + c) * 256 + d = R) : ∃ x0 x1 x2 y1 y2 : Nat,
    IntKind.u32.wrap ((a : Int) * 16777216) = (x0 : Int) ∧ IntKind.u32.wrap ((b : Int) * 65536) = (x1 : Int) ∧ IntKind.u32.wrap ((c : Int) * 256) = (x2 : Int) ∧
    bits .or .u32 (x0 : Int) (x1 : Int) = (y1 : Int) ∧ bits .or .u32 (y1 : Int) (x2 : Int) = (y2 : Int) ∧ bits .or .u32 (y2 : Int) (d : Int) = (R : Int) := by
  obtain ⟨e1, e2, e3⟩ := number_ors ha hb hc hd
  refine ⟨a * 16777216, b * 65536, c * 256, a * 16777216 + b * 65536, a * 16777216 + b * 65536 + c * 256, ?_, ?_, ?_, e1, e2, by rw [← hR]; exact e3⟩
  · rw [Cb.wrap_u32]; omega
  · rw [Cb.wrap_u32]; omega
  · rw [Cb.wrap_u32]; omega

set_option maxRecDepth 100000 in
set_option maxHeartbeats 1600000 in
theorem number_c (q o cp : Nat) (a b c d R : Nat) (ha : a < 256) (hb : b < 256) (hc : c < 256) (hd : d < 256) (hR : ((a * 256 + b) * 256 + c) * 256 + d = R) (w : World) (h0 : w.cell? ⟨q, o, none⟩ = some (.int .u8 a)) (h1 : w.cell? ⟨q, o + 1, none⟩ = some (.int .u8 b)) (h2 : w.cell? ⟨q, o + 2, none⟩ = some (.int .u8 c)) (h3 : w.cell? ⟨q, o + 3, none⟩ = some (.int .u8 d)) :
    Calls Try.prog 24 #[.slice (some ⟨q, o, none⟩) 4 cp] w fun e w' => e = .returned (.int .u32 R) ∧ Below w.heap.size w w' := by
  obtain ⟨x0, x1, x2, y1, y2, w0, w1, w2, e1, e2, e3⟩ := number_steps ha hb hc hd hR
  have v0 : IntKind.u32.wrap (a : Int) = (a : Int) := by rw [Cb.wrap_u32]; omega
  have v1 : IntKind.u32.wrap (b : Int) = (b : Int) := by rw [Cb.wrap_u32]; omega
  have v2 : IntKind.u32.wrap (c : Int) = (c : Int) := by rw [Cb.wrap_u32]; omega
  have v3 : IntKind.u32.wrap (d : Int) = (d : Int) := by rw [Cb.wrap_u32]; omega
  clear hR
  go_enter Try.func24, Try.ntmps24
  go_wp2_with fail
  go_region_held3 (fun V => V.cell? ⟨q, o, none⟩ = some (.int .u8 a) ∧ V.cell? ⟨q, o + 1, none⟩ = some (.int .u8 b) ∧ V.cell? ⟨q, o + 2, none⟩ = some (.int .u8 c) ∧ V.cell? ⟨q, o + 3, none⟩ = some (.int .u8 d)) (first | exact ⟨h0, h1, h2, h3⟩ | fail) (first | fail)
  go_wp2_with fail
  go_ret
  exact ⟨rfl, (Below.refl _ _).drew⟩

/-- Four bytes of a slice, read. -/
theorem num_c (N : Nat) (l : List Nat) (hb : Cr.Bytes l) (q o cp i : Nat) (hi : i + 4 ≤ l.length) (hN : Ln.num l i = N) (w : World) (hA : Crc.InB w (some ⟨q, o, none⟩) l) :
    Calls Try.prog 24 #[.slice (some ⟨q, o + i, none⟩) 4 cp] w fun e w' => e = .returned (.int .u32 N) ∧ Below w.heap.size w w' := by
  have h : ∀ k, k < 4 → w.cell? ⟨q, o + i + k, none⟩ = some (.int .u8 (l.getD (i + k) 0 : Nat)) := fun k hk => by
    obtain ⟨q', o', e, hc⟩ := hA (i + k) (by omega)
    cases e
    rw [Nat.add_assoc]
    exact hc
  have hl : ∀ k, k < 4 → l.getD (i + k) 0 < 256 := fun k hk => Crc.getD_byte hb (by omega)
  exact number_c q (o + i) cp (l.getD i 0) (l.getD (i + 1) 0) (l.getD (i + 2) 0) (l.getD (i + 3) 0) N (hl 0 (by decide)) (hl 1 (by decide)) (hl 2 (by decide)) (hl 3 (by decide)) hN w (h 0 (by decide)) (h 1 (by decide)) (h 2 (by decide)) (h 3 (by decide))

set_option maxRecDepth 100000 in
set_option maxHeartbeats 1600000 in
theorem rdec_short (A : Option Addr) (l : List Nat) (c : Nat) (w : World) (hl : l.length ≠ 32) :
    Calls Try.prog 15 #[.slice A l.length c] w fun e w' => e = .returned (.tuple #[.agg (pc Ln.zero), .int .i64 50]) ∧ Below w.heap.size w w' := by
  have HV := Lib.hid ((Hv.nil w).made (.cells (pc Ln.zero) 26))
  have HP := Lib.hid (Pkt.new w Ln.zero)
  have d1 : ((l.length : Int) != 32) = true := by rw [bne_iff_ne]; omega
  generalize l.length = N at *
  go_enter Try.func15, Try.ntmps15
  go_wp2_with (first | (refine st_pk rfl _ _ rfl rfl _ _ Ln.zero rfl rfl HP.out ?_; intro W1 h1 h2; have HP1 := Lib.hid h1; have HB := Lib.hid (HV.out.old.trans (h2.below (Nat.le_refl _))); clear h1 h2))
  refine bodyPost_ret (res2 rfl _ _ _ _ rfl HP1.out) rfl ?_
  exact ⟨rfl, HB.out⟩

theorem setall {w W : World} {m k : Nat} {v0 v1 v2 v3 v4 v5 v6 v7 v8 v9 v10 v11 v12 v13 : Value} (hb : Below m w W) (hk : m ≤ k) : Below m w ((((((((((((((W.setCell ⟨k, 0, none⟩ v0).setCell ⟨k, 1, none⟩ v1).setCell ⟨k, 2, none⟩ v2).setCell ⟨k, 3, none⟩ v3).setCell ⟨k, 4, none⟩ v4).setCell ⟨k, 5, none⟩ v5).setCell ⟨k, 6, none⟩ v6).setCell ⟨k, 7, none⟩ v7).setCell ⟨k, 8, none⟩ v8).setCell ⟨k, 9, none⟩ v9).setCell ⟨k, 10, none⟩ v10).setCell ⟨k, 11, none⟩ v11).setCell ⟨k, 12, none⟩ v12).setCell ⟨k, 13, none⟩ v13) := ((((((((((((((hb.setCell (p := ⟨k, 0, none⟩) hk v0).setCell (p := ⟨k, 1, none⟩) hk v1).setCell (p := ⟨k, 2, none⟩) hk v2).setCell (p := ⟨k, 3, none⟩) hk v3).setCell (p := ⟨k, 4, none⟩) hk v4).setCell (p := ⟨k, 5, none⟩) hk v5).setCell (p := ⟨k, 6, none⟩) hk v6).setCell (p := ⟨k, 7, none⟩) hk v7).setCell (p := ⟨k, 8, none⟩) hk v8).setCell (p := ⟨k, 9, none⟩) hk v9).setCell (p := ⟨k, 10, none⟩) hk v10).setCell (p := ⟨k, 11, none⟩) hk v11).setCell (p := ⟨k, 12, none⟩) hk v12).setCell (p := ⟨k, 13, none⟩) hk v13)
theorem setpk {W : World} {k : Nat} {q : Ln.Pk} (p : Ln.Pk) (h : Pkt W k q) : Pkt ((((((((((((((W.setCell ⟨k, 0, none⟩ (.int .i64 p.f)).setCell ⟨k, 1, none⟩ (.int .i64 p.n)).setCell ⟨k, 2, none⟩ (.int .i64 p.a)).setCell ⟨k, 3, none⟩ (.int .i64 p.b)).setCell ⟨k, 4, none⟩ (.int .i64 p.c)).setCell ⟨k, 5, none⟩ (.int .i64 p.d)).setCell ⟨k, 6, none⟩ (.int .i64 p.e)).setCell ⟨k, 7, none⟩ (.bool p.ga)).setCell ⟨k, 8, none⟩ (.bool p.gb)).setCell ⟨k, 9, none⟩ (.bool p.gc)).setCell ⟨k, 10, none⟩ (.bool p.gd)).setCell ⟨k, 11, none⟩ (.bool p.ge)).setCell ⟨k, 12, none⟩ (.int .i64 p.m)).setCell ⟨k, 13, none⟩ (.int .i64 p.s)) k p ∧ Crc.Off k W ((((((((((((((W.setCell ⟨k, 0, none⟩ (.int .i64 p.f)).setCell ⟨k, 1, none⟩ (.int .i64 p.n)).setCell ⟨k, 2, none⟩ (.int .i64 p.a)).setCell ⟨k, 3, none⟩ (.int .i64 p.b)).setCell ⟨k, 4, none⟩ (.int .i64 p.c)).setCell ⟨k, 5, none⟩ (.int .i64 p.d)).setCell ⟨k, 6, none⟩ (.int .i64 p.e)).setCell ⟨k, 7, none⟩ (.bool p.ga)).setCell ⟨k, 8, none⟩ (.bool p.gb)).setCell ⟨k, 9, none⟩ (.bool p.gc)).setCell ⟨k, 10, none⟩ (.bool p.gd)).setCell ⟨k, 11, none⟩ (.bool p.ge)).setCell ⟨k, 12, none⟩ (.int .i64 p.m)).setCell ⟨k, 13, none⟩ (.int .i64 p.s)) := by
  have h0 := Joins.block_setCell (i := 0) h (.int .i64 p.f)
  have h1 := Joins.block_setCell (i := 1) h0 (.int .i64 p.n)
  have h2 := Joins.block_setCell (i := 2) h1 (.int .i64 p.a)
  have h3 := Joins.block_setCell (i := 3) h2 (.int .i64 p.b)
  have h4 := Joins.block_setCell (i := 4) h3 (.int .i64 p.c)
  have h5 := Joins.block_setCell (i := 5) h4 (.int .i64 p.d)
  have h6 := Joins.block_setCell (i := 6) h5 (.int .i64 p.e)
  have h7 := Joins.block_setCell (i := 7) h6 (.bool p.ga)
  have h8 := Joins.block_setCell (i := 8) h7 (.bool p.gb)
  have h9 := Joins.block_setCell (i := 9) h8 (.bool p.gc)
  have h10 := Joins.block_setCell (i := 10) h9 (.bool p.gd)
  have h11 := Joins.block_setCell (i := 11) h10 (.bool p.ge)
  have h12 := Joins.block_setCell (i := 12) h11 (.int .i64 p.m)
  have h13 := Joins.block_setCell (i := 13) h12 (.int .i64 p.s)
  refine ⟨h13.trans ?_, (((((((((((((((Crc.Off.refl k W).set 0 _).set 1 _).set 2 _).set 3 _).set 4 _).set 5 _).set 6 _).set 7 _).set 8 _).set 9 _).set 10 _).set 11 _).set 12 _).set 13 _)⟩
  simp only [pc, List.setIfInBounds_toArray, List.set_cons_zero, List.set_cons_succ]
/-- The state of the document's reading. -/
structure Rc (w X : World) (k : Nat) (P : Ln.Pk) : Prop where
  res : Pkt X w.heap.size Ln.zero
  pk : Pkt X k P
  old : Below w.heap.size w X
  lt : w.heap.size < k
namespace Rc
variable {w X X' : World} {k : Nat} {P P' : Ln.Pk}
theorem new {W : World} (h : Hv w W [(w.heap.size, .cells (pc Ln.zero) 26 (0, 0))]) (P : Ln.Pk) : Rc w (W.alloc (.cells (pc P) 26)) W.heap.size P :=
  ⟨(h.alloc _).has (w.heap.size, .cells (pc Ln.zero) 26 (0, 0)) (by simp), Pkt.new W P, (h.alloc _).old, h.lt (e := (w.heap.size, .cells (pc Ln.zero) 26 (0, 0))) (by simp)⟩
theorem over {W : World} (h : Hv w W [(w.heap.size, .cells (pc Ln.zero) 26 (0, 0))]) (hk : w.heap.size < k) (hP : Pkt X k P) (ho : Crc.Off k W X) : Rc w X k P :=
  ⟨(ho.block _ (by omega)).trans (h.has (w.heap.size, .cells (pc Ln.zero) 26 (0, 0)) (by simp)), hP, h.old.trans (ho.below (by omega)), hk⟩
theorem grow (h : Rc w X k P) (hb : Below X.heap.size X X') : Rc w X' k P := ⟨h.res.below hb h.res.lt, h.pk.below hb h.pk.lt, h.old.trans (hb.mono h.old.size), h.lt⟩
theorem set (h : Rc w X k P) (i : Nat) (v : Value) (e : (pc P).setIfInBounds i v = pc P') : Rc w (X.setCell ⟨k, i, none⟩ v) k P' :=
  ⟨(Below.heap_setCell _ _ _ _ (by show w.heap.size ≠ k; have := h.lt; omega)).trans h.res, by unfold Pkt; rw [Joins.block_setCell h.pk, e], h.old.setCell (p := ⟨k, i, none⟩) (Nat.le_of_lt h.lt) v, h.lt⟩
theorem last (h : Rc w X k P) (ho : Crc.Off w.heap.size X X') : Below w.heap.size w X' := h.old.trans (ho.below (Nat.le_refl _))
end Rc
/-- The packet that is read, its first k values and flags known. -/
def rp (f n y0 y1 y2 y3 y4 : Int) (g : Nat) (m s : Int) : Nat → Ln.Pk
  | 0 => ⟨f, n, 0, 0, 0, 0, 0, false, false, false, false, false, m, s⟩
  | 1 => ⟨f, n, y0, 0, 0, 0, 0, Ln.odd g 0, false, false, false, false, m, s⟩
  | 2 => ⟨f, n, y0, y1, 0, 0, 0, Ln.odd g 0, Ln.odd g 1, false, false, false, m, s⟩
  | 3 => ⟨f, n, y0, y1, y2, 0, 0, Ln.odd g 0, Ln.odd g 1, Ln.odd g 2, false, false, m, s⟩
  | 4 => ⟨f, n, y0, y1, y2, y3, 0, Ln.odd g 0, Ln.odd g 1, Ln.odd g 2, Ln.odd g 3, false, m, s⟩
  | _ => ⟨f, n, y0, y1, y2, y3, y4, Ln.odd g 0, Ln.odd g 1, Ln.odd g 2, Ln.odd g 3, Ln.odd g 4, m, s⟩

set_option maxRecDepth 100000 in
set_option maxHeartbeats 4000000 in
theorem rdec_32 (A : Option Addr) (l : List Nat) (c : Nat) (hl : l.length = 32) (hb : Cr.Bytes l) (hc : 32 ≤ c) (w : World) (hA : Crc.InB w A l) :
    Calls Try.prog 15 #[.slice A 32 c] w fun e w' => e = .returned (.tuple #[.agg (pc (Ln.decP l)), .int .i64 (Ln.decE l)]) ∧ Below w.heap.size w w' := by
  obtain ⟨q, o, rfl, _⟩ := hA 0 (by omega)
  have HV := Lib.hid ((Hv.nil w).made (.cells (pc Ln.zero) 26))
  have HA := Lib.hid hA
  have HB := Lib.hid hb
  obtain ⟨f, hf⟩ : ∃ x, l.getD 1 0 = x := ⟨_, rfl⟩
  obtain ⟨m, hm⟩ : ∃ x, l.getD 6 0 = x := ⟨_, rfl⟩
  obtain ⟨s, hs⟩ : ∃ x, l.getD 7 0 = x := ⟨_, rfl⟩
  obtain ⟨g, hg⟩ : ∃ x, l.getD 28 0 = x := ⟨_, rfl⟩
  obtain ⟨n, hn⟩ : ∃ x, Ln.num l 2 = x := ⟨_, rfl⟩
  have CN := Lib.hid (fun W h => num_c n l hb q o (c - 2) 2 (by omega) hn W h)
  have uf : IntKind.i64.wrap (f : Int) = (f : Int) := by have := Crc.getD_byte hb (i := 1) (by omega); rw [IntKind.wrap_i64]; omega
  have um : IntKind.i64.wrap (m : Int) = (m : Int) := by have := Crc.getD_byte hb (i := 6) (by omega); rw [IntKind.wrap_i64]; omega
  have us : IntKind.i64.wrap (s : Int) = (s : Int) := by have := Crc.getD_byte hb (i := 7) (by omega); rw [IntKind.wrap_i64]; omega
  have un : IntKind.i64.wrap (n : Int) = (n : Int) := by have := num_lt hb (i := 2) (by omega); rw [IntKind.wrap_i64]; omega
  have hg8 : g < 256 := by rw [← hg]; exact Crc.getD_byte hb (by omega)
  obtain ⟨x0, hx0⟩ : ∃ x, Ln.num l 8 = x := ⟨_, rfl⟩
  have CX0 := Lib.hid (fun W h => num_c x0 l hb q o (c - 8) 8 (by omega) hx0 W h)
  have hw0 := s32_wrap (num_lt hb (i := 8) (by omega))
  rw [hx0] at hw0
  obtain ⟨y0, hy0⟩ : ∃ y, Ln.s32 x0 = y := ⟨_, rfl⟩
  rw [hy0] at hw0
  have hv0 : wrap64 y0 = y0 := by
    have := num_lt hb (i := 8) (by omega)
    rw [hx0] at this
    rw [← hy0]
    unfold Ln.s32 wrap64
    split <;> omega
  have ta0 : ¬ c = 8 := by omega
  have tb0 : (12 : Int) ≤ (c : Int) := by omega
  obtain ⟨x1, hx1⟩ : ∃ x, Ln.num l 12 = x := ⟨_, rfl⟩
  have CX1 := Lib.hid (fun W h => num_c x1 l hb q o (c - 12) 12 (by omega) hx1 W h)
  have hw1 := s32_wrap (num_lt hb (i := 12) (by omega))
  rw [hx1] at hw1
  obtain ⟨y1, hy1⟩ : ∃ y, Ln.s32 x1 = y := ⟨_, rfl⟩
  rw [hy1] at hw1
  have hv1 : wrap64 y1 = y1 := by
    have := num_lt hb (i := 12) (by omega)
    rw [hx1] at this
    rw [← hy1]
    unfold Ln.s32 wrap64
    split <;> omega
  have ta1 : ¬ c = 12 := by omega
  have tb1 : (16 : Int) ≤ (c : Int) := by omega
  obtain ⟨x2, hx2⟩ : ∃ x, Ln.num l 16 = x := ⟨_, rfl⟩
  have CX2 := Lib.hid (fun W h => num_c x2 l hb q o (c - 16) 16 (by omega) hx2 W h)
  have hw2 := s32_wrap (num_lt hb (i := 16) (by omega))
  rw [hx2] at hw2
  obtain ⟨y2, hy2⟩ : ∃ y, Ln.s32 x2 = y := ⟨_, rfl⟩
  rw [hy2] at hw2
  have hv2 : wrap64 y2 = y2 := by
    have := num_lt hb (i := 16) (by omega)
    rw [hx2] at this
    rw [← hy2]
    unfold Ln.s32 wrap64
    split <;> omega
  have ta2 : ¬ c = 16 := by omega
  have tb2 : (20 : Int) ≤ (c : Int) := by omega
  obtain ⟨x3, hx3⟩ : ∃ x, Ln.num l 20 = x := ⟨_, rfl⟩
  have CX3 := Lib.hid (fun W h => num_c x3 l hb q o (c - 20) 20 (by omega) hx3 W h)
  have hw3 := s32_wrap (num_lt hb (i := 20) (by omega))
  rw [hx3] at hw3
  obtain ⟨y3, hy3⟩ : ∃ y, Ln.s32 x3 = y := ⟨_, rfl⟩
  rw [hy3] at hw3
  have hv3 : wrap64 y3 = y3 := by
    have := num_lt hb (i := 20) (by omega)
    rw [hx3] at this
    rw [← hy3]
    unfold Ln.s32 wrap64
    split <;> omega
  have ta3 : ¬ c = 20 := by omega
  have tb3 : (24 : Int) ≤ (c : Int) := by omega
  obtain ⟨x4, hx4⟩ : ∃ x, Ln.num l 24 = x := ⟨_, rfl⟩
  have CX4 := Lib.hid (fun W h => num_c x4 l hb q o (c - 24) 24 (by omega) hx4 W h)
  have hw4 := s32_wrap (num_lt hb (i := 24) (by omega))
  rw [hx4] at hw4
  obtain ⟨y4, hy4⟩ : ∃ y, Ln.s32 x4 = y := ⟨_, rfl⟩
  rw [hy4] at hw4
  have hv4 : wrap64 y4 = y4 := by
    have := num_lt hb (i := 24) (by omega)
    rw [hx4] at this
    rw [← hy4]
    unfold Ln.s32 wrap64
    split <;> omega
  have ta4 : ¬ c = 24 := by omega
  have tb4 : (28 : Int) ≤ (c : Int) := by omega
  have HO0 : Hid ((((g : Int) % 2) == 1) = Ln.odd g 0) := by
    show (((g : Int) % 2) == 1) = _
    unfold Ln.odd
    rw [show ((g : Int) % 2) = ((g / 2 ^ 0 % 2 : Nat) : Int) from by omega]
    exact cast_one _
  have HO1 : Hid ((((g : Int) / 2 % 2) == 1) = Ln.odd g 1) := by
    show (((g : Int) / 2 % 2) == 1) = _
    unfold Ln.odd
    rw [show ((g : Int) / 2 % 2) = ((g / 2 ^ 1 % 2 : Nat) : Int) from by omega]
    exact cast_one _
  have HO2 : Hid ((((g : Int) / 4 % 2) == 1) = Ln.odd g 2) := by
    show (((g : Int) / 4 % 2) == 1) = _
    unfold Ln.odd
    rw [show ((g : Int) / 4 % 2) = ((g / 2 ^ 2 % 2 : Nat) : Int) from by omega]
    exact cast_one _
  have HO3 : Hid ((((g : Int) / 8 % 2) == 1) = Ln.odd g 3) := by
    show (((g : Int) / 8 % 2) == 1) = _
    unfold Ln.odd
    rw [show ((g : Int) / 8 % 2) = ((g / 2 ^ 3 % 2 : Nat) : Int) from by omega]
    exact cast_one _
  have HO4 : Hid ((((g : Int) / 16 % 2) == 1) = Ln.odd g 4) := by
    show (((g : Int) / 16 % 2) == 1) = _
    unfold Ln.odd
    rw [show ((g : Int) / 16 % 2) = ((g / 2 ^ 4 % 2 : Nat) : Int) from by omega]
    exact cast_one _
  have HG : Hid (∀ V, Below w.heap.size w V → V.cell? ⟨q, o + 28, none⟩ = some (.int .u8 (g : Int))) := fun V hV => by
    obtain ⟨q', o', e, hc⟩ := hA.below hV 28 (by omega)
    cases e
    rw [hg] at hc
    exact hc
  have HRd : Hid (Ln.rd l = ⟨f, n, y0, y1, y2, y3, y4, Ln.odd g 0, Ln.odd g 1, Ln.odd g 2, Ln.odd g 3, Ln.odd g 4, m, s⟩) := by
    show _ = _
    unfold Ln.rd
    simp only [hf, hn, hm, hs, hg, hx0, hx1, hx2, hx3, hx4, hy0, hy1, hy2, hy3, hy4]
  have t4 : ¬ c = 2 := by omega
  have t5 : (6 : Int) ≤ (c : Int) := by omega
  have SS : Hid (∀ V, Below w.heap.size w V → (fun V => V.cell? ⟨q, o + 1, none⟩ = some (.int .u8 (f : Int)) ∧ V.cell? ⟨q, o + 6, none⟩ = some (.int .u8 (m : Int)) ∧ V.cell? ⟨q, o + 7, none⟩ = some (.int .u8 (s : Int))) V) := fun V hV => by
    have h : ∀ k, k < 32 → V.cell? ⟨q, o + k, none⟩ = some (.int .u8 (l.getD k 0 : Nat)) := fun k hk => by
      obtain ⟨q', o', e, hc⟩ := hA.below hV k (by omega)
      cases e
      exact hc
    exact ⟨hf ▸ h 1 (by decide), hm ▸ h 6 (by decide), hs ▸ h 7 (by decide)⟩
  clear hA hb hf hn hm hs hg hx0 hx1 hx2 hx3 hx4 hy0 hy1 hy2 hy3 hy4
  replace HV : Hid (Hv w (w.alloc (.cells #[.int .i64 0, .int .i64 0, .int .i64 0, .int .i64 0, .int .i64 0, .int .i64 0, .int .i64 0, .bool false, .bool false, .bool false, .bool false, .bool false, .int .i64 0, .int .i64 0] 26)) [(w.heap.size, .cells (pc Ln.zero) 26 (0, 0))]) := HV
  go_enter Try.func15, Try.ntmps15
  go_wp2_with fail
  generalize World.alloc _ _ = W0 at *
  have hW0 : w.heap.size < W0.heap.size := HV.out.lt (e := (w.heap.size, .cells (pc Ln.zero) 26 (0, 0))) (by simp)
  go_region_held3 (fun V => V.cell? ⟨q, o + 1, none⟩ = some (.int .u8 (f : Int)) ∧ V.cell? ⟨q, o + 6, none⟩ = some (.int .u8 (m : Int)) ∧ V.cell? ⟨q, o + 7, none⟩ = some (.int .u8 (s : Int))) (first | (with_reducible exact SS.out _ HB1.out) | (with_reducible exact SS.out _ (HB1.out.alloc HB1.out.size _)) | (with_reducible exact SS.out _ (setall HB1.out hk1)) | (with_reducible exact SS.out _ HV.out.old.drew) | (with_reducible exact SS.out _ (HV.out.alloc _).drew.old) | (with_reducible exact SS.out _ HV.out.old) | fail)
    (first
      | (go_at_call 24; refine (CN.out _ (HA.out.below HV.out.old.drew)).mono ?_; rintro e W1 ⟨rfl, hb⟩; have HB1 := Lib.hid (HV.out.drew.grow hb).old; replace HV := Lib.hid (HV.out.drew.grow hb); clear hb)
      | (go_at_call 24; refine (CN.out _ (HA.out.below (HV.out.alloc _).drew.old)).mono ?_; rintro e W1 ⟨rfl, hb⟩; have HB1 := Lib.hid ((HV.out.alloc _).drew.grow hb).old; have hk1 := HV.out.old.size; have HKB : Hid (Pkt W1 W0.heap.size Ln.zero) := (((HV.out.made (.cells (pc Ln.zero) 26)).drew.grow hb).has (W0.heap.size, .cells (pc Ln.zero) 26 (0, 0)) (by simp)); obtain ⟨z0, z1, z2, z3, z4, z5, z6, z7, z8, z9, z10, z11, z12, z13⟩ := HKB.out.all; dsimp only [Ln.zero] at z0 z1 z2 z3 z4 z5 z6 z7 z8 z9 z10 z11 z12 z13; have e0 := HKB.out.frozen 0; have e1 := HKB.out.frozen 1; have e2 := HKB.out.frozen 2; have e3 := HKB.out.frozen 3; have e4 := HKB.out.frozen 4; have e5 := HKB.out.frozen 5; have e6 := HKB.out.frozen 6; have e7 := HKB.out.frozen 7; have e8 := HKB.out.frozen 8; have e9 := HKB.out.frozen 9; have e10 := HKB.out.frozen 10; have e11 := HKB.out.frozen 11; have e12 := HKB.out.frozen 12; have e13 := HKB.out.frozen 13; replace HV := Lib.hid ((HV.out.alloc _).drew.grow hb); clear hb)
      | fail)
  · have HC : Hid (Rc w (W1.alloc (.cells #[.int .i64 (f : Int), .int .i64 (n : Int), .int .i64 0, .int .i64 0, .int .i64 0, .int .i64 0, .int .i64 0, .bool false, .bool false, .bool false, .bool false, .bool false, .int .i64 (m : Int), .int .i64 (s : Int)] 26)) W1.heap.size (⟨f, n, 0, 0, 0, 0, 0, false, false, false, false, false, m, s⟩ : Ln.Pk)) := Rc.new HV.out (⟨f, n, 0, 0, 0, 0, 0, false, false, false, false, false, m, s⟩ : Ln.Pk)
    clear SS CN HV HB1 uf um us un
    generalize W1.heap.size = k at *
    generalize World.alloc _ _ = X at *
    replace HC : Hid (Rc w X k (rp f n y0 y1 y2 y3 y4 g m s 0)) := HC
    go_wp2_with fail
    go_loopw [5] (fun i wr => ∃ j : Nat, j ≤ 5 ∧ i = .int .i64 j ∧ Rc w wr k (rp f n y0 y1 y2 y3 y4 g m s j)) (fun i _ => 5 - (intOf i).toNat)
    case atStart => exact ⟨0, by decide, rfl, HC.out⟩
    case round =>
      obtain ⟨j, hj, rfl, hw⟩ := hrel
      clear HC
      have HC := Lib.hid hw
      clear hw
      by_cases hlt : j < 5
      · have hj5 : j = 0 ∨ j = 1 ∨ j = 2 ∨ j = 3 ∨ j = 4 := by omega
        rcases hj5 with rfl | rfl | rfl | rfl | rfl
        · go_wp2_with fail
          refine (CX0.out _ (HA.out.below HC.out.old)).mono ?_
          rintro e W2 ⟨rfl, hb⟩
          replace HC := Lib.hid (HC.out.grow hb)
          clear hb
          have c1 : W2.cell? ⟨k, 2, none⟩ = some (.int .i64 0) := HC.out.pk.cell 2 rfl
          have c2 := HC.out.pk.frozen 2
          have c3 : W2.cell? ⟨k, 7, none⟩ = some (.bool false) := HC.out.pk.cell 7 rfl
          have c4 := HC.out.pk.frozen 7
          have c5 := HG.out _ HC.out.old
          go_wp2_with fail
          refine ⟨⟨1, by decide, rfl, ?_⟩, by simp [intOf]⟩
          rw [HO0.out]
          exact (HC.out.set 2 (.int .i64 y0) (P' := (⟨f, n, y0, 0, 0, 0, 0, false, false, false, false, false, m, s⟩ : Ln.Pk)) rfl).set 7 (.bool (Ln.odd g 0)) rfl
        · go_wp2_with fail
          refine (CX1.out _ (HA.out.below HC.out.old)).mono ?_
          rintro e W2 ⟨rfl, hb⟩
          replace HC := Lib.hid (HC.out.grow hb)
          clear hb
          have c1 : W2.cell? ⟨k, 3, none⟩ = some (.int .i64 0) := HC.out.pk.cell 3 rfl
          have c2 := HC.out.pk.frozen 3
          have c3 : W2.cell? ⟨k, 8, none⟩ = some (.bool false) := HC.out.pk.cell 8 rfl
          have c4 := HC.out.pk.frozen 8
          have c5 := HG.out _ HC.out.old
          go_wp2_with fail
          refine ⟨⟨2, by decide, rfl, ?_⟩, by simp [intOf]⟩
          rw [HO1.out]
          exact (HC.out.set 3 (.int .i64 y1) (P' := (⟨f, n, y0, y1, 0, 0, 0, Ln.odd g 0, false, false, false, false, m, s⟩ : Ln.Pk)) rfl).set 8 (.bool (Ln.odd g 1)) rfl
        · go_wp2_with fail
          refine (CX2.out _ (HA.out.below HC.out.old)).mono ?_
          rintro e W2 ⟨rfl, hb⟩
          replace HC := Lib.hid (HC.out.grow hb)
          clear hb
          have c1 : W2.cell? ⟨k, 4, none⟩ = some (.int .i64 0) := HC.out.pk.cell 4 rfl
          have c2 := HC.out.pk.frozen 4
          have c3 : W2.cell? ⟨k, 9, none⟩ = some (.bool false) := HC.out.pk.cell 9 rfl
          have c4 := HC.out.pk.frozen 9
          have c5 := HG.out _ HC.out.old
          go_wp2_with fail
          refine ⟨⟨3, by decide, rfl, ?_⟩, by simp [intOf]⟩
          rw [HO2.out]
          exact (HC.out.set 4 (.int .i64 y2) (P' := (⟨f, n, y0, y1, y2, 0, 0, Ln.odd g 0, Ln.odd g 1, false, false, false, m, s⟩ : Ln.Pk)) rfl).set 9 (.bool (Ln.odd g 2)) rfl
        · go_wp2_with fail
          refine (CX3.out _ (HA.out.below HC.out.old)).mono ?_
          rintro e W2 ⟨rfl, hb⟩
          replace HC := Lib.hid (HC.out.grow hb)
          clear hb
          have c1 : W2.cell? ⟨k, 5, none⟩ = some (.int .i64 0) := HC.out.pk.cell 5 rfl
          have c2 := HC.out.pk.frozen 5
          have c3 : W2.cell? ⟨k, 10, none⟩ = some (.bool false) := HC.out.pk.cell 10 rfl
          have c4 := HC.out.pk.frozen 10
          have c5 := HG.out _ HC.out.old
          go_wp2_with fail
          refine ⟨⟨4, by decide, rfl, ?_⟩, by simp [intOf]⟩
          rw [HO3.out]
          exact (HC.out.set 5 (.int .i64 y3) (P' := (⟨f, n, y0, y1, y2, y3, 0, Ln.odd g 0, Ln.odd g 1, Ln.odd g 2, false, false, m, s⟩ : Ln.Pk)) rfl).set 10 (.bool (Ln.odd g 3)) rfl
        · go_wp2_with fail
          refine (CX4.out _ (HA.out.below HC.out.old)).mono ?_
          rintro e W2 ⟨rfl, hb⟩
          replace HC := Lib.hid (HC.out.grow hb)
          clear hb
          have c1 : W2.cell? ⟨k, 6, none⟩ = some (.int .i64 0) := HC.out.pk.cell 6 rfl
          have c2 := HC.out.pk.frozen 6
          have c3 : W2.cell? ⟨k, 11, none⟩ = some (.bool false) := HC.out.pk.cell 11 rfl
          have c4 := HC.out.pk.frozen 11
          have c5 := HG.out _ HC.out.old
          go_wp2_with fail
          refine ⟨⟨5, by decide, rfl, ?_⟩, by simp [intOf]⟩
          rw [HO4.out]
          exact (HC.out.set 6 (.int .i64 y4) (P' := (⟨f, n, y0, y1, y2, y3, y4, Ln.odd g 0, Ln.odd g 1, Ln.odd g 2, Ln.odd g 3, false, m, s⟩ : Ln.Pk)) rfl).set 11 (.bool (Ln.odd g 4)) rfl
      · obtain rfl : j = 5 := by omega
        replace HC : Hid (Rc w wr k (⟨f, n, y0, y1, y2, y3, y4, Ln.odd g 0, Ln.odd g 1, Ln.odd g 2, Ln.odd g 3, Ln.odd g 4, m, s⟩ : Ln.Pk)) := HC
        rw [← HRd.out] at HC
        have HIl := Lib.hid (HA.out.below HC.out.old)
        cases hk : Ln.okB (Ln.rd l)
        · have hgd : Ln.good l = false := by unfold Ln.good; rw [hk]; simp
          have HP0 : Hid (Ln.decP l = Ln.zero ∧ Ln.decE l = 50) := by show _ ∧ _; unfold Ln.decP Ln.decE; rw [hgd]; exact ⟨rfl, rfl⟩
          have CE := Lib.hid (renc_bad _ hk)
          clear hk hgd
          generalize Ln.rd l = pp at *
          go_wp2_with (first
            | (refine ld_pk rfl _ rfl _ _ rfl HC.out.pk ?_)
            | (go_at_call 11; refine (CE.out _).mono ?_; rintro e W3 ⟨rfl, hb⟩; replace HC := Lib.hid (HC.out.grow hb); clear hb)
            | (refine st_pk rfl _ _ rfl rfl _ _ Ln.zero rfl rfl HC.out.res ?_; intro W4 h1 h2; have HF := Lib.hid h1; have HO := Lib.hid h2; clear h1 h2))
          refine bodyPost_ret (res2 rfl _ _ _ _ rfl HF.out) rfl ?_
          exact ⟨by rw [HP0.out.1, HP0.out.2]; rfl, HC.out.last HO.out⟩
        · have CE := Lib.hid (renc_ok _ hk)
          obtain ⟨z, hz⟩ : ∃ z, (Ln.enc (Ln.rd l) == l) = z := ⟨_, rfl⟩
          have hgd : Ln.good l = z := by unfold Ln.good; rw [hk, hz, hl]; simp
          have hst := str_dec (Ln.enc_bytes (Ln.rd l)) HB.out
          rw [hz] at hst
          have HLe := Lib.hid (Ln.enc_len (Ln.rd l))
          obtain ⟨s1, hs1⟩ : ∃ s1, Crc.str (Ln.enc (Ln.rd l)) = s1 := ⟨_, rfl⟩
          obtain ⟨s2, hs2⟩ : ∃ s2, Crc.str l = s2 := ⟨_, rfl⟩
          rw [hs1, hs2] at hst
          have HS1 := Lib.hid hs1
          have HS2 := Lib.hid hs2
          have HP0 : Hid (Ln.decP l = (if z then Ln.rd l else Ln.zero) ∧ Ln.decE l = if z then 0 else 50) := by show _ ∧ _; unfold Ln.decP Ln.decE; rw [hgd]; exact ⟨rfl, rfl⟩
          clear hk hgd hz hs1 hs2
          clear HRd
          go_wp2_with (first | (refine ld_pk rfl _ rfl _ _ rfl HC.out.pk ?_))
          refine (CE.out _).mono ?_
          rintro e W3 ⟨A3, c3, rfl, hin, hb⟩
          have v1 := conv_n (c := c3) (inb_any hin) (by decide) HLe.out
          have v2 := conv_n (c := c) (inb_any (HIl.out.below hb)) (by decide) hl
          rw [HS1.out] at v1
          rw [HS2.out] at v2
          replace HC := Lib.hid (HC.out.grow hb)
          clear hb hin CE HIl
          generalize Ln.rd l = pp at *
          cases z
          all_goals
            go_wp2_with (first
              | (refine ld_pk rfl _ rfl _ _ rfl HC.out.pk ?_)
              | (refine st_pk rfl _ _ rfl rfl _ _ Ln.zero rfl rfl HC.out.res ?_; intro W4 h1 h2; have HF := Lib.hid h1; have HO := Lib.hid h2; clear h1 h2)
              | (refine st_pk rfl _ _ rfl rfl _ _ pp rfl rfl HC.out.res ?_; intro W4 h1 h2; have HF := Lib.hid h1; have HO := Lib.hid h2; clear h1 h2))
            refine bodyPost_ret (res2 rfl _ _ _ _ rfl HF.out) rfl ?_
            exact ⟨by rw [HP0.out.1, HP0.out.2]; rfl, HC.out.last HO.out⟩
  · have HC := Lib.hid (Rc.over HV.out hW0 (setpk (⟨f, n, 0, 0, 0, 0, 0, false, false, false, false, false, m, s⟩ : Ln.Pk) HKB.out).1 (setpk _ HKB.out).2)
    clear SS CN HV HB1 HKB uf um us un z0 z1 z2 z3 z4 z5 z6 z7 z8 z9 z10 z11 z12 z13 e0 e1 e2 e3 e4 e5 e6 e7 e8 e9 e10 e11 e12 e13
    generalize W0.heap.size = k at *
    generalize World.setCell _ _ _ = X at *
    replace HC : Hid (Rc w X k (rp f n y0 y1 y2 y3 y4 g m s 0)) := HC
    go_wp2_with fail
    go_loopw [5] (fun i wr => ∃ j : Nat, j ≤ 5 ∧ i = .int .i64 j ∧ Rc w wr k (rp f n y0 y1 y2 y3 y4 g m s j)) (fun i _ => 5 - (intOf i).toNat)
    case atStart => exact ⟨0, by decide, rfl, HC.out⟩
    case round =>
      obtain ⟨j, hj, rfl, hw⟩ := hrel
      clear HC
      have HC := Lib.hid hw
      clear hw
      by_cases hlt : j < 5
      · have hj5 : j = 0 ∨ j = 1 ∨ j = 2 ∨ j = 3 ∨ j = 4 := by omega
        rcases hj5 with rfl | rfl | rfl | rfl | rfl
        · go_wp2_with fail
          refine (CX0.out _ (HA.out.below HC.out.old)).mono ?_
          rintro e W2 ⟨rfl, hb⟩
          replace HC := Lib.hid (HC.out.grow hb)
          clear hb
          have c1 : W2.cell? ⟨k, 2, none⟩ = some (.int .i64 0) := HC.out.pk.cell 2 rfl
          have c2 := HC.out.pk.frozen 2
          have c3 : W2.cell? ⟨k, 7, none⟩ = some (.bool false) := HC.out.pk.cell 7 rfl
          have c4 := HC.out.pk.frozen 7
          have c5 := HG.out _ HC.out.old
          go_wp2_with fail
          refine ⟨⟨1, by decide, rfl, ?_⟩, by simp [intOf]⟩
          rw [HO0.out]
          exact (HC.out.set 2 (.int .i64 y0) (P' := (⟨f, n, y0, 0, 0, 0, 0, false, false, false, false, false, m, s⟩ : Ln.Pk)) rfl).set 7 (.bool (Ln.odd g 0)) rfl
        · go_wp2_with fail
          refine (CX1.out _ (HA.out.below HC.out.old)).mono ?_
          rintro e W2 ⟨rfl, hb⟩
          replace HC := Lib.hid (HC.out.grow hb)
          clear hb
          have c1 : W2.cell? ⟨k, 3, none⟩ = some (.int .i64 0) := HC.out.pk.cell 3 rfl
          have c2 := HC.out.pk.frozen 3
          have c3 : W2.cell? ⟨k, 8, none⟩ = some (.bool false) := HC.out.pk.cell 8 rfl
          have c4 := HC.out.pk.frozen 8
          have c5 := HG.out _ HC.out.old
          go_wp2_with fail
          refine ⟨⟨2, by decide, rfl, ?_⟩, by simp [intOf]⟩
          rw [HO1.out]
          exact (HC.out.set 3 (.int .i64 y1) (P' := (⟨f, n, y0, y1, 0, 0, 0, Ln.odd g 0, false, false, false, false, m, s⟩ : Ln.Pk)) rfl).set 8 (.bool (Ln.odd g 1)) rfl
        · go_wp2_with fail
          refine (CX2.out _ (HA.out.below HC.out.old)).mono ?_
          rintro e W2 ⟨rfl, hb⟩
          replace HC := Lib.hid (HC.out.grow hb)
          clear hb
          have c1 : W2.cell? ⟨k, 4, none⟩ = some (.int .i64 0) := HC.out.pk.cell 4 rfl
          have c2 := HC.out.pk.frozen 4
          have c3 : W2.cell? ⟨k, 9, none⟩ = some (.bool false) := HC.out.pk.cell 9 rfl
          have c4 := HC.out.pk.frozen 9
          have c5 := HG.out _ HC.out.old
          go_wp2_with fail
          refine ⟨⟨3, by decide, rfl, ?_⟩, by simp [intOf]⟩
          rw [HO2.out]
          exact (HC.out.set 4 (.int .i64 y2) (P' := (⟨f, n, y0, y1, y2, 0, 0, Ln.odd g 0, Ln.odd g 1, false, false, false, m, s⟩ : Ln.Pk)) rfl).set 9 (.bool (Ln.odd g 2)) rfl
        · go_wp2_with fail
          refine (CX3.out _ (HA.out.below HC.out.old)).mono ?_
          rintro e W2 ⟨rfl, hb⟩
          replace HC := Lib.hid (HC.out.grow hb)
          clear hb
          have c1 : W2.cell? ⟨k, 5, none⟩ = some (.int .i64 0) := HC.out.pk.cell 5 rfl
          have c2 := HC.out.pk.frozen 5
          have c3 : W2.cell? ⟨k, 10, none⟩ = some (.bool false) := HC.out.pk.cell 10 rfl
          have c4 := HC.out.pk.frozen 10
          have c5 := HG.out _ HC.out.old
          go_wp2_with fail
          refine ⟨⟨4, by decide, rfl, ?_⟩, by simp [intOf]⟩
          rw [HO3.out]
          exact (HC.out.set 5 (.int .i64 y3) (P' := (⟨f, n, y0, y1, y2, y3, 0, Ln.odd g 0, Ln.odd g 1, Ln.odd g 2, false, false, m, s⟩ : Ln.Pk)) rfl).set 10 (.bool (Ln.odd g 3)) rfl
        · go_wp2_with fail
          refine (CX4.out _ (HA.out.below HC.out.old)).mono ?_
          rintro e W2 ⟨rfl, hb⟩
          replace HC := Lib.hid (HC.out.grow hb)
          clear hb
          have c1 : W2.cell? ⟨k, 6, none⟩ = some (.int .i64 0) := HC.out.pk.cell 6 rfl
          have c2 := HC.out.pk.frozen 6
          have c3 : W2.cell? ⟨k, 11, none⟩ = some (.bool false) := HC.out.pk.cell 11 rfl
          have c4 := HC.out.pk.frozen 11
          have c5 := HG.out _ HC.out.old
          go_wp2_with fail
          refine ⟨⟨5, by decide, rfl, ?_⟩, by simp [intOf]⟩
          rw [HO4.out]
          exact (HC.out.set 6 (.int .i64 y4) (P' := (⟨f, n, y0, y1, y2, y3, y4, Ln.odd g 0, Ln.odd g 1, Ln.odd g 2, Ln.odd g 3, false, m, s⟩ : Ln.Pk)) rfl).set 11 (.bool (Ln.odd g 4)) rfl
      · obtain rfl : j = 5 := by omega
        replace HC : Hid (Rc w wr k (⟨f, n, y0, y1, y2, y3, y4, Ln.odd g 0, Ln.odd g 1, Ln.odd g 2, Ln.odd g 3, Ln.odd g 4, m, s⟩ : Ln.Pk)) := HC
        rw [← HRd.out] at HC
        have HIl := Lib.hid (HA.out.below HC.out.old)
        cases hk : Ln.okB (Ln.rd l)
        · have hgd : Ln.good l = false := by unfold Ln.good; rw [hk]; simp
          have HP0 : Hid (Ln.decP l = Ln.zero ∧ Ln.decE l = 50) := by show _ ∧ _; unfold Ln.decP Ln.decE; rw [hgd]; exact ⟨rfl, rfl⟩
          have CE := Lib.hid (renc_bad _ hk)
          clear hk hgd
          generalize Ln.rd l = pp at *
          go_wp2_with (first
            | (refine ld_pk rfl _ rfl _ _ rfl HC.out.pk ?_)
            | (go_at_call 11; refine (CE.out _).mono ?_; rintro e W3 ⟨rfl, hb⟩; replace HC := Lib.hid (HC.out.grow hb); clear hb)
            | (refine st_pk rfl _ _ rfl rfl _ _ Ln.zero rfl rfl HC.out.res ?_; intro W4 h1 h2; have HF := Lib.hid h1; have HO := Lib.hid h2; clear h1 h2))
          refine bodyPost_ret (res2 rfl _ _ _ _ rfl HF.out) rfl ?_
          exact ⟨by rw [HP0.out.1, HP0.out.2]; rfl, HC.out.last HO.out⟩
        · have CE := Lib.hid (renc_ok _ hk)
          obtain ⟨z, hz⟩ : ∃ z, (Ln.enc (Ln.rd l) == l) = z := ⟨_, rfl⟩
          have hgd : Ln.good l = z := by unfold Ln.good; rw [hk, hz, hl]; simp
          have hst := str_dec (Ln.enc_bytes (Ln.rd l)) HB.out
          rw [hz] at hst
          have HLe := Lib.hid (Ln.enc_len (Ln.rd l))
          obtain ⟨s1, hs1⟩ : ∃ s1, Crc.str (Ln.enc (Ln.rd l)) = s1 := ⟨_, rfl⟩
          obtain ⟨s2, hs2⟩ : ∃ s2, Crc.str l = s2 := ⟨_, rfl⟩
          rw [hs1, hs2] at hst
          have HS1 := Lib.hid hs1
          have HS2 := Lib.hid hs2
          have HP0 : Hid (Ln.decP l = (if z then Ln.rd l else Ln.zero) ∧ Ln.decE l = if z then 0 else 50) := by show _ ∧ _; unfold Ln.decP Ln.decE; rw [hgd]; exact ⟨rfl, rfl⟩
          clear hk hgd hz hs1 hs2
          clear HRd
          go_wp2_with (first | (refine ld_pk rfl _ rfl _ _ rfl HC.out.pk ?_))
          refine (CE.out _).mono ?_
          rintro e W3 ⟨A3, c3, rfl, hin, hb⟩
          have v1 := conv_n (c := c3) (inb_any hin) (by decide) HLe.out
          have v2 := conv_n (c := c) (inb_any (HIl.out.below hb)) (by decide) hl
          rw [HS1.out] at v1
          rw [HS2.out] at v2
          replace HC := Lib.hid (HC.out.grow hb)
          clear hb hin CE HIl
          generalize Ln.rd l = pp at *
          cases z
          all_goals
            go_wp2_with (first
              | (refine ld_pk rfl _ rfl _ _ rfl HC.out.pk ?_)
              | (refine st_pk rfl _ _ rfl rfl _ _ Ln.zero rfl rfl HC.out.res ?_; intro W4 h1 h2; have HF := Lib.hid h1; have HO := Lib.hid h2; clear h1 h2)
              | (refine st_pk rfl _ _ rfl rfl _ _ pp rfl rfl HC.out.res ?_; intro W4 h1 h2; have HF := Lib.hid h1; have HO := Lib.hid h2; clear h1 h2))
            refine bodyPost_ret (res2 rfl _ _ _ _ rfl HF.out) rfl ?_
            exact ⟨by rw [HP0.out.1, HP0.out.2]; rfl, HC.out.last HO.out⟩

theorem rdec_c (N : Nat) (A : Option Addr) (l : List Nat) (c : Nat) (w : World) (hN : l.length = N) (hb : Cr.Bytes l) (hc : N ≤ c) (hA : Crc.InB w A l) :
    Calls Try.prog 15 #[.slice A N c] w fun e w' => e = .returned (.tuple #[.agg (pc (Ln.decP l)), .int .i64 (Ln.decE l)]) ∧ Below w.heap.size w w' := by
  by_cases h32 : l.length = 32
  · obtain rfl : N = 32 := by omega
    exact rdec_32 A l c h32 hb hc w hA
  · subst hN
    rw [(dec_short h32).1, (dec_short h32).2]
    exact rdec_short A l c w h32
end Lw
end Go.Proofs.Ytegjkbebnnpdcaa
