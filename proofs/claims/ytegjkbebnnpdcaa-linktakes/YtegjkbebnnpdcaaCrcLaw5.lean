/- The walk of CrcAdds. -/
import Derived.Test.YtegjkbebnnpdcaaCrcLaw2
import Derived.Deep.RegionHeld3
namespace Go.Proofs.Ytegjkbebnnpdcaa
namespace Crc
open Go.RowKit

theorem getD_take {l : List Nat} {n i : Nat} (h : i < n) : (l.take n).getD i 0 = l.getD i 0 := by
  simp [List.getD_eq_getElem?_getD, h]
theorem InB.take {w : World} {A : Option Addr} {l : List Nat} (h : InB w A l) (n : Nat) : InB w A (l.take n) := by
  intro i hi
  have hi' : i < n ∧ i < l.length := by simpa [Nat.lt_min] using hi
  obtain ⟨c, o, e, hc⟩ := h i hi'.2
  exact ⟨c, o, e, by rw [getD_take hi'.1]; exact hc⟩
/-- The first k of n bytes have been put in. -/
def putb (f : Nat → Nat) (k : Nat) (j : Nat) : Value := .int .u8 ((if j < k then f j else 0 : Nat) : Int)
theorem putb_new (W : World) (n : Nat) (f : Nat → Nat) : (W.alloc (.cells (madeCells #[.int .u8 0] n) 5)).rowIs W.heap.size 5 n (putb f 0) := (World.rowIs_made W (.int .u8 0) n 5).congr fun i _ => by simp [putb]
theorem putb_put {W : World} {b t n : Nat} {f : Nat → Nat} {k : Nat} (h : W.rowIs b t n (putb f k)) : (W.setCell ⟨b, k, none⟩ (.int .u8 (f k))).rowIs b t n (putb f (k + 1)) := (h.set k (.int .u8 (f k))).congr fun j _ => by
  by_cases e : j = k
  · subst e; simp [putb]
  · by_cases c : j < k
    · rw [if_neg e]; unfold putb; rw [if_pos c, if_pos (by omega)]
    · rw [if_neg e]; unfold putb; rw [if_neg c, if_neg (by omega)]
theorem putb_bytes {W : World} {b t n bb : Nat} {f : Nat → Nat} {l : List Nat} (h : W.rowIs b t n (putb f n)) (hl : l.length = n) (hf : ∀ j, j < n → f j = l.getD j 0) (hb : b ≠ bb) : BytesAt W bb (some ⟨b, 0, none⟩) l := by
  intro i hi
  refine ⟨b, 0, rfl, hb, ?_⟩
  rw [Nat.zero_add, h.cell (by omega)]
  unfold putb
  rw [if_pos (by omega), hf i (by omega)]
theorem BytesAt.alloc {W : World} {b : Nat} {A : Option Addr} {l : List Nat} (h : BytesAt W b A l) (o : Obj) : BytesAt (W.alloc o) b A l := by
  intro i hi
  obtain ⟨c, p, e, hc, hh⟩ := h i hi
  exact ⟨c, p, e, hc, by rw [World.cell?_alloc_past _ _ _ (World.block_lt_of_cell? _ _ hh)]; exact hh⟩
theorem BytesAt.drew {W : World} {b : Nat} {A : Option Addr} {l : List Nat} (h : BytesAt W b A l) : BytesAt W.drew b A l := h
/-- make([]byte, n). -/
theorem zeros_at {W : World} {b n : Nat} (hb : b < W.heap.size) : BytesAt (W.alloc (.cells (madeCells #[.int .u8 0] n) 5)) b (some ⟨W.heap.size, 0, none⟩) (List.replicate n 0) := by
  intro i hi
  have hi' : i < n := by simpa using hi
  refine ⟨W.heap.size, 0, rfl, by omega, ?_⟩
  rw [Nat.zero_add, (World.rowIs_made W (.int .u8 0) n 5).cell hi']
  simp [hi']
theorem zeros_bytes (n : Nat) : Cr.Bytes (List.replicate n 0) := fun v hv => by rw [List.eq_of_mem_replicate hv]; decide
theorem zx_length {a b : List Nat} (h : a.length = b.length) : (Cr.zx a b).length = a.length := by simp [Cr.zx, h]
theorem zx_getD {a b : List Nat} {n j : Nat} (ha : n ≤ a.length) (hb : n ≤ b.length) (hj : j < n) : a.getD j 0 ^^^ b.getD j 0 = (Cr.zx (a.take n) (b.take n)).getD j 0 := by
  have h1 : j < a.length := by omega
  have h2 : j < b.length := by omega
  simp [Cr.zx, List.getD_eq_getElem?_getD, List.getElem?_zipWith, hj, h1, h2]
theorem of_v {N p : Nat} (b n : Nat) (A : Option Addr) (l : List Nat) (c : Nat) (w : World) (hp : Hid (Cr.more 65535 l = p)) (hN : l.length = N) (hb : Cr.Bytes l) (hl : N ≤ 9223372036854775807) (h : Is w b n) (hn : n + 1 < 4611686018427387904) (hA : BytesAt w b A l) :
    Calls Try.prog 27 #[.pointer (some ⟨b, 0, none⟩), .slice A N c] w fun e w' => e = .returned (.int .u16 p) ∧ Is w' b (n + 1) ∧ Off b w w' := by
  have := of_n b n A l c w hN hb hl h hn hA
  rwa [hp.out] at this
/-- The row of both, while it is made. -/
structure Both (w : World) (D n : Nat) (f : Nat → Nat) (k : Nat) (W : World) : Prop where
  row : W.rowIs D 5 n (putb f k)
  old : Below w.heap.size w W
  le : w.heap.size ≤ D
theorem Both.put {w : World} {D n : Nat} {f : Nat → Nat} {k : Nat} {W : World} (h : Both w D n f k W) : Both w D n f (k + 1) (W.setCell ⟨D, k, none⟩ (.int .u8 (f k))) := ⟨putb_put h.row, h.old.setCell h.le _, h.le⟩
theorem Both.put_at {w : World} {D n : Nat} {f : Nat → Nat} {k : Nat} {W : World} {V : Nat} (h : Both w D n f k W) (hV : f k = V) : Both w D n f (k + 1) (W.setCell ⟨D, k, none⟩ (.int .u8 (V : Int))) := hV ▸ h.put
theorem Both.drew {w : World} {D n : Nat} {f : Nat → Nat} {k : Nat} {W : World} (h : Both w D n f k W) : Both w D n f k W.drew := ⟨h.row.drew, h.old.drew, h.le⟩

theorem adds_xor {l m : List Nat} {n : Nat} (hl : n ≤ l.length) (hm : n ≤ m.length) (hbl : Cr.Bytes l) (hbm : Cr.Bytes m) :
    bits .xor .u16 ((Cr.more 65535 (l.take n) : Nat) : Int) ((Cr.more 65535 (m.take n) : Nat) : Int) = ((Cr.more 65535 (l.take n) ^^^ Cr.more 65535 (m.take n) : Nat) : Int) ∧ bits .xor .u16 ((Cr.more 65535 (l.take n) ^^^ Cr.more 65535 (m.take n) : Nat) : Int) ((Cr.more 65535 (List.replicate n 0) : Nat) : Int) = ((Cr.more 65535 (Cr.zx (l.take n) (m.take n)) : Nat) : Int) := by
  have e1 : (l.take n).length = n := by rw [List.length_take]; omega
  have e2 : (m.take n).length = n := by rw [List.length_take]; omega
  have h1 := Cr.more_lt (s := 65535) (by decide) (take_bytes hbl n)
  have h2 := Cr.more_lt (s := 65535) (by decide) (take_bytes hbm n)
  have h3 := Cr.more_lt (s := 65535) (by decide) (zeros_bytes n)
  have ha := Cr.adds (take_bytes hbl n) (take_bytes hbm n) (by rw [e1, e2])
  rw [e1] at ha
  rw [ha]
  generalize Cr.more 65535 (l.take n) = p at *
  generalize Cr.more 65535 (m.take n) = q at *
  generalize Cr.more 65535 (List.replicate n 0) = z at *
  exact ⟨Cb.xor_u16 h1 h2, Cb.xor_u16 (Nat.xor_lt_two_pow (n := 16) h1 h2) h3⟩