/- What CrcTurns needs: a row of bytes that is written, and read as a string; sums that are unlike. -/
import Derived.Test.YtegjkbebnnpdcaaCrcLaw5
import Derived.Laws.BytesArg
namespace Go.Proofs.Ytegjkbebnnpdcaa
namespace Crc
open Go.RowKit

theorem set_split {l : List Nat} {a : Nat} (h : a < l.length) (v : Nat) : l.set a v = l.take a ++ v :: l.drop (a + 1) := by
  rw [List.set_eq_take_append_cons_drop, if_pos h]
theorem split1 {l : List Nat} {a : Nat} (h : a < l.length) : l = l.take a ++ l.getD a 0 :: l.drop (a + 1) := by
  have e : l.getD a 0 = l[a] := by simp [h]
  rw [e, ← List.drop_eq_getElem_cons h, List.take_append_drop]
theorem drop_bytes {l : List Nat} (h : Cr.Bytes l) (k : Nat) : Cr.Bytes (l.drop k) := fun v hv => h v (List.mem_of_mem_drop hv)
theorem set_bytes {l : List Nat} {a v : Nat} (h : Cr.Bytes l) (hv : v < 256) : Cr.Bytes (l.set a v) := fun u hu => (List.mem_or_eq_of_mem_set hu).elim (h u) (fun e => e ▸ hv)

theorem turn_one {l : List Nat} {a x : Nat} (h : a < l.length) (hb : Cr.Bytes l) (hx : x < 256) : Cr.more 65535 (l.set a (l.getD a 0 ^^^ x)) = Cr.more 65535 l ↔ l.set a (l.getD a 0 ^^^ x) = l := by
  have t := Cr.turn1 (p := l.take a) (u := l.getD a 0) (x := x) (take_bytes hb a) (getD_byte hb h) hx (l.drop (a + 1)) (drop_bytes hb _)
  rw [← split1 h, ← set_split h] at t
  refine ⟨fun e => ?_, fun e => by rw [e]⟩
  rw [t.1 e, Nat.xor_zero, set_split h, ← split1 h]
theorem split2 {l : List Nat} {a : Nat} (h : a + 1 < l.length) : l = l.take a ++ l.getD a 0 :: l.getD (a + 1) 0 :: l.drop (a + 1 + 1) := by
  have e : l.getD (a + 1) 0 = l[a + 1] := by simp [h]
  rw [e, ← List.drop_eq_getElem_cons h, ← split1 (by omega)]
theorem set_split2 {l : List Nat} {a : Nat} (h : a + 1 < l.length) (v u : Nat) : (l.set a v).set (a + 1) u = l.take a ++ v :: u :: l.drop (a + 1 + 1) := by
  have hl : (l.take a).length = a := by rw [List.length_take]; omega
  rw [set_split (by omega) v, List.set_append_right _ _ (by rw [hl]; omega), hl, show a + 1 - a = 1 from by omega, List.drop_eq_getElem_cons h]
  rfl
theorem turn_two {l : List Nat} {a x y : Nat} (h : a + 1 < l.length) (hb : Cr.Bytes l) (hx : x < 256) (hy : y < 256) : Cr.more 65535 ((l.set a (l.getD a 0 ^^^ x)).set (a + 1) (l.getD (a + 1) 0 ^^^ y)) = Cr.more 65535 l ↔ (l.set a (l.getD a 0 ^^^ x)).set (a + 1) (l.getD (a + 1) 0 ^^^ y) = l := by
  have t := Cr.turn2 (p := l.take a) (u := l.getD a 0) (v := l.getD (a + 1) 0) (x := x) (y := y) (take_bytes hb a) (getD_byte hb (by omega)) (getD_byte hb h) hx hy (l.drop (a + 1 + 1)) (drop_bytes hb _)
  rw [← split2 h, ← set_split2 h] at t
  refine ⟨fun e => ?_, fun e => by rw [e]⟩
  obtain ⟨e1, e2⟩ := t.1 e
  rw [e1, e2, Nat.xor_zero, Nat.xor_zero, set_split2 h, ← split2 h]

/-- A row of bytes of the call's own. -/
structure RowB (W : World) (g : Nat) (L : List Nat) : Prop where
  row : ∃ cur, W.heap[g]? = some (.cells cur 5 (0, 0)) ∧ ∀ i, i < L.length → cur[i]? = some (.int .u8 (L.getD i 0 : Nat))
namespace RowB
variable {W : World} {g : Nat} {L : List Nat}
theorem cell (h : RowB W g L) {i : Nat} (hi : i < L.length) : W.cell? ⟨g, i, none⟩ = some (.int .u8 (L.getD i 0 : Nat)) := by
  obtain ⟨cur, hc, hh⟩ := h.row
  rw [Joins.cell_of_block hc, hh i hi]
theorem frozen (h : RowB W g L) (i : Nat) : W.frozen? ⟨g, i, none⟩ = false := by
  obtain ⟨cur, hc, _⟩ := h.row
  exact Joins.unfrozen_of_block hc i
theorem lt (h : RowB W g L) : g < W.heap.size := by
  obtain ⟨cur, hc, _⟩ := h.row
  exact (Array.getElem?_eq_some_iff.1 hc).1
theorem set (h : RowB W g L) {i : Nat} (hi : i < L.length) (v : Nat) : RowB (W.setCell ⟨g, i, none⟩ (.int .u8 (v : Int))) g (L.set i v) := by
  obtain ⟨cur, hc, hh⟩ := h.row
  refine ⟨_, Joins.block_setCell hc _, fun j hj => ?_⟩
  rw [List.length_set] at hj
  have hcs : i < cur.size := (Array.getElem?_eq_some_iff.1 (hh i hi)).1
  by_cases e : i = j
  · subst e; simp [hcs, hi]
  · rw [Array.getElem?_setIfInBounds_ne e, hh j hj]
    simp [e]
theorem bytes (h : RowB W g L) {b : Nat} (hb : g ≠ b) : BytesAt W b (some ⟨g, 0, none⟩) L := fun i hi => ⟨g, 0, rfl, hb, by rw [Nat.zero_add]; exact h.cell hi⟩
theorem of_own {base cap : Nat} (h : W.ownsRow base 5 1 (.slice (some ⟨g, 0, none⟩) L.length cap) L.length (bs L)) : RowB W g L ∧ base ≤ g := by
  rcases h.2 with ⟨e, _⟩ | ⟨g', cap', cur, e, hg, hh, _, _, _, ht⟩
  · cases e
  · cases e
    refine ⟨⟨cur, hh, fun i hi => ?_⟩, hg⟩
    rw [Nat.mul_one] at ht
    have : (cur.toList.take L.length)[i]? = (bs L)[i]? := by rw [ht]
    rw [List.getElem?_take_of_lt hi] at this
    rw [← Array.getElem?_toList, this]
    simp [bs, hi]
end RowB

/-- Bytes, read as a string. -/
def str (l : List Nat) : ByteArray := strOfNums (l.map fun v : Nat => (v : Int))
theorem str_inj {a b : List Nat} (ha : Cr.Bytes a) (hb : Cr.Bytes b) (h : (str a).toList = (str b).toList) : a = b := by
  have e : (str a).data.toList = (str b).data.toList := by rw [ByteArray.toList_eq, ByteArray.toList_eq] at h; exact h
  unfold str at e
  rw [strOfNums_data, strOfNums_data, List.map_map, List.map_map] at e
  have hl : a.length = b.length := by simpa using congrArg List.length e
  refine List.ext_getElem hl fun i h1 h2 => ?_
  have := congrArg (fun z => z[i]?) e
  simp [h1, h2] at this
  have := congrArg UInt8.toNat this
  have u := ha _ (List.getElem_mem h1)
  have v := hb _ (List.getElem_mem h2)
  simp at this
  omega
theorem str_beq {a b : List Nat} (ha : Cr.Bytes a) (hb : Cr.Bytes b) (h : Cr.more 65535 a = Cr.more 65535 b ↔ a = b) : (((Cr.more 65535 a : Nat) : Int) == ((Cr.more 65535 b : Nat) : Int)) = ((str a).toList == (str b).toList) := by
  by_cases e : a = b
  · subst e
    rw [beq_self_eq_true, beq_self_eq_true]
  · have e1 : ¬ Cr.more 65535 a = Cr.more 65535 b := fun h2 => e (h.1 h2)
    have e2 : ¬ (str a).toList = (str b).toList := fun h2 => e (str_inj ha hb h2)
    generalize Cr.more 65535 a = p at *
    generalize Cr.more 65535 b = q at *
    rw [beq_eq_false_iff_ne.2 (by omega : (p : Int) ≠ q), beq_eq_false_iff_ne.2 e2]
theorem conv_c {W : World} {b : Nat} {A : Option Addr} {l : List Nat} {c : Nat} (h : BytesAt W b A l) (h1 : 1 ≤ l.length) : (convert 27 9 (.slice A l.length c)).run Try.prog W = .ok (.string (str l)) W := by
  obtain ⟨k, o, rfl, _, _⟩ := h 0 (by omega)
  refine run_convert_bytes_arg W 27 5 Try.underlying27 Try.underlying5 k o l.length c _ (by simp) (fun i hi => ?_) 9 Try.underlying9
  obtain ⟨k', o', e, _, hc⟩ := h i hi
  cases e
  rw [hc]
  simp [hi]
end Crc
end Go.Proofs.Ytegjkbebnnpdcaa
