/- The packet that bytes seem to be, as the code reads it. -/
import Derived.Test.YtegjkbebnnpdcaaLinkRows

namespace Go.Proofs.Ytegjkbebnnpdcaa
namespace Lw
open Go.RowKit

theorem and_one {a : Nat} (ha : a < 4294967296) : bits .and .i64 (a : Int) 1 = ((a % 2 : Nat) : Int) := by
  have h1 : (BitVec.ofInt 64 (a : Int)).toNat = a := by rw [BitVec.ofInt_natCast, BitVec.toNat_ofNat]; exact Nat.mod_eq_of_lt (by omega)
  show IntKind.i64.wrap ((BitVec.ofInt 64 (a : Int) &&& 1#64).toNat : Int) = _
  rw [BitVec.toNat_and, h1, show (1#64).toNat = 1 from rfl, Nat.and_one_is_mod, IntKind.wrap_i64]
  omega
theorem or_low {x c : Nat} (hx : x < 16777216) (hc : c < 256) : bits .or .i64 ((x * 256 : Nat) : Int) (c : Int) = ((x * 256 + c : Nat) : Int) := by
  have h1 : (BitVec.ofInt 64 ((x * 256 : Nat) : Int)).toNat = x * 256 := by rw [BitVec.ofInt_natCast, BitVec.toNat_ofNat]; exact Nat.mod_eq_of_lt (by omega)
  have h2 : (BitVec.ofInt 64 (c : Int)).toNat = c := by rw [BitVec.ofInt_natCast, BitVec.toNat_ofNat]; exact Nat.mod_eq_of_lt (by omega)
  have h3 : x * 256 ||| c = x * 256 + c := by
    have := Nat.shiftLeft_add_eq_or_of_lt (b := c) (i := 8) (by omega) x
    rw [Nat.shiftLeft_eq] at this
    exact this.symm
  show IntKind.i64.wrap ((BitVec.ofInt 64 ((x * 256 : Nat) : Int) ||| BitVec.ofInt 64 (c : Int)).toNat : Int) = _
  rw [BitVec.toNat_or, h1, h2, h3, IntKind.wrap_i64]
  omega

theorem cast_one (m : Nat) : (((m : Nat) : Int) == 1) = (m == 1) := by
  rw [Bool.eq_iff_iff, beq_iff_eq, beq_iff_eq]
  omega

/-- Five flags, the first k of them read. -/
def fl (n : Nat) : Nat → Array Value
  | 0 => #[.bool false, .bool false, .bool false, .bool false, .bool false]
  | 1 => #[.bool (Ln.odd n 0), .bool false, .bool false, .bool false, .bool false]
  | 2 => #[.bool (Ln.odd n 0), .bool (Ln.odd n 1), .bool false, .bool false, .bool false]
  | 3 => #[.bool (Ln.odd n 0), .bool (Ln.odd n 1), .bool (Ln.odd n 2), .bool false, .bool false]
  | 4 => #[.bool (Ln.odd n 0), .bool (Ln.odd n 1), .bool (Ln.odd n 2), .bool (Ln.odd n 3), .bool false]
  | _ => #[.bool (Ln.odd n 0), .bool (Ln.odd n 1), .bool (Ln.odd n 2), .bool (Ln.odd n 3), .bool (Ln.odd n 4)]
structure Fl (n k m : Nat) (w W : World) : Prop where
  res : W.heap[m]? = some (.cells #[.bool false, .bool false, .bool false, .bool false, .bool false] 24 (0, 0))
  row : W.heap[m + 1]? = some (.cells (fl n k) 24 (0, 0))
  old : Below m w W
namespace Fl
variable {n k m : Nat} {w W : World}
theorem start (n : Nat) (w : World) : Fl n 0 w.heap.size w ((w.alloc (.cells #[.bool false, .bool false, .bool false, .bool false, .bool false] 24)).alloc (.cells #[.bool false, .bool false, .bool false, .bool false, .bool false] 24)) := by
  have b1 := (Below.refl w.heap.size w).alloc (Nat.le_refl _) (.cells #[.bool false, .bool false, .bool false, .bool false, .bool false] 24)
  refine ⟨?_, ?_, b1.alloc b1.size _⟩
  · rw [Below.heap_alloc _ _ _ (by simp)]
    exact heap_alloc_last w _
  · have := heap_alloc_last (w.alloc (.cells #[.bool false, .bool false, .bool false, .bool false, .bool false] 24)) (.cells #[.bool false, .bool false, .bool false, .bool false, .bool false] 24)
    rw [show (w.alloc (.cells #[.bool false, .bool false, .bool false, .bool false, .bool false] 24)).heap.size = w.heap.size + 1 from by simp] at this
    exact this
theorem cell (h : Fl n k m w W) (i : Nat) {v : Value} (hv : (fl n k)[i]? = some v) : W.cell? ⟨m + 1, i, none⟩ = some v := by rw [Joins.cell_of_block h.row, hv]
theorem frozen (h : Fl n k m w W) (i : Nat) : W.frozen? ⟨m + 1, i, none⟩ = false := Joins.unfrozen_of_block h.row i
theorem put (h : Fl n k m w W) (i : Nat) (b : Bool) {k' : Nat} (e : (fl n k).setIfInBounds i (.bool b) = fl n k') : Fl n k' m w (W.setCell ⟨m + 1, i, none⟩ (.bool b)) :=
  ⟨by rw [Below.heap_setCell _ _ _ _ (by show m ≠ m + 1; omega)]; exact h.res, by rw [Joins.block_setCell h.row, e], h.old.setCell (p := ⟨m + 1, i, none⟩) (by show m ≤ m + 1; omega) _⟩
theorem rcell (h : Fl n k m w W) (i : Nat) (hi : i < 5) : W.cell? ⟨m, i, none⟩ = some (.bool false) := by
  rw [Joins.cell_of_block h.res]
  have : i = 0 ∨ i = 1 ∨ i = 2 ∨ i = 3 ∨ i = 4 := by omega
  rcases this with rfl | rfl | rfl | rfl | rfl <;> rfl
theorem rfrozen (h : Fl n k m w W) (i : Nat) : W.frozen? ⟨m, i, none⟩ = false := Joins.unfrozen_of_block h.res i
end Fl




set_option maxRecDepth 100000 in
set_option maxHeartbeats 4000000 in
theorem flags_c (n : Nat) (hn : n < 256) (w : World) : Calls Try.prog 32 #[.int .i64 n] w fun e w' => e = .returned (.agg #[.bool (Ln.odd n 0), .bool (Ln.odd n 1), .bool (Ln.odd n 2), .bool (Ln.odd n 3), .bool (Ln.odd n 4)]) ∧ Below w.heap.size w w' := by
  have HF := Lib.hid (Fl.start n w)
  obtain ⟨x0, hx0, HX0⟩ : ∃ x, bits .and .i64 (n : Int) 1 = x ∧ Hid ((x == 1) = Ln.odd n 0) := ⟨_, rfl, by
    show (bits .and .i64 (n : Int) 1 == 1) = _
    rw [show (n : Int) = ((n / 2 ^ 0 : Nat) : Int) from by omega, and_one (by omega)]
    unfold Ln.odd
    exact cast_one _⟩
  obtain ⟨x1, hx1, HX1⟩ : ∃ x, bits .and .i64 ((n : Int) / 2) 1 = x ∧ Hid ((x == 1) = Ln.odd n 1) := ⟨_, rfl, by
    show (bits .and .i64 ((n : Int) / 2) 1 == 1) = _
    rw [show ((n : Int) / 2) = ((n / 2 ^ 1 : Nat) : Int) from by omega, and_one (by omega)]
    unfold Ln.odd
    exact cast_one _⟩
  obtain ⟨x2, hx2, HX2⟩ : ∃ x, bits .and .i64 ((n : Int) / 4) 1 = x ∧ Hid ((x == 1) = Ln.odd n 2) := ⟨_, rfl, by
    show (bits .and .i64 ((n : Int) / 4) 1 == 1) = _
    rw [show ((n : Int) / 4) = ((n / 2 ^ 2 : Nat) : Int) from by omega, and_one (by omega)]
    unfold Ln.odd
    exact cast_one _⟩
  obtain ⟨x3, hx3, HX3⟩ : ∃ x, bits .and .i64 ((n : Int) / 8) 1 = x ∧ Hid ((x == 1) = Ln.odd n 3) := ⟨_, rfl, by
    show (bits .and .i64 ((n : Int) / 8) 1 == 1) = _
    rw [show ((n : Int) / 8) = ((n / 2 ^ 3 : Nat) : Int) from by omega, and_one (by omega)]
    unfold Ln.odd
    exact cast_one _⟩
  obtain ⟨x4, hx4, HX4⟩ : ∃ x, bits .and .i64 ((n : Int) / 16) 1 = x ∧ Hid ((x == 1) = Ln.odd n 4) := ⟨_, rfl, by
    show (bits .and .i64 ((n : Int) / 16) 1 == 1) = _
    rw [show ((n : Int) / 16) = ((n / 2 ^ 4 : Nat) : Int) from by omega, and_one (by omega)]
    unfold Ln.odd
    exact cast_one _⟩
  go_enter Try.func32, Try.ntmps32
  go_wp2_with fail
  generalize hz : w.heap.size = m at *
  have HZ := Lib.hid hz
  clear hz
  go_loopw [5] (fun i wr => ∃ k : Nat, k ≤ 5 ∧ i = .int .i64 k ∧ Fl n k m w wr) (fun i _ => 5 - (intOf i).toNat)
  case atStart => exact ⟨0, by decide, rfl, HF.out⟩
  case round =>
    obtain ⟨k, hk, rfl, hw⟩ := hrel
    clear HF
    have HF := Lib.hid hw
    clear hw
    by_cases hlt : k < 5
    · have hk5 : k = 0 ∨ k = 1 ∨ k = 2 ∨ k = 3 ∨ k = 4 := by omega
      rcases hk5 with rfl | rfl | rfl | rfl | rfl
      · have c1 := HF.out.cell 0 rfl
        have c2 := HF.out.frozen 0
        go_wp2_with fail
        go_roundw
        case rel => exact ⟨1, by decide, rfl, HF.out.put 0 _ (by rw [HX0.out]; rfl)⟩
        case measure => simp [intOf]
      · have c1 := HF.out.cell 1 rfl
        have c2 := HF.out.frozen 1
        go_wp2_with fail
        go_roundw
        case rel => exact ⟨2, by decide, rfl, HF.out.put 1 _ (by rw [HX1.out]; rfl)⟩
        case measure => simp [intOf]
      · have c1 := HF.out.cell 2 rfl
        have c2 := HF.out.frozen 2
        go_wp2_with fail
        go_roundw
        case rel => exact ⟨3, by decide, rfl, HF.out.put 2 _ (by rw [HX2.out]; rfl)⟩
        case measure => simp [intOf]
      · have c1 := HF.out.cell 3 rfl
        have c2 := HF.out.frozen 3
        go_wp2_with fail
        go_roundw
        case rel => exact ⟨4, by decide, rfl, HF.out.put 3 _ (by rw [HX3.out]; rfl)⟩
        case measure => simp [intOf]
      · have c1 := HF.out.cell 4 rfl
        have c2 := HF.out.frozen 4
        go_wp2_with fail
        go_roundw
        case rel => exact ⟨5, by decide, rfl, HF.out.put 4 _ (by rw [HX4.out]; rfl)⟩
        case measure => simp [intOf]
    · obtain rfl : k = 5 := by omega
      have c0 : wr.cell? ⟨m + 1, 0, none⟩ = some (.bool (Ln.odd n 0)) := HF.out.cell 0 rfl
      have c1 : wr.cell? ⟨m + 1, 1, none⟩ = some (.bool (Ln.odd n 1)) := HF.out.cell 1 rfl
      have c2 : wr.cell? ⟨m + 1, 2, none⟩ = some (.bool (Ln.odd n 2)) := HF.out.cell 2 rfl
      have c3 : wr.cell? ⟨m + 1, 3, none⟩ = some (.bool (Ln.odd n 3)) := HF.out.cell 3 rfl
      have c4 : wr.cell? ⟨m + 1, 4, none⟩ = some (.bool (Ln.odd n 4)) := HF.out.cell 4 rfl
      have r0 := HF.out.rcell 0 (by decide)
      have r1 := HF.out.rcell 1 (by decide)
      have r2 := HF.out.rcell 2 (by decide)
      have r3 := HF.out.rcell 3 (by decide)
      have r4 := HF.out.rcell 4 (by decide)
      have f0 := HF.out.rfrozen 0
      have f1 := HF.out.rfrozen 1
      have f2 := HF.out.rfrozen 2
      have f3 := HF.out.rfrozen 3
      have f4 := HF.out.rfrozen 4
      go_wp2_with fail
      have HV : Hid ((((((wr.setCell ⟨m, 0, none⟩ (.bool (Ln.odd n 0))).setCell ⟨m, 1, none⟩ (.bool (Ln.odd n 1))).setCell ⟨m, 2, none⟩ (.bool (Ln.odd n 2))).setCell ⟨m, 3, none⟩ (.bool (Ln.odd n 3))).setCell ⟨m, 4, none⟩ (.bool (Ln.odd n 4))).heap[m]? = some (.cells #[.bool (Ln.odd n 0), .bool (Ln.odd n 1), .bool (Ln.odd n 2), .bool (Ln.odd n 3), .bool (Ln.odd n 4)] 24 (0, 0))) := Joins.block_setCell (Joins.block_setCell (Joins.block_setCell (Joins.block_setCell (Joins.block_setCell HF.out.res _) _) _) _) _
      have HB : Hid (Below m w (((((wr.setCell ⟨m, 0, none⟩ (.bool (Ln.odd n 0))).setCell ⟨m, 1, none⟩ (.bool (Ln.odd n 1))).setCell ⟨m, 2, none⟩ (.bool (Ln.odd n 2))).setCell ⟨m, 3, none⟩ (.bool (Ln.odd n 3))).setCell ⟨m, 4, none⟩ (.bool (Ln.odd n 4)))) := ((((HF.out.old.setCell (p := ⟨m, 0, none⟩) (Nat.le_refl m) _).setCell (p := ⟨m, 1, none⟩) (Nat.le_refl m) _).setCell (p := ⟨m, 2, none⟩) (Nat.le_refl m) _).setCell (p := ⟨m, 3, none⟩) (Nat.le_refl m) _).setCell (p := ⟨m, 4, none⟩) (Nat.le_refl m) _
      generalize World.setCell _ _ _ = V at *
      refine bodyPost_ret (results_cell_row rfl _ _ m 24 _ _ _ rfl HV.out Try.underlying24 rfl info_good) rfl ?_
      exact ⟨rfl, by rw [HZ.out]; exact HB.out⟩
end Lw
end Go.Proofs.Ytegjkbebnnpdcaa
