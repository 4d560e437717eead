/- The closure that reads a number. -/
import Derived.Test.YtegjkbebnnpdcaaLinkRead
namespace Go.Proofs.Ytegjkbebnnpdcaa
namespace Lw
open Go.RowKit

/-- The number that k bytes are. -/
def nm (l : List Nat) (i : Nat) : Nat → Nat
  | 0 => 0
  | k + 1 => nm l i k * 256 + l.getD (i + k) 0
theorem nm_lt {l : List Nat} (hb : Cr.Bytes l) (i : Nat) : ∀ k, i + k ≤ l.length → nm l i k < 256 ^ k
  | 0, _ => by simp [nm]
  | k + 1, h => by
    have h1 := nm_lt hb i k (by omega)
    have h2 := Crc.getD_byte hb (i := i + k) (by omega)
    rw [nm, Nat.pow_succ]
    omega
theorem nm1 (l : List Nat) (i : Nat) : nm l i 1 = l.getD i 0 := by simp [nm]
theorem nm4 (l : List Nat) (i : Nat) : nm l i 4 = Ln.num l i := by simp only [nm, Ln.num, Nat.add_zero, Nat.zero_mul, Nat.zero_add]

set_option maxRecDepth 100000 in
set_option maxHeartbeats 4000000 in
theorem get_c (k at_ ak r : Nat) (hk : k = 1 ∨ k = 4) (l : List Nat) (hl : l.length = 32) (hb : Cr.Bytes l) (ha : at_ + k = ak) (h32 : ak ≤ 32) (hr : nm l at_ k = r) (A : Option Addr) (c X Y : Nat) (hc : 32 ≤ c) (W : World) (hA : Crc.InB W A l)
    (hx : W.cell? ⟨X, 0, none⟩ = some (.slice A 32 c)) (hy : W.cell? ⟨Y, 0, none⟩ = some (.int .i64 at_)) (hz : W.frozen? ⟨Y, 0, none⟩ = false) :
    Calls Try.prog 31 #[.int .i64 k, .pointer (some ⟨X, 0, none⟩), .pointer (some ⟨Y, 0, none⟩)] W fun e W' => e = .returned (.int .i64 r) ∧ W' = W.setCell ⟨Y, 0, none⟩ (.int .i64 ak) := by
  obtain ⟨q, o, rfl, _⟩ := hA 0 (by omega)
  have HR := Lib.hid hr
  have HA := Lib.hid hA
  have HB := Lib.hid hb
  have hak : wrap64 ((at_ : Int) + (k : Int)) = (ak : Int) := by unfold wrap64; omega
  have t1 : (0 : Int) ≤ at_ := by omega
  have t2 : (at_ : Int) ≤ ak := by omega
  have t3 : (ak : Int) ≤ c := by omega
  have t4 : ¬ c = at_ := by omega
  have t5 : ak - at_ = k := by omega
  clear hA hb hr
  go_enter Try.func31, Try.ntmps31
  go_wp2_with fail
  rw [show at_ + k - at_ = k from by omega]
  go_loop [5, 15] (fun x i => ∃ j : Nat, j ≤ k ∧ i = .int .i64 j ∧ x = .int .i64 (nm l at_ j : Nat)) (fun _ i => k - (intOf i).toNat)
  case atStart => exact ⟨0, Nat.zero_le _, rfl, rfl⟩
  case round =>
    obtain ⟨j, hj, rfl, rfl⟩ := hrel
    by_cases hlt : j < k
    · obtain ⟨q', o', he, hcell⟩ := HA.out (at_ + j) (by omega)
      cases he
      rw [← Nat.add_assoc] at hcell
      have hx1 := Crc.getD_byte HB.out (i := at_ + j) (by omega)
      have E : Hid (nm l at_ (j + 1) = nm l at_ j * 256 + l.getD (at_ + j) 0) := rfl
      have hn : nm l at_ j < 16777216 := by
        have := nm_lt HB.out at_ j (by omega)
        have h3 : j = 0 ∨ j = 1 ∨ j = 2 ∨ j = 3 := by omega
        rcases h3 with rfl | rfl | rfl | rfl <;> simp at this <;> omega
      generalize l.getD (at_ + j) 0 = x at *
      generalize nm l at_ j = y at *
      have ho := or_low hn hx1
      rw [Int.natCast_mul] at ho
      have ho' : bits .or .i64 ((y : Int) * 256) (x : Int) = ((y * 256 + x : Nat) : Int) := ho
      clear ho
      generalize hv : y * 256 + x = v at *
      go_wp2_with fail
      go_round
      case rel => exact ⟨j + 1, by omega, by go_num, by rw [E.out]⟩
      case measure => simp [intOf]; omega
    · obtain rfl : j = k := by omega
      rw [HR.out]
      go_wp2_with fail
      go_ret
      exact ⟨rfl, by rw [show (ak : Int) = (at_ : Int) + (j : Int) from by omega]⟩
end Lw
end Go.Proofs.Ytegjkbebnnpdcaa
