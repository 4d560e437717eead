/- The walk of CutoffMost. -/
import Derived.Test.YtdfihcbmojggoaaCutoffAwake
namespace Go.Proofs.Ytdfihcbmojggoaa
namespace Ow
open Go.RowKit Lk

set_option maxRecDepth 100000 in
set_option maxHeartbeats 8000000 in
theorem CutoffMost_walk (t : Nat) (ht : t < 65536) (k : Nat) (hk : k < 256) (r : Nat) (hr : r < 65536) (m : Nat) (hm : m < 256) (w : World) :
    Calls Try.prog 7 #[.int .u16 t, .int .u8 k, .int .u16 r, .int .u8 m] w fun e w' => e = .returned (.bool true) ∧ Below w.heap.size w w' := by
  have AW := Lib.hid (fun W => awake_c W)
  have HB := Lib.hid (Below.refl w.heap.size w)
  obtain ⟨x, hx⟩ : ∃ x, (k : Int) * r = x := ⟨_, rfl⟩
  have x0 : 0 ≤ x := by rw [← hx]; exact Int.mul_nonneg (by omega) (by omega)
  have x1 : x ≤ 256 * 65536 := by rw [← hx]; exact Int.mul_le_mul (by omega) (by omega) (by omega) (by decide)
  obtain ⟨y, hy⟩ : ∃ y, ((k : Int) + m) * r = y := ⟨_, rfl⟩
  have y0 : x ≤ y := by
    rw [← hx, ← hy, Int.add_mul]
    have := Int.mul_nonneg (show (0 : Int) ≤ m by omega) (show (0 : Int) ≤ r by omega)
    omega
  obtain ⟨z, hz⟩ : ∃ z, (k : Int) * (r + m) = z := ⟨_, rfl⟩
  have z0 : x ≤ z := by
    rw [← hx, ← hz, Int.mul_add]
    have := Int.mul_nonneg (show (0 : Int) ≤ k by omega) (show (0 : Int) ≤ m by omega)
    omega
  have C1 := Lib.hid (fun W => most_v (t := t) (k := k) (r := r) (n := t - 1 + x) (by rw [← hx]; exact Cu.mo_is (by omega) (by omega) (by omega) (by omega) (by omega) (by omega)) W)
  have C2 := Lib.hid (fun W => most_v (t := t) (k := k + m) (r := r) (n := t - 1 + y) (by rw [← hy]; exact Cu.mo_is (by omega) (by omega) (by omega) (by omega) (by omega) (by omega)) W)
  have C3 := Lib.hid (fun W => most_v (t := t) (k := k) (r := r + m) (n := t - 1 + z) (by rw [← hz]; exact Cu.mo_is (by omega) (by omega) (by omega) (by omega) (by omega) (by omega)) W)
  have C4 := Lib.hid (fun W => most_v (t := t) (k := -m) (r := r) (n := t - 1) (Cu.mo_neg (by omega) (by omega) (by omega) (by omega) (by omega)) W)
  have t0 : (0 : Int) ≤ (t : Int) := by omega
  have t1 : (t : Int) ≤ 65535 := by omega
  have k0 : (0 : Int) ≤ (k : Int) := by omega
  have k1 : (k : Int) ≤ 255 := by omega
  have r0 : (0 : Int) ≤ (r : Int) := by omega
  have r1 : (r : Int) ≤ 65535 := by omega
  have m0 : (0 : Int) ≤ (m : Int) := by omega
  have m1 : (m : Int) ≤ 255 := by omega
  have xm : IntKind.i64.wrap ((k : Int) * r) = x := by rw [hx]; simp [IntKind.wrap, IntKind.bits, IntKind.signed]; omega
  clear hy hz
  generalize (t : Int) = t' at *
  generalize (k : Int) = k' at *
  generalize (r : Int) = r' at *
  generalize (m : Int) = m' at *
  clear ht hk hr hm
  go_enter Try.func7, Try.ntmps7
  go_wp2_with (first
    | (go_at_call 8; (with_reducible refine (AW.out _).mono ?_); rintro e W ⟨rfl, hb⟩; replace HB := Lib.hid (HB.out.trans (hb.mono HB.out.size)); clear hb)
    | (go_at_call 11; (first | (with_reducible refine (C1.out _).mono ?_) | (with_reducible refine (C2.out _).mono ?_) | (with_reducible refine (C3.out _).mono ?_) | (with_reducible refine (C4.out _).mono ?_)); rintro e W ⟨rfl, rfl⟩)
    | fail)
  go_ret
  exact ⟨rfl, HB.out⟩
end Ow
end Go.Proofs.Ytdfihcbmojggoaa
