/- Contracts of package table's small functions, and of the library's that it calls, over this seat's program. -/
import Derived.Test.YtioiffhbbhlgeaaChecked
import Derived.Test.YtioiffhbbhlgeaaTabMath
import Derived.Test.YtioiffhbbhlgeaaLawKit
import Derived.WalkKit
import Derived.IntWalk
import Derived.WalkSpells
import Derived.Lib.Hide
import Derived.Deep.QuietTactic
import Derived.BigQuiet
namespace Go.Proofs.Ytioiffhbbhlgeaa
namespace TabC
open Go.RowKit

theorem ret_int {k : IntKind} {a b : Int} (h : a = b) : Ending.returned (.int k a) = .returned (.int k b) := by rw [h]
theorem ret_bool {a b : Bool} (h : a = b) : Ending.returned (.bool a) = .returned (.bool b) := by rw [h]

theorem cellG {w : World} {A : Option Addr} {l : List Int} (h : Lk.IntsAt w .i64 A l) {i : Nat} (hi : i < l.length) : ∃ b off, A = some ⟨b, off, none⟩ ∧ w.cell? ⟨b, off + i, none⟩ = some (.int .i64 (Tb.g l i)) := h i hi

theorem below_drewN {B : Nat} {a w : World} (h : Below B a w) (n : Nat) : Below B a (w.drewN n) := ⟨h.os, h.tape, h.output, h.size, h.block⟩

theorem tdivB {a b : Int} (h1 : -4611686018427387904 ≤ a) (h2 : a ≤ 4611686018427387904) : -4611686018427387904 ≤ a.tdiv b ∧ a.tdiv b ≤ 4611686018427387904 := by
  have h := Int.natAbs_tdiv a b
  have h' : (a.tdiv b).natAbs ≤ a.natAbs := by rw [h]; exact Nat.div_le_self _ _
  omega

theorem floor_eq {a b : Int} (hb : 0 < b) : a / b = if a.tmod b < 0 then a.tdiv b - 1 else a.tdiv b := by
  have e1 := Int.tdiv_eq_ediv (a := a) (b := b)
  have e2 := Int.tmod_eq_emod (a := a) (b := b)
  have n1 := Int.emod_nonneg a (show b ≠ 0 by omega)
  have n2 := Int.emod_lt_of_pos a hb
  rw [Int.sign_eq_one_of_pos hb] at e1
  by_cases c : 0 ≤ a ∨ b ∣ a
  · rw [if_pos c] at e1 e2
    rw [if_neg (by omega)]; omega
  · rw [if_neg c] at e1 e2
    have nz : a % b ≠ 0 := fun e => c (.inr (Int.dvd_of_emod_eq_zero e))
    rw [if_pos (by omega)]; omega

theorem floor_c (a b : Int) (w : World) (hb : 0 < b) (h1 : -4611686018427387904 ≤ a) (h2 : a ≤ 4611686018427387904) (hb2 : b ≤ 4611686018427387904) :
    Calls Try.prog 70 #[.int .i64 a, .int .i64 b] w fun e w' => e = .returned (.int .i64 (a / b)) ∧ w = w' := by
  have HF := Lib.hid (floor_eq (a := a) hb)
  have hq := tdivB (b := b) h1 h2
  have hb0 : (b == 0) = false := by simp; omega
  by_cases c : a.tmod b < 0
  · have E : Hid (a / b = a.tdiv b - 1) := by rw [HF.out, if_pos c]; rfl
    clear HF
    go_enter Try.func70, Try.ntmps70
    go_wp2
    go_ret
    exact ⟨ret_int E.out.symm, rfl⟩
  · have E : Hid (a / b = a.tdiv b) := by rw [HF.out, if_neg c]; rfl
    clear HF
    go_enter Try.func70, Try.ntmps70
    go_wp2
    go_ret
    exact ⟨ret_int E.out.symm, rfl⟩

theorem outside_c (x : Int) (w : World) :
    Calls Try.prog 68 #[.int .i64 x] w fun e w' => e = .returned (.bool (Tb.out x)) ∧ w = w' := by
  go_enter Try.func68, Try.ntmps68
  go_wp2
  all_goals
    go_ret
    exact ⟨ret_bool (by simp [Tb.out]; try omega), rfl⟩

theorem less_c (a b : Int) (w : World) :
    Calls Try.prog 73 #[.int .i64 a, .int .i64 b] w fun e w' => e = .returned (.bool (decide (a < b))) ∧ w = w' := by
  go_enter Try.func73, Try.ntmps73
  go_wp2
  all_goals
    go_ret
    exact ⟨ret_bool (by simp; try omega), rfl⟩

theorem mul_bd {a b : Int} (h1 : -2097152 ≤ a) (h2 : a ≤ 2097152) (h3 : -2097152 ≤ b) (h4 : b ≤ 2097152) : -4398046511104 ≤ a * b ∧ a * b ≤ 4398046511104 := by
  have p1 : 0 ≤ (2097152 - a) * (2097152 - b) := Int.mul_nonneg (by omega) (by omega)
  have p2 : 0 ≤ (2097152 + a) * (2097152 + b) := Int.mul_nonneg (by omega) (by omega)
  have p3 : 0 ≤ (2097152 - a) * (2097152 + b) := Int.mul_nonneg (by omega) (by omega)
  have p4 : 0 ≤ (2097152 + a) * (2097152 - b) := Int.mul_nonneg (by omega) (by omega)
  simp only [Int.sub_mul, Int.add_mul, Int.mul_sub, Int.mul_add] at p1 p2 p3 p4
  constructor <;> omega
theorem div_bd {a b B : Int} (hb : 0 < b) (h1 : -B ≤ a) (h2 : a ≤ B) (hB : 0 ≤ B) : -B ≤ a / b ∧ a / b ≤ B := by
  have e : B * 1 ≤ B * b := Int.mul_le_mul_of_nonneg_left (by omega) hB
  exact ⟨Int.le_ediv_of_mul_le hb (by rw [Int.neg_mul]; omega), Int.le_of_lt_add_one (Int.ediv_lt_of_lt_mul hb (by rw [Int.add_mul]; omega))⟩

set_option maxHeartbeats 1000000 in
theorem at_c (f t a b x : Int) (w : World) (hf0 : 0 ≤ f) (hf1 : f ≤ 1048576) (ht0 : 0 ≤ t) (ht1 : t ≤ 1048576) (ha0 : 0 ≤ a) (ha1 : a ≤ 1048576) (hb0 : 0 ≤ b) (hb1 : b ≤ 1048576) (hft : f < t) (hx0 : 0 ≤ x) (hx1 : x ≤ 1048576) :
    Calls Try.prog 51 #[.agg #[.int .i64 f, .int .i64 t, .int .i64 a, .int .i64 b], .int .i64 x] w fun e w' => e = .returned (.int .i64 (a + (x - f) * (b - a) / (t - f))) ∧ Below w.heap.size w w' := by
  have m := mul_bd (a := x - f) (b := b - a) (by omega) (by omega) (by omega) (by omega)
  have q := div_bd (a := (x - f) * (b - a)) (b := t - f) (by omega) m.1 m.2 (by omega)
  have w1 : IntKind.i64.wrap (x - f) = x - f := IntWalk.i64_in _ (by omega)
  have w2 : IntKind.i64.wrap (b - a) = b - a := IntWalk.i64_in _ (by omega)
  have w3 : IntKind.i64.wrap ((x - f) * (b - a)) = (x - f) * (b - a) := IntWalk.i64_in _ (by omega)
  have w4 : IntKind.i64.wrap (t - f) = t - f := IntWalk.i64_in _ (by omega)
  have w5 : IntKind.i64.wrap (a + (x - f) * (b - a) / (t - f)) = a + (x - f) * (b - a) / (t - f) := IntWalk.i64_in _ (by omega)
  have fc : ∀ W, Calls Try.prog 70 #[.int .i64 ((x - f) * (b - a)), .int .i64 (t - f)] W fun e w' => e = .returned (.int .i64 ((x - f) * (b - a) / (t - f))) ∧ w' = W :=
    fun W => (floor_c ((x - f) * (b - a)) (t - f) W (by omega) (by omega) (by omega) (by omega)).mono fun _ _ h => ⟨h.1, h.2.symm⟩
  have FC := Lib.hid fc
  clear fc
  go_enter Try.func51, Try.ntmps51
  go_wp2
  go_quiet ((go_at_call 70; exact Calls.quiet_of_same (FC.out _)))
  go_wp2
  go_ret
  exact ⟨rfl, below_drewN ((Below.refl _ _).alloc (Nat.le_refl _) _) _⟩

end TabC
end Go.Proofs.Ytioiffhbbhlgeaa
