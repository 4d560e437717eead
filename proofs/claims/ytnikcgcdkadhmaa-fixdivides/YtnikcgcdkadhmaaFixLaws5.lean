/- The walk of FixDivides. -/
import Derived.Test.YtnikcgcdkadhmaaFixAwake
import Derived.OpenShut
namespace Go.Proofs.Ytnikcgcdkadhmaa
namespace FixC
open Go.RowKit

theorem sum0_c (w : World) :
    Calls Try.prog 25 #[.slice none 0 0] w fun e w' => e = .returned (.int .i64 0) ∧ w = w' :=
  sum_c none 0 [] w (by simp) (fun k hk => by simp at hk)

theorem sum1_c (a : Int) (g : Nat) (w : World) (hg : g = w.heap.size) :
    Calls Try.prog 25 #[.slice (some ⟨g, 0, none⟩) 1 1] (w.alloc (.cells #[.int .i64 a] 3)) fun e w' => e = .returned (.int .i64 (Fx.sum [a])) ∧ (w.alloc (.cells #[.int .i64 a] 3)) = w' :=
  sum_c (some ⟨g, 0, none⟩) 1 [a] _ (by simp) (by
    intro k hk
    subst hg
    refine ⟨w.heap.size, 0, rfl, ?_⟩
    have : k = 0 := by simp at hk; omega
    subst this
    simp)

theorem sum2_c (a b : Int) (g : Nat) (w : World) (hg : g = w.heap.size) :
    Calls Try.prog 25 #[.slice (some ⟨g, 0, none⟩) 2 2] (w.alloc (.cells #[.int .i64 a, .int .i64 b] 3)) fun e w' => e = .returned (.int .i64 (Fx.sum [a, b])) ∧ (w.alloc (.cells #[.int .i64 a, .int .i64 b] 3)) = w' :=
  sum_c (some ⟨g, 0, none⟩) 2 [a, b] _ (by simp) (by
    intro k hk
    subst hg
    refine ⟨w.heap.size, 0, rfl, ?_⟩
    have : k = 0 ∨ k = 1 := by simp at hk; omega
    rcases this with rfl | rfl <;> simp)

theorem FixDivides_zero (x y : Int) (hx : -2147483648 ≤ x ∧ x ≤ 2147483647) (hy : -2147483648 ≤ y ∧ y ≤ 2147483647) (h : y = 0) (w : World) :
    Calls Try.prog 9 #[.int .i32 x, .int .i32 y] w fun e w' => e = .returned (.bool true) ∧ Grown w w' := by
  subst h
  have e1 : Fx.divq x 0 = 0 := rfl
  have e2 : Fx.dive 0 = 10 := rfl
  go_enter Try.func9, Try.ntmps9
  go_wp2_with (first
    | (go_at_call 10; refine (awake_c _).mono ?_; rintro e w1 ⟨rfl, hg, hb⟩; clear hb)
    | (go_at_call 11; refine (div_c _ _ _).mono ?_; rintro e w' ⟨rfl, rfl⟩))
  go_ret
  exact ⟨rfl, by assumption⟩

theorem FixDivides_least (w : World) :
    Calls Try.prog 9 #[.int .i32 (-2147483648), .int .i32 (-1)] w fun e w' => e = .returned (.bool true) ∧ Grown w w' := by
  have e1 : Fx.divq (-2147483648) (-1) = 2147483647 := by decide +kernel
  have e2 : Fx.dive (-1) = 0 := by decide +kernel
  go_enter Try.func9, Try.ntmps9
  go_wp2_with (first
    | (go_at_call 10; refine (awake_c _).mono ?_; rintro e w1 ⟨rfl, hg, hb⟩; clear hb)
    | (go_at_call 11; refine (div_c _ _ _).mono ?_; rintro e w' ⟨rfl, rfl⟩))
  go_ret
  exact ⟨rfl, by assumption⟩

set_option maxHeartbeats 4000000 in
theorem FixDivides_rest (x y : Int) (hx : -2147483648 ≤ x ∧ x ≤ 2147483647) (hy : -2147483648 ≤ y ∧ y ≤ 2147483647) (h0 : y ≠ 0) (hne : ¬ (x = -2147483648 ∧ y = -1)) (w : World) :
    Calls Try.prog 9 #[.int .i32 x, .int .i32 y] w fun e w' => e = .returned (.bool true) ∧ Grown w w' := by
  have e2 : Fx.dive y = 0 := by unfold Fx.dive; rw [if_neg (by rw [Fx.sat_zero]; exact h0)]
  have hl := Fx.divq_left hx hy h0 hne
  have hm := Fx.tmod_small x h0
  have hs := Fx.tmod_sign x y
  have hq := Fx.divq_in x y
  rw [← hl] at hm hs
  clear hl
  have b0 : (y == 0) = false := by simp [h0]
  have e3 : (Fx.sum [x] == x) = true := by
    have : Fx.sum [x] = x := by
      show Fx.sat (Fx.sat 0 + Fx.sat x) = x
      rw [Fx.sat_id x hx.1 hx.2, Fx.sat_id 0 (by omega) (by omega), Fx.sat_id _ (by omega) (by omega)]
      omega
    simp [this]
  have e4 : (Fx.sum [x, y] == Fx.add x y) = true := by
    have : Fx.sum [x, y] = Fx.add x y := by
      show Fx.sat (Fx.sat (Fx.sat (Fx.sat 0 + Fx.sat x)) + Fx.sat y) = Fx.sat (Fx.sat x + Fx.sat y)
      rw [Fx.sat_id 0 (by omega) (by omega), Int.zero_add, Fx.sat_sat, Fx.sat_sat]
    simp [this]
  generalize hqq : Fx.divq x y = q at *
  have hb : -2147483648 ≤ x - q * y ∧ x - q * y ≤ 2147483648 := by omega
  have hb2 : -4294967296 ≤ q * y ∧ q * y ≤ 4294967296 := by omega
  have hlo : y < 0 → (x - q * y < -y ∧ y < x - q * y) := by omega
  have hhi : 0 < y → (x - q * y < y ∧ -y < x - q * y) := by omega
  have hpos : 0 < x - q * y → 0 < x := by omega
  have hneg : x - q * y < 0 → x < 0 := by omega
  have bm : (x == -2147483648) = false ∨ ((x == -2147483648) = true ∧ (y == -1) = false) := by
    by_cases h : x = -2147483648
    · right; exact ⟨by simp [h], by simp; omega⟩
    · left; simp [h]
  clear hm hs hne h0
  rcases bm with bm | ⟨bm, bn⟩ <;> rcases (by simp at b0; omega : y < 0 ∨ 0 < y) with hy' | hy' <;> rcases (by omega : x - q * y = 0 ∨ 0 < x - q * y ∨ x - q * y < 0) with hr | hr | hr
  all_goals
    first | (have hlo := hlo hy'; clear hhi) | (have hhi := hhi hy'; clear hlo)
    first | (have hx' := hpos hr; clear hneg hpos) | (have hx' := hneg hr; clear hneg hpos) | clear hpos hneg
    go_enter Try.func9, Try.ntmps9
    go_wp2_with (first
      | (go_at_call 10; refine (awake_c _).mono ?_; rintro e w1 ⟨rfl, hg, hb⟩; clear hb)
      | (go_at_call 11; refine (div_c _ _ _).mono ?_; rintro e w' ⟨rfl, rfl⟩)
      | (go_at_call 15; refine (add_c _ _ _).mono ?_; rintro e w' ⟨rfl, rfl⟩)
      | (go_at_call 25; (with_reducible refine (sum0_c _).mono ?_); rintro e w' ⟨rfl, rfl⟩)
      | (go_at_call 25; (with_reducible refine (sum1_c _ _ _ (by simp)).mono ?_); rintro e w' ⟨rfl, rfl⟩)
      | (go_at_call 25; (with_reducible refine (sum2_c _ _ _ _ (by simp)).mono ?_); rintro e w' ⟨rfl, rfl⟩))
    all_goals
      go_ret
      exact ⟨rfl, (Grown.alloc (Grown.alloc (by assumption) _ _) _ _)⟩

theorem FixDivides_walk (x y : Int) (w0 : (Lit.int .i32 x).wf = true) (w1 : (Lit.int .i32 y).wf = true) (w : World) :
    Calls Try.prog 9 #[.int .i32 x, .int .i32 y] w fun e w' => e = .returned (.bool true) ∧ Grown w w' := by
  by_cases h : y = 0
  · exact FixDivides_zero x y (bounds_i32 w0) (bounds_i32 w1) h w
  by_cases h' : x = -2147483648 ∧ y = -1
  · obtain ⟨rfl, rfl⟩ := h'
    exact FixDivides_least w
  · exact FixDivides_rest x y (bounds_i32 w0) (bounds_i32 w1) h h' w

end FixC
end Go.Proofs.Ytnikcgcdkadhmaa
