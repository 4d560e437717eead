/- The walks of LimitTells and LimitRises. -/
import Derived.Test.YtjjconkelbjodaaLimitAwake
import Derived.Test.YtjjconkelbjodaaLimitRef
import Derived.Test.YtjjconkelbjodaaLimKit
namespace Go.Proofs.Ytjjconkelbjodaa
namespace Lw5
open Go.RowKit FixC Lk Ew Hw

theorem LimitTells_walk (v r m f l : Int) (w : World) : Calls Try.prog 3 #[.int .i64 v, .int .i64 r, .int .i64 m, .int .i64 f, .int .i64 l] w fun e w' => e = .returned (.bool true) ∧ Below w.heap.size w w' := by
  obtain ⟨t, ht⟩ : ∃ t, Lt.trim v r m f l = t := ⟨_, rfl⟩
  have C1 := Lib.hid (trim_v ht)
  have C2 := Lib.hid (rtrim_v ht)
  clear ht
  go_enter Try.func3, Try.ntmps3
  go_wp2_with (first | (go_at_call 8; (with_reducible refine (awake_c _).mono ?_); rintro e W ⟨rfl, hb⟩; have HB := Lib.hid hb; clear hb) | (go_at_call 9; (with_reducible refine (C1.out _).mono ?_); rintro e w' ⟨rfl, rfl⟩) | (go_at_call 10; (with_reducible refine (C2.out _).mono ?_); rintro e w' ⟨rfl, rfl⟩) | fail)
  go_ret
  exact ⟨rfl, HB.out⟩

set_option maxRecDepth 100000 in
set_option maxHeartbeats 4000000 in
theorem LimitRises_walk (v : Int) (hv : -2147483648 ≤ v ∧ v ≤ 2147483647) (x : Int) (hx : 0 ≤ x ∧ x ≤ 65535) (r : Int) (hr : -2147483648 ≤ r ∧ r ≤ 2147483647) (m : Int) (hm : 0 ≤ m ∧ m ≤ 65535) (f : Int) (hf : -2147483648 ≤ f ∧ f ≤ 2147483647) (y : Int) (hy : 0 ≤ y ∧ y ≤ 65535) (l : Int) (hl : -2147483648 ≤ l ∧ l ≤ 2147483647) (w : World) :
    Calls Try.prog 5 #[.int .i32 v, .int .u16 x, .int .i32 r, .int .u16 m, .int .i32 f, .int .u16 y, .int .i32 l] w fun e w' => e = .returned (.bool true) ∧ Below w.heap.size w w' := by
  obtain ⟨a, ea⟩ : ∃ t, Lt.trim v r (m + 1) f l = t := ⟨_, rfl⟩
  obtain ⟨b, eb⟩ : ∃ t, Lt.trim (v + x) r (m + 1) f l = t := ⟨_, rfl⟩
  obtain ⟨c, ec⟩ : ∃ t, Lt.trim v r (m + 1) (f + y) l = t := ⟨_, rfl⟩
  have hba : b ≤ a := by rw [← ea, ← eb]; exact Lt.trim_value (by omega)
  have hac : a ≤ c := by rw [← ea, ← ec]; exact Lt.trim_fuel (by omega)
  have hai := Lt.core_in (v := v) (r := r) (m := m + 1) (f := f) (l := l) (by omega)
  have hfar : v ≤ r - (m + 1) → a = f := fun h => by rw [← ea, Lt.trim_is hv hr (by omega) hf hl]; exact Lt.core_all (Or.inr h)
  have hnear : r ≤ v → l < f → a = l := fun h k => by rw [← ea, Lt.trim_is hv hr (by omega) hf hl]; exact Lt.core_lean (by omega) h
  rw [← Lt.trim_is hv hr (by omega) hf hl, ea] at hai
  have C1 := Lib.hid (trim_v ea)
  have C2 := Lib.hid (trim_v eb)
  have C3 := Lib.hid (trim_v ec)
  obtain ⟨p, ep⟩ : ∃ p, min f l = p := ⟨_, rfl⟩
  obtain ⟨q, eq⟩ : ∃ p, max f l = p := ⟨_, rfl⟩
  rw [ep, eq] at hai
  have d1 : decide (p ≤ a) = true := decide_eq_true hai.1
  have d2 : decide (a ≤ q) = true := decide_eq_true hai.2.1
  have d3 : decide (b ≤ a) = true := decide_eq_true hba
  have d4 : decide (a ≤ c) = true := decide_eq_true hac
  have HF := Lib.hid hfar
  have HN := Lib.hid hnear
  clear ea eb ec hai hba hac hfar hnear
  by_cases k1 : r - (m + 1) < v
  · have k1' : decide (r - (m + 1) < v) = true := decide_eq_true k1
    by_cases k2 : v < r
    · have k2' : decide (v < r) = true := decide_eq_true k2
      go_enter Try.func5, Try.ntmps5
      go_wp2_with (first | (go_at_call 8; (with_reducible refine (awake_c _).mono ?_); rintro e W ⟨rfl, hb⟩; have HB := Lib.hid hb; clear hb) | (go_at_call 9; (first | (with_reducible refine (C1.out _).mono ?_) | (with_reducible refine (C2.out _).mono ?_) | (with_reducible refine (C3.out _).mono ?_)); rintro e w' ⟨rfl, rfl⟩) | fail)
      go_ret
      exact ⟨rfl, HB.out⟩
    · have k2' : decide (v < r) = false := decide_eq_false k2
      by_cases k3 : f ≤ l
      · have k3' : decide (f ≤ l) = true := decide_eq_true k3
        go_enter Try.func5, Try.ntmps5
        go_wp2_with (first | (go_at_call 8; (with_reducible refine (awake_c _).mono ?_); rintro e W ⟨rfl, hb⟩; have HB := Lib.hid hb; clear hb) | (go_at_call 9; (first | (with_reducible refine (C1.out _).mono ?_) | (with_reducible refine (C2.out _).mono ?_) | (with_reducible refine (C3.out _).mono ?_)); rintro e w' ⟨rfl, rfl⟩) | fail)
        go_ret
        exact ⟨rfl, HB.out⟩
      · have k3' : decide (f ≤ l) = false := decide_eq_false k3
        have k4 : (a == l) = true := by simp; exact HN.out (by omega) (by omega)
        go_enter Try.func5, Try.ntmps5
        go_wp2_with (first | (go_at_call 8; (with_reducible refine (awake_c _).mono ?_); rintro e W ⟨rfl, hb⟩; have HB := Lib.hid hb; clear hb) | (go_at_call 9; (first | (with_reducible refine (C1.out _).mono ?_) | (with_reducible refine (C2.out _).mono ?_) | (with_reducible refine (C3.out _).mono ?_)); rintro e w' ⟨rfl, rfl⟩) | fail)
        go_ret
        exact ⟨rfl, HB.out⟩
  · have k1' : decide (r - (m + 1) < v) = false := decide_eq_false k1
    have k5 : (a == f) = true := by simp; exact HF.out (by omega)
    have k2' : decide (v < r) = true := decide_eq_true (by omega)
    go_enter Try.func5, Try.ntmps5
    go_wp2_with (first | (go_at_call 8; (with_reducible refine (awake_c _).mono ?_); rintro e W ⟨rfl, hb⟩; have HB := Lib.hid hb; clear hb) | (go_at_call 9; (first | (with_reducible refine (C1.out _).mono ?_) | (with_reducible refine (C2.out _).mono ?_) | (with_reducible refine (C3.out _).mono ?_)); rintro e w' ⟨rfl, rfl⟩) | fail)
    go_ret
    exact ⟨rfl, HB.out⟩

end Lw5
end Go.Proofs.Ytjjconkelbjodaa
