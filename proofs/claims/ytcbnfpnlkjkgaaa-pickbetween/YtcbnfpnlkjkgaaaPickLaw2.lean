/- The walk of PickBetween. -/
import Derived.Test.YtcbnfpnlkjkgaaaPickLaw1
namespace Go.Proofs.Ytcbnfpnlkjkgaaa
namespace Pw
open Go.RowKit Pc Lk FixC

theorem both_pick {a b m n : Int} (ha : -2147483648 ≤ a ∧ a ≤ 2147483647) (hb : -2147483648 ≤ b ∧ b ≤ 2147483647) (hm : -2147483648 ≤ m ∧ m ≤ 2147483647) (hn : 0 ≤ n ∧ n ≤ 65535) : pick a b true true m n = both a b m n := by
  show both (Fx.sat a) (Fx.sat b) (Fx.sat m) (max (Fx.sat n) 0) = _
  rw [Fx.sat_id a ha.1 ha.2, Fx.sat_id b hb.1 hb.2, Fx.sat_id m hm.1 hm.2, Fx.sat_id n (by omega) (by omega)]
  have : max n 0 = n := by omega
  rw [this]
theorem one_pick {a : Int} (b m n : Int) (ha : -2147483648 ≤ a ∧ a ≤ 2147483647) : pick a b true false m n = (a, 1) := by
  show (Fx.sat a, (1 : Int)) = (a, 1)
  rw [Fx.sat_id a ha.1 ha.2]
theorem two_pick {b : Int} (a m n : Int) (ha : -2147483648 ≤ b ∧ b ≤ 2147483647) : pick a b false true m n = (b, 2) := by
  show (Fx.sat b, (2 : Int)) = (b, 2)
  rw [Fx.sat_id b ha.1 ha.2]
set_option maxRecDepth 100000 in
set_option maxHeartbeats 4000000 in
theorem PickBetween_walk (a : Int) (ha : -2147483648 ≤ a ∧ a ≤ 2147483647) (b : Int) (hb : -2147483648 ≤ b ∧ b ≤ 2147483647) (m : Int) (hm : -2147483648 ≤ m ∧ m ≤ 2147483647) (n : Int) (hn : 0 ≤ n ∧ n ≤ 65535) (o : Int) (ho : -2147483648 ≤ o ∧ o ≤ 2147483647) (w : World) : Calls Try.prog 6 #[.int .i32 a, .int .i32 b, .int .i32 m, .int .u16 n, .int .i32 o] w fun e w' => e = .returned (.bool true) ∧ Below w.heap.size w w' := by
  have CC := fun v s (h : both a b m n = (v, s)) => Lib.hid (fun W => pick_v ((both_pick ha hb hm hn).trans h) W)
  have D := Lib.hid (fun W => pick_v (one_pick o m n ha) W)
  have E := Lib.hid (fun W => pick_v (two_pick o m n hb) W)
  have HV := Lib.hid (Hv.nil w)
  obtain ⟨a1, a2⟩ := ha
  obtain ⟨b1, b2⟩ := hb
  obtain ⟨m1, m2⟩ := hm
  obtain ⟨n1, n2⟩ := hn
  obtain ⟨o1, o2⟩ := ho
  have hd := ap_mm a b
  rcases Int.le_total a b with hab | hab
  · have mx : max a b = b := by omega
    have mn : min a b = a := by omega
    rw [mx, mn] at hd
    rcases both_cases a b m n with ⟨h1, e⟩ | ⟨h1, h2, e⟩ | ⟨h1, h2, e⟩
    · have C := CC _ _ e
      have v1 : a ≤ (a + b) / 2 := by omega
      have v2 : (a + b) / 2 ≤ b := by omega
      have hf : decide (n < b - a) = false := decide_eq_false (by omega)
      generalize (a + b) / 2 = v at *
      clear CC e hd h1 
      go_enter Try.func6, Try.ntmps6
      go_wp2_with (first
        | (go_at_call 9; refine (awake_c _).mono ?_; rintro e W ⟨rfl, hb⟩; replace HV := Lib.hid (HV.out.grow hb); clear hb)
        | (go_at_call 10; (with_reducible refine (C.out _).mono ?_); rintro e W ⟨rfl, hb⟩; replace HV := Lib.hid (HV.out.grow hb); clear hb)
        | (go_at_call 10; (with_reducible refine (D.out _).mono ?_); rintro e W ⟨rfl, hb⟩; replace HV := Lib.hid (HV.out.grow hb); clear hb)
        | (go_at_call 10; (with_reducible refine (E.out _).mono ?_); rintro e W ⟨rfl, hb⟩; replace HV := Lib.hid (HV.out.grow hb); clear hb)
        | fail)
      all_goals
        go_ret
        exact ⟨rfl, HV.out.old⟩
    · have C := CC _ _ e
      have hf : decide (n < b - a) = true := decide_eq_true (by omega)
      have hl : (a == m) = false := by
        rw [beq_eq_false_iff_ne]
        rintro rfl
        rw [ap_self] at h2
        have := ap_nn b a
        omega
      have hk : ¬ a = m := beq_eq_false_iff_ne.1 hl
      clear CC e hd h1 h2
      go_enter Try.func6, Try.ntmps6
      go_wp2_with (first
        | (go_at_call 9; refine (awake_c _).mono ?_; rintro e W ⟨rfl, hb⟩; replace HV := Lib.hid (HV.out.grow hb); clear hb)
        | (go_at_call 10; (with_reducible refine (C.out _).mono ?_); rintro e W ⟨rfl, hb⟩; replace HV := Lib.hid (HV.out.grow hb); clear hb)
        | (go_at_call 10; (with_reducible refine (D.out _).mono ?_); rintro e W ⟨rfl, hb⟩; replace HV := Lib.hid (HV.out.grow hb); clear hb)
        | (go_at_call 10; (with_reducible refine (E.out _).mono ?_); rintro e W ⟨rfl, hb⟩; replace HV := Lib.hid (HV.out.grow hb); clear hb)
        | fail)
      all_goals
        go_ret
        exact ⟨rfl, HV.out.old⟩
    · have C := CC _ _ e
      have hf : decide (n < b - a) = true := decide_eq_true (by omega)
      clear CC e hd h1 h2
      go_enter Try.func6, Try.ntmps6
      go_wp2_with (first
        | (go_at_call 9; refine (awake_c _).mono ?_; rintro e W ⟨rfl, hb⟩; replace HV := Lib.hid (HV.out.grow hb); clear hb)
        | (go_at_call 10; (with_reducible refine (C.out _).mono ?_); rintro e W ⟨rfl, hb⟩; replace HV := Lib.hid (HV.out.grow hb); clear hb)
        | (go_at_call 10; (with_reducible refine (D.out _).mono ?_); rintro e W ⟨rfl, hb⟩; replace HV := Lib.hid (HV.out.grow hb); clear hb)
        | (go_at_call 10; (with_reducible refine (E.out _).mono ?_); rintro e W ⟨rfl, hb⟩; replace HV := Lib.hid (HV.out.grow hb); clear hb)
        | fail)
      all_goals
        go_ret
        exact ⟨rfl, HV.out.old⟩
  · have mx : max a b = a := by omega
    have mn : min a b = b := by omega
    rw [mx, mn] at hd
    rcases both_cases a b m n with ⟨h1, e⟩ | ⟨h1, h2, e⟩ | ⟨h1, h2, e⟩
    · have C := CC _ _ e
      have v1 : b ≤ (a + b) / 2 := by omega
      have v2 : (a + b) / 2 ≤ a := by omega
      have hf : decide (n < a - b) = false := decide_eq_false (by omega)
      generalize (a + b) / 2 = v at *
      clear CC e hd h1 
      go_enter Try.func6, Try.ntmps6
      go_wp2_with (first
        | (go_at_call 9; refine (awake_c _).mono ?_; rintro e W ⟨rfl, hb⟩; replace HV := Lib.hid (HV.out.grow hb); clear hb)
        | (go_at_call 10; (with_reducible refine (C.out _).mono ?_); rintro e W ⟨rfl, hb⟩; replace HV := Lib.hid (HV.out.grow hb); clear hb)
        | (go_at_call 10; (with_reducible refine (D.out _).mono ?_); rintro e W ⟨rfl, hb⟩; replace HV := Lib.hid (HV.out.grow hb); clear hb)
        | (go_at_call 10; (with_reducible refine (E.out _).mono ?_); rintro e W ⟨rfl, hb⟩; replace HV := Lib.hid (HV.out.grow hb); clear hb)
        | fail)
      all_goals
        go_ret
        exact ⟨rfl, HV.out.old⟩
    · have C := CC _ _ e
      have hf : decide (n < a - b) = true := decide_eq_true (by omega)
      have hl : (a == m) = false := by
        rw [beq_eq_false_iff_ne]
        rintro rfl
        rw [ap_self] at h2
        have := ap_nn b a
        omega
      have hk : ¬ a = m := beq_eq_false_iff_ne.1 hl
      clear CC e hd h1 h2
      go_enter Try.func6, Try.ntmps6
      go_wp2_with (first
        | (go_at_call 9; refine (awake_c _).mono ?_; rintro e W ⟨rfl, hb⟩; replace HV := Lib.hid (HV.out.grow hb); clear hb)
        | (go_at_call 10; (with_reducible refine (C.out _).mono ?_); rintro e W ⟨rfl, hb⟩; replace HV := Lib.hid (HV.out.grow hb); clear hb)
        | (go_at_call 10; (with_reducible refine (D.out _).mono ?_); rintro e W ⟨rfl, hb⟩; replace HV := Lib.hid (HV.out.grow hb); clear hb)
        | (go_at_call 10; (with_reducible refine (E.out _).mono ?_); rintro e W ⟨rfl, hb⟩; replace HV := Lib.hid (HV.out.grow hb); clear hb)
        | fail)
      all_goals
        go_ret
        exact ⟨rfl, HV.out.old⟩
    · have C := CC _ _ e
      have hf : decide (n < a - b) = true := decide_eq_true (by omega)
      clear CC e hd h1 h2
      go_enter Try.func6, Try.ntmps6
      go_wp2_with (first
        | (go_at_call 9; refine (awake_c _).mono ?_; rintro e W ⟨rfl, hb⟩; replace HV := Lib.hid (HV.out.grow hb); clear hb)
        | (go_at_call 10; (with_reducible refine (C.out _).mono ?_); rintro e W ⟨rfl, hb⟩; replace HV := Lib.hid (HV.out.grow hb); clear hb)
        | (go_at_call 10; (with_reducible refine (D.out _).mono ?_); rintro e W ⟨rfl, hb⟩; replace HV := Lib.hid (HV.out.grow hb); clear hb)
        | (go_at_call 10; (with_reducible refine (E.out _).mono ?_); rintro e W ⟨rfl, hb⟩; replace HV := Lib.hid (HV.out.grow hb); clear hb)
        | fail)
      all_goals
        go_ret
        exact ⟨rfl, HV.out.old⟩
end Pw
end Go.Proofs.Ytcbnfpnlkjkgaaa
