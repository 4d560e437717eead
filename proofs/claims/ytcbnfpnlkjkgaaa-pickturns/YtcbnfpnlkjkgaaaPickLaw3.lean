/- The walk of PickTurns. -/
import Derived.Test.YtcbnfpnlkjkgaaaPickLaw2
namespace Go.Proofs.Ytcbnfpnlkjkgaaa
namespace Pw
open Go.RowKit Pc Lk FixC

set_option maxRecDepth 100000 in
set_option maxHeartbeats 4000000 in
theorem PickTurns_walk (a : Int) (ha : -2147483648 ≤ a ∧ a ≤ 2147483647) (b : Int) (hb : -2147483648 ≤ b ∧ b ≤ 2147483647) (ga gb : Bool) (m : Int) (hm : -2147483648 ≤ m ∧ m ≤ 2147483647) (n : Int) (hn : 0 ≤ n ∧ n ≤ 65535) (w : World) : Calls Try.prog 7 #[.int .i32 a, .int .i32 b, .bool ga, .bool gb, .int .i32 m, .int .u16 n] w fun e w' => e = .returned (.bool true) ∧ Below w.heap.size w w' := by
  have CC := fun v s (h : both a b m n = (v, s)) => Lib.hid (fun W => pick_v ((both_pick ha hb hm hn).trans h) W)
  have DD := fun v s (h : both b a m n = (v, s)) => Lib.hid (fun W => pick_v ((both_pick hb ha hm hn).trans h) W)
  have HV := Lib.hid (Hv.nil w)
  have C1 := Lib.hid (fun W => pick_v (one_pick b m n ha) W)
  have D1 := Lib.hid (fun W => pick_v (two_pick b m n ha) W)
  have C2 := Lib.hid (fun W => pick_v (two_pick a m n hb) W)
  have D2 := Lib.hid (fun W => pick_v (one_pick a m n hb) W)
  have C0 := Lib.hid (fun W => pick_v (none_pick a b n hm) W)
  have D0 := Lib.hid (fun W => pick_v (none_pick b a n hm) W)
  obtain ⟨a1, a2⟩ := ha
  obtain ⟨b1, b2⟩ := hb
  obtain ⟨m1, m2⟩ := hm
  obtain ⟨n1, n2⟩ := hn
  obtain ⟨p, hp⟩ : ∃ p, max a m = p := ⟨_, rfl⟩
  obtain ⟨q, hq⟩ : ∃ q, min a m = q := ⟨_, rfl⟩
  obtain ⟨r, hr⟩ : ∃ r, max b m = r := ⟨_, rfl⟩
  obtain ⟨t, ht⟩ : ∃ t, min b m = t := ⟨_, rfl⟩
  have hd := ap_mm a m
  have hd' := ap_mm b m
  rw [hp, hq] at hd
  rw [hr, ht] at hd'
  have p1 : -2147483648 ≤ p := by omega
  have p2 : p ≤ 2147483647 := by omega
  have q1 : -2147483648 ≤ q := by omega
  have q2 : q ≤ 2147483647 := by omega
  have r1 : -2147483648 ≤ r := by omega
  have r2 : r ≤ 2147483647 := by omega
  have t1 : -2147483648 ≤ t := by omega
  have t2 : t ≤ 2147483647 := by omega
  have hc := ap_comm a b
  by_cases hg : ga = true ∧ gb = true
  · obtain ⟨rfl, rfl⟩ := hg
    rcases both_cases a b m n with ⟨h1, e⟩ | ⟨h1, h2, e⟩ | ⟨h1, h2, e⟩
    · have C := CC _ _ e
      have D := DD _ _ (both_near (by omega))
      have ec : (b + a) / 2 = (a + b) / 2 := by omega
      rw [ec] at D
      clear CC DD e ec h1 C0 D0 C1 D1 C2 D2 hd hd' hc
      generalize (a + b) / 2 = v at *
      go_enter Try.func7, Try.ntmps7
      go_wp2_with (first
        | (go_at_call 9; refine (awake_c _).mono ?_; rintro e W ⟨rfl, hb⟩; replace HV := Lib.hid (HV.out.grow hb); clear hb)
        | (go_at_call 10; (with_reducible refine (C.out _).mono ?_); rintro e W ⟨rfl, hb⟩; replace HV := Lib.hid (HV.out.grow hb); clear hb)
        | (go_at_call 10; (with_reducible refine (D.out _).mono ?_); rintro e W ⟨rfl, hb⟩; replace HV := Lib.hid (HV.out.grow hb); clear hb)
        | fail)
      all_goals
        go_ret
        exact ⟨rfl, HV.out.old⟩
    · have C := CC _ _ e
      have D := DD _ _ (both_one (by omega) (by omega))
      have hk : (p - q == r - t) = false := by rw [beq_eq_false_iff_ne]; omega
      clear CC DD e h1 h2 C0 D0 C1 D1 C2 D2 hd hd' hc
      go_enter Try.func7, Try.ntmps7
      go_wp2_with (first
        | (go_at_call 9; refine (awake_c _).mono ?_; rintro e W ⟨rfl, hb⟩; replace HV := Lib.hid (HV.out.grow hb); clear hb)
        | (go_at_call 10; (with_reducible refine (C.out _).mono ?_); rintro e W ⟨rfl, hb⟩; replace HV := Lib.hid (HV.out.grow hb); clear hb)
        | (go_at_call 10; (with_reducible refine (D.out _).mono ?_); rintro e W ⟨rfl, hb⟩; replace HV := Lib.hid (HV.out.grow hb); clear hb)
        | fail)
      all_goals
        go_ret
        exact ⟨rfl, HV.out.old⟩
    · have C := CC _ _ e
      by_cases hl : ap a m = ap b m
      · have D := DD _ _ (both_one (by omega) (by omega))
        have hk : (p - q == r - t) = true := by rw [beq_iff_eq]; omega
        clear CC DD e h1 h2 C0 D0 C1 D1 C2 D2 hd hd' hc hl
        go_enter Try.func7, Try.ntmps7
        go_wp2_with (first
          | (go_at_call 9; refine (awake_c _).mono ?_; rintro e W ⟨rfl, hb⟩; replace HV := Lib.hid (HV.out.grow hb); clear hb)
          | (go_at_call 10; (with_reducible refine (C.out _).mono ?_); rintro e W ⟨rfl, hb⟩; replace HV := Lib.hid (HV.out.grow hb); clear hb)
          | (go_at_call 10; (with_reducible refine (D.out _).mono ?_); rintro e W ⟨rfl, hb⟩; replace HV := Lib.hid (HV.out.grow hb); clear hb)
          | fail)
        all_goals
          go_ret
          exact ⟨rfl, HV.out.old⟩
      · have D := DD _ _ (both_two (by omega) (by omega))
        have hk : (p - q == r - t) = false := by rw [beq_eq_false_iff_ne]; omega
        clear CC DD e h1 h2 C0 D0 C1 D1 C2 D2 hd hd' hc hl
        go_enter Try.func7, Try.ntmps7
        go_wp2_with (first
          | (go_at_call 9; refine (awake_c _).mono ?_; rintro e W ⟨rfl, hb⟩; replace HV := Lib.hid (HV.out.grow hb); clear hb)
          | (go_at_call 10; (with_reducible refine (C.out _).mono ?_); rintro e W ⟨rfl, hb⟩; replace HV := Lib.hid (HV.out.grow hb); clear hb)
          | (go_at_call 10; (with_reducible refine (D.out _).mono ?_); rintro e W ⟨rfl, hb⟩; replace HV := Lib.hid (HV.out.grow hb); clear hb)
          | fail)
        all_goals
          go_ret
          exact ⟨rfl, HV.out.old⟩
  · clear CC DD hd hd' hc
    cases ga <;> cases gb
    · clear hg
      go_enter Try.func7, Try.ntmps7
      go_wp2_with (first
        | (go_at_call 9; refine (awake_c _).mono ?_; rintro e W ⟨rfl, hb⟩; replace HV := Lib.hid (HV.out.grow hb); clear hb)
        | (go_at_call 10; (with_reducible refine (C0.out _).mono ?_); rintro e W ⟨rfl, hb⟩; replace HV := Lib.hid (HV.out.grow hb); clear hb)
        | (go_at_call 10; (with_reducible refine (D0.out _).mono ?_); rintro e W ⟨rfl, hb⟩; replace HV := Lib.hid (HV.out.grow hb); clear hb)
        | fail)
      all_goals
        go_ret
        exact ⟨rfl, HV.out.old⟩
    · clear hg
      go_enter Try.func7, Try.ntmps7
      go_wp2_with (first
        | (go_at_call 9; refine (awake_c _).mono ?_; rintro e W ⟨rfl, hb⟩; replace HV := Lib.hid (HV.out.grow hb); clear hb)
        | (go_at_call 10; (with_reducible refine (C2.out _).mono ?_); rintro e W ⟨rfl, hb⟩; replace HV := Lib.hid (HV.out.grow hb); clear hb)
        | (go_at_call 10; (with_reducible refine (D2.out _).mono ?_); rintro e W ⟨rfl, hb⟩; replace HV := Lib.hid (HV.out.grow hb); clear hb)
        | fail)
      all_goals
        go_ret
        exact ⟨rfl, HV.out.old⟩
    · clear hg
      go_enter Try.func7, Try.ntmps7
      go_wp2_with (first
        | (go_at_call 9; refine (awake_c _).mono ?_; rintro e W ⟨rfl, hb⟩; replace HV := Lib.hid (HV.out.grow hb); clear hb)
        | (go_at_call 10; (with_reducible refine (C1.out _).mono ?_); rintro e W ⟨rfl, hb⟩; replace HV := Lib.hid (HV.out.grow hb); clear hb)
        | (go_at_call 10; (with_reducible refine (D1.out _).mono ?_); rintro e W ⟨rfl, hb⟩; replace HV := Lib.hid (HV.out.grow hb); clear hb)
        | fail)
      all_goals
        go_ret
        exact ⟨rfl, HV.out.old⟩
    · exact absurd ⟨rfl, rfl⟩ hg
end Pw
end Go.Proofs.Ytcbnfpnlkjkgaaa
