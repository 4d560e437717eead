/- The walks of PickNames, PickTells and PickSame. -/
import Derived.Test.YtcbnfpnlkjkgaaaPickPick
import Derived.Test.YtcbnfpnlkjkgaaaPickRef
namespace Go.Proofs.Ytcbnfpnlkjkgaaa
namespace Pw
open Go.RowKit Pc Lk FixC

theorem pick_v {a b : Int} {ga gb : Bool} {m n v s : Int} (h : pick a b ga gb m n = (v, s)) (w : World) : Calls Try.prog 10 #[.int .i64 a, .int .i64 b, .bool ga, .bool gb, .int .i64 m, .int .i64 n] w fun e w' => e = .returned (.tuple #[.int .i64 v, .int .i64 s]) ∧ Below w.heap.size w w' := by
  have := pick_c a b ga gb m n w
  rw [h] at this
  exact this

theorem rpick_v {a b : Int} {ga gb : Bool} {m n v s : Int} (h : pick a b ga gb m n = (v, s)) (w : World) : Calls Try.prog 11 #[.int .i64 a, .int .i64 b, .bool ga, .bool gb, .int .i64 m, .int .i64 n] w fun e w' => e = .returned (.tuple #[.int .i64 v, .int .i64 s]) ∧ w = w' := by
  have := rpick_c a b ga gb m n w
  rw [h] at this
  exact this

set_option maxRecDepth 100000 in
theorem awake_c (w : World) : Calls Try.prog 9 #[] w fun e w' => e = .returned (.bool true) ∧ Below w.heap.size w w' := by
  have C1 := Lib.hid (fun W => pick_v (a := 10) (b := 13) (ga := true) (gb := true) (m := 0) (n := 5) (v := 11) (s := 3) (by decide) W)
  have C2 := Lib.hid (fun W => pick_v (a := 10) (b := 13) (ga := true) (gb := true) (m := 0) (n := 2) (v := 10) (s := 1) (by decide) W)
  have C3 := Lib.hid (fun W => pick_v (a := 10) (b := 13) (ga := false) (gb := true) (m := 0) (n := 5) (v := 13) (s := 2) (by decide) W)
  have C4 := Lib.hid (fun W => pick_v (a := 10) (b := 13) (ga := false) (gb := false) (m := 9) (n := 5) (v := 9) (s := 0) (by decide) W)
  have HV := Lib.hid (Hv.nil w)
  go_enter Try.func9, Try.ntmps9
  go_wp2_with (first
    | (go_at_call 10; (with_reducible refine (C1.out _).mono ?_); rintro e W ⟨rfl, hb⟩; replace HV := Lib.hid (HV.out.grow hb); clear hb)
    | (go_at_call 10; (with_reducible refine (C2.out _).mono ?_); rintro e W ⟨rfl, hb⟩; replace HV := Lib.hid (HV.out.grow hb); clear hb)
    | (go_at_call 10; (with_reducible refine (C3.out _).mono ?_); rintro e W ⟨rfl, hb⟩; replace HV := Lib.hid (HV.out.grow hb); clear hb)
    | (go_at_call 10; (with_reducible refine (C4.out _).mono ?_); rintro e W ⟨rfl, hb⟩; replace HV := Lib.hid (HV.out.grow hb); clear hb)
    | fail)
  go_ret
  exact ⟨rfl, HV.out.old⟩

set_option maxRecDepth 100000 in
theorem PickNames_walk (w : World) : Calls Try.prog 3 #[] w fun e w' => e = .returned (.bool true) ∧ Below w.heap.size w w' := by
  have HV := Lib.hid (Hv.nil w)
  go_enter Try.func3, Try.ntmps3
  go_wp2_with (first
    | (go_at_call 9; refine (awake_c _).mono ?_; rintro e W ⟨rfl, hb⟩; replace HV := Lib.hid (HV.out.grow hb); clear hb)
    | fail)
  go_ret
  exact ⟨rfl, HV.out.old⟩

set_option maxRecDepth 100000 in
theorem PickTells_walk (a b : Int) (ga gb : Bool) (m n : Int) (w : World) : Calls Try.prog 4 #[.int .i64 a, .int .i64 b, .bool ga, .bool gb, .int .i64 m, .int .i64 n] w fun e w' => e = .returned (.bool true) ∧ Below w.heap.size w w' := by
  obtain ⟨v, s, h⟩ : ∃ v s, pick a b ga gb m n = (v, s) := ⟨_, _, rfl⟩
  have C := Lib.hid (fun W => pick_v h W)
  have D := Lib.hid (fun W => rpick_v h W)
  clear h
  have HV := Lib.hid (Hv.nil w)
  go_enter Try.func4, Try.ntmps4
  go_wp2_with (first
    | (go_at_call 9; refine (awake_c _).mono ?_; rintro e W ⟨rfl, hb⟩; replace HV := Lib.hid (HV.out.grow hb); clear hb)
    | (go_at_call 10; (with_reducible refine (C.out _).mono ?_); rintro e W ⟨rfl, hb⟩; replace HV := Lib.hid (HV.out.grow hb); clear hb)
    | (go_at_call 11; (with_reducible refine (D.out _).mono ?_); rintro e W ⟨rfl, rfl⟩)
    | fail)
  go_ret
  exact ⟨rfl, HV.out.old⟩

theorem same_pick {a m : Int} (n : Int) (ha : -2147483648 ≤ a ∧ a ≤ 2147483647) : pick a a true true m n = (a, 3) := by
  show both (Fx.sat a) (Fx.sat a) (Fx.sat m) (max (Fx.sat n) 0) = (a, 3)
  rw [Fx.sat_id a ha.1 ha.2, both_near (by rw [ap_self]; omega)]
  have : (a + a) / 2 = a := by omega
  rw [this]
theorem none_pick {m : Int} (a b n : Int) (hm : -2147483648 ≤ m ∧ m ≤ 2147483647) : pick a b false false m n = (m, 0) := by
  show (Fx.sat m, (0 : Int)) = (m, 0)
  rw [Fx.sat_id m hm.1 hm.2]
set_option maxRecDepth 100000 in
theorem PickSame_walk (a : Int) (ha : -2147483648 ≤ a ∧ a ≤ 2147483647) (m : Int) (hm : -2147483648 ≤ m ∧ m ≤ 2147483647) (n b : Int) (hb : -2147483648 ≤ b ∧ b ≤ 2147483647) (w : World) : Calls Try.prog 8 #[.int .i32 a, .int .i32 m, .int .i64 n, .int .i32 b] w fun e w' => e = .returned (.bool true) ∧ Below w.heap.size w w' := by
  have C := Lib.hid (fun W => pick_v (same_pick (m := m) n ha) W)
  have D := Lib.hid (fun W => pick_v (none_pick a b n hm) W)
  have HV := Lib.hid (Hv.nil w)
  obtain ⟨a1, a2⟩ := ha
  obtain ⟨m1, m2⟩ := hm
  obtain ⟨b1, b2⟩ := hb
  go_enter Try.func8, Try.ntmps8
  go_wp2_with (first
    | (go_at_call 9; refine (awake_c _).mono ?_; rintro e W ⟨rfl, hb⟩; replace HV := Lib.hid (HV.out.grow hb); clear hb)
    | (go_at_call 10; (with_reducible refine (C.out _).mono ?_); rintro e W ⟨rfl, hb⟩; replace HV := Lib.hid (HV.out.grow hb); clear hb)
    | (go_at_call 10; (with_reducible refine (D.out _).mono ?_); rintro e W ⟨rfl, hb⟩; replace HV := Lib.hid (HV.out.grow hb); clear hb)
    | fail)
  go_ret
  exact ⟨rfl, HV.out.old⟩
end Pw
end Go.Proofs.Ytcbnfpnlkjkgaaa
