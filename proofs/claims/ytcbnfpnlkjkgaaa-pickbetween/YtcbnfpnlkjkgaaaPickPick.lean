/- Contracts of nearer and Pick. -/
import Derived.Test.YtcbnfpnlkjkgaaaPickCalls
import Derived.BigQuiet
import Derived.Deep.RegionHeld3
namespace Go.Proofs.Ytcbnfpnlkjkgaaa
namespace Pw
open Go.RowKit Pc Lk FixC

theorem info_tk : (Try.prog.info? 38).map (·.size) = some 2 := by kernel_rfl
abbrev tob (x y : Bool) : Obj := .cells #[.bool x, .bool y] 38 (0, 0)
theorem nearer_c {a b m : Int} {t u : Bool} (ha : -2147483648 ≤ a ∧ a ≤ 2147483647) (hb : -2147483648 ≤ b ∧ b ≤ 2147483647) (hm : -2147483648 ≤ m ∧ m ≤ 2147483647) (ht : decide (ap a m ≤ ap b m) = t) (hu : (!t) = u) (w : World) : Calls Try.prog 16 #[.int .i64 a, .int .i64 b, .int .i64 m] w fun e w' => e = .returned (.agg #[.bool t, .bool u]) ∧ w' = w.alloc (tob t u) := by
  have C1 := Lib.hid (fun W => apart_c ha hm W)
  have C2 := Lib.hid (fun W => apart_c hb hm W)
  clear ha hb hm
  generalize ap a m = x at *
  generalize ap b m = y at *
  subst hu
  subst ht
  go_enter Try.func16, Try.ntmps16
  go_wp2_with (first
    | (go_at_call 15; (with_reducible refine (C1.out _).mono ?_); rintro e W ⟨rfl, rfl⟩)
    | (go_at_call 15; (with_reducible refine (C2.out _).mono ?_); rintro e W ⟨rfl, rfl⟩)
    | fail)
  refine bodyPost_ret (results_cell_row rfl _ _ w.heap.size 38 _ _ _ rfl (heap_alloc_last w _) Try.underlying38 rfl info_tk) rfl ?_
  exact ⟨rfl, rfl⟩

theorem near_eq (n : Int) : Fx.clamp n 0 2147483647 = max (Fx.sat n) 0 := by
  have h1 := Fx.sat_in n
  have h2 : Fx.sat 0 = 0 := by decide
  have h3 : Fx.sat 2147483647 = 2147483647 := by decide
  unfold Fx.clamp
  rw [h2, h3]
  unfold Fx.bound
  (repeat' split) <;> omega
theorem two_t (w : World) (o p : Obj) : Below w.heap.size w ((w.alloc o).alloc p) := ((Hv.nil w).made o).alloc p |>.old
theorem three_t (w : World) (o p q : Obj) : Below w.heap.size w (((w.alloc o).alloc p).alloc q) := (((Hv.nil w).made o).alloc p).alloc q |>.old
set_option maxRecDepth 100000 in
set_option maxHeartbeats 4000000 in
theorem pick_c (a b : Int) (ga gb : Bool) (m n : Int) (w : World) : Calls Try.prog 10 #[.int .i64 a, .int .i64 b, .bool ga, .bool gb, .int .i64 m, .int .i64 n] w fun e w' => e = .returned (.tuple #[.int .i64 (pick a b ga gb m n).1, .int .i64 (pick a b ga gb m n).2]) ∧ Below w.heap.size w w' := by
  have hx := Fx.sat_in a
  have hy := Fx.sat_in b
  have hm := Fx.sat_in m
  have CN := Lib.hid (fun W => near_eq n ▸ clamp_c n 0 2147483647 W)
  have CA := Lib.hid (fun W => sat_c a W)
  have CB := Lib.hid (fun W => sat_c b W)
  have CM := Lib.hid (fun W => sat_c m W)
  have e : pick a b ga gb m n = (match ga, gb with | true, true => both (Fx.sat a) (Fx.sat b) (Fx.sat m) (max (Fx.sat n) 0) | true, false => (Fx.sat a, 1) | false, true => (Fx.sat b, 2) | false, false => (Fx.sat m, 0)) := rfl
  rw [e]
  clear e
  generalize Fx.sat a = x at *
  generalize Fx.sat b = y at *
  generalize Fx.sat m = z at *
  generalize max (Fx.sat n) 0 = r at *
  have CP := Lib.hid (fun W => apart_c hx hy W)
  have CE := Lib.hid (fun W => mean_c hx hy W)
  have BO := Lib.hid (two_t w)
  have B3 := Lib.hid (three_t w)
  cases ga <;> cases gb
  · clear hx hy hm
    go_enter Try.func10, Try.ntmps10
    go_wp2_with (first
      | (go_at_call 13; (with_reducible refine (CA.out _).mono ?_); rintro e w' ⟨rfl, rfl⟩)
      | (go_at_call 13; (with_reducible refine (CB.out _).mono ?_); rintro e w' ⟨rfl, rfl⟩)
      | (go_at_call 13; (with_reducible refine (CM.out _).mono ?_); rintro e w' ⟨rfl, rfl⟩)
      | (go_at_call 14; (with_reducible refine (CN.out _).mono ?_); rintro e w' ⟨rfl, rfl⟩)
      | fail)
    go_ret2
    exact ⟨rfl, BO.out _ _⟩
  · clear hx hy hm
    go_enter Try.func10, Try.ntmps10
    go_wp2_with (first
      | (go_at_call 13; (with_reducible refine (CA.out _).mono ?_); rintro e w' ⟨rfl, rfl⟩)
      | (go_at_call 13; (with_reducible refine (CB.out _).mono ?_); rintro e w' ⟨rfl, rfl⟩)
      | (go_at_call 13; (with_reducible refine (CM.out _).mono ?_); rintro e w' ⟨rfl, rfl⟩)
      | (go_at_call 14; (with_reducible refine (CN.out _).mono ?_); rintro e w' ⟨rfl, rfl⟩)
      | fail)
    go_ret2
    exact ⟨rfl, BO.out _ _⟩
  · clear hx hy hm
    go_enter Try.func10, Try.ntmps10
    go_wp2_with (first
      | (go_at_call 13; (with_reducible refine (CA.out _).mono ?_); rintro e w' ⟨rfl, rfl⟩)
      | (go_at_call 13; (with_reducible refine (CB.out _).mono ?_); rintro e w' ⟨rfl, rfl⟩)
      | (go_at_call 13; (with_reducible refine (CM.out _).mono ?_); rintro e w' ⟨rfl, rfl⟩)
      | (go_at_call 14; (with_reducible refine (CN.out _).mono ?_); rintro e w' ⟨rfl, rfl⟩)
      | fail)
    go_ret2
    exact ⟨rfl, BO.out _ _⟩
  · rcases both_cases x y z r with ⟨h1, e⟩ | ⟨h1, h2, e⟩ | ⟨h1, h2, e⟩
    · have h : decide (r < ap x y) = false := decide_eq_false (by omega)
      rw [e]
      clear e h1 hx hy hm
      generalize ap x y = d at *
      go_enter Try.func10, Try.ntmps10
      go_wp2_with (first
      | (go_at_call 13; (with_reducible refine (CA.out _).mono ?_); rintro e w' ⟨rfl, rfl⟩)
      | (go_at_call 13; (with_reducible refine (CB.out _).mono ?_); rintro e w' ⟨rfl, rfl⟩)
      | (go_at_call 13; (with_reducible refine (CM.out _).mono ?_); rintro e w' ⟨rfl, rfl⟩)
      | (go_at_call 14; (with_reducible refine (CN.out _).mono ?_); rintro e w' ⟨rfl, rfl⟩)
      | (go_at_call 15; (with_reducible refine (CP.out _).mono ?_); rintro e w' ⟨rfl, rfl⟩)
      | (go_at_call 17; (with_reducible refine (CE.out _).mono ?_); rintro e w' ⟨rfl, rfl⟩)
      | fail)
      go_ret2
      exact ⟨rfl, BO.out _ _⟩
    · have h : decide (r < ap x y) = true := decide_eq_true (by omega)
      have CX := Lib.hid (fun W => nearer_c (t := false) (u := true) hx hy hm (decide_eq_false (by omega)) rfl W)
      rw [e]
      clear e h1 h2 hx hy hm
      generalize ap x y = d at *
      go_enter Try.func10, Try.ntmps10
      go_wp2_with (first
      | (go_at_call 13; (with_reducible refine (CA.out _).mono ?_); rintro e w' ⟨rfl, rfl⟩)
      | (go_at_call 13; (with_reducible refine (CB.out _).mono ?_); rintro e w' ⟨rfl, rfl⟩)
      | (go_at_call 13; (with_reducible refine (CM.out _).mono ?_); rintro e w' ⟨rfl, rfl⟩)
      | (go_at_call 14; (with_reducible refine (CN.out _).mono ?_); rintro e w' ⟨rfl, rfl⟩)
      | (go_at_call 15; (with_reducible refine (CP.out _).mono ?_); rintro e w' ⟨rfl, rfl⟩)
      | (go_at_call 16; (with_reducible refine (CX.out _).mono ?_); rintro e w' ⟨rfl, rfl⟩)
      | fail)
      go_ret2
      exact ⟨rfl, B3.out _ _ _⟩
    · have h : decide (r < ap x y) = true := decide_eq_true (by omega)
      have CX := Lib.hid (fun W => nearer_c (t := true) (u := false) hx hy hm (decide_eq_true (by omega)) rfl W)
      rw [e]
      clear e h1 h2 hx hy hm
      generalize ap x y = d at *
      go_enter Try.func10, Try.ntmps10
      go_wp2_with (first
      | (go_at_call 13; (with_reducible refine (CA.out _).mono ?_); rintro e w' ⟨rfl, rfl⟩)
      | (go_at_call 13; (with_reducible refine (CB.out _).mono ?_); rintro e w' ⟨rfl, rfl⟩)
      | (go_at_call 13; (with_reducible refine (CM.out _).mono ?_); rintro e w' ⟨rfl, rfl⟩)
      | (go_at_call 14; (with_reducible refine (CN.out _).mono ?_); rintro e w' ⟨rfl, rfl⟩)
      | (go_at_call 15; (with_reducible refine (CP.out _).mono ?_); rintro e w' ⟨rfl, rfl⟩)
      | (go_at_call 16; (with_reducible refine (CX.out _).mono ?_); rintro e w' ⟨rfl, rfl⟩)
      | fail)
      go_ret2
      exact ⟨rfl, B3.out _ _ _⟩
end Pw
end Go.Proofs.Ytcbnfpnlkjkgaaa
