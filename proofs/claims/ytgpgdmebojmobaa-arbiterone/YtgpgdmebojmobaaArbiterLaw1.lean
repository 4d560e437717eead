/- The walks of ArbiterTells, ArbiterOne. -/
import Derived.Test.YtgpgdmebojmobaaArbiterAwake
import Derived.Test.YtgpgdmebojmobaaArbiterRef
import Derived.BigQuiet
namespace Go.Proofs.Ytgpgdmebojmobaa
namespace Aw
open Go.RowKit Lk

set_option maxRecDepth 100000 in
set_option maxHeartbeats 8000000 in
theorem ArbiterTells_walk (h t : Int) (a b r : Bool) (w : World) : Calls Try.prog 3 #[.int .i64 h, .int .i64 t, .bool a, .bool b, .bool r] w fun e w' => e = .returned (.bool true) ∧ Below w.heap.size w w' := by
  obtain ⟨n, hn⟩ : ∃ n, Av.nx h a b r = n := ⟨_, rfl⟩
  have C := Lib.hid (fun W => next_v hn W)
  have CM := Lib.hid (fun W => may_c hn t W)
  have CR := Lib.hid (fun W => rnext_c hn W)
  have AW := Lib.hid (fun W => awake_c W)
  have HB := Lib.hid (Below.refl w.heap.size w)
  clear hn
  go_enter Try.func3, Try.ntmps3
  go_wp2_with (first
    | (go_at_call 7; (with_reducible refine (AW.out _).mono ?_); rintro e W ⟨rfl, hb⟩; replace HB := Lib.hid (HB.out.trans (hb.mono HB.out.size)); clear hb)
    | (go_at_call 8; (with_reducible refine (CR.out _).mono ?_); rintro e W ⟨rfl, rfl⟩)
    | (go_at_call 9; (with_reducible refine (C.out _).mono ?_); rintro e W ⟨rfl, hb⟩; replace HB := Lib.hid (HB.out.trans (hb.mono HB.out.size)); clear hb)
    | (go_at_call 10; (with_reducible refine (CM.out _).mono ?_); rintro e W ⟨rfl, hb⟩; replace HB := Lib.hid (HB.out.trans (hb.mono HB.out.size)); clear hb)
    | fail)
  go_ret
  exact ⟨rfl, HB.out⟩

set_option maxRecDepth 100000 in
set_option maxHeartbeats 8000000 in
theorem one_go (h n : Int) (a b r : Bool) (hn : Av.nx h a b r = n) (w : World)
    (k : (h = 0 ∨ h = 1 ∨ ((h == 0) = false ∧ (h == 1) = false))) : Calls Try.prog 4 #[.int .i64 h, .bool a, .bool b, .bool r] w fun e w' => e = .returned (.bool true) ∧ Below w.heap.size w w' := by
  have C := Lib.hid (fun W => next_v hn W)
  have AW := Lib.hid (fun W => awake_c W)
  have HB := Lib.hid (Below.refl w.heap.size w)
  rcases k with rfl | rfl | ⟨k0, k1⟩
  · cases a <;> cases b <;> cases r
    all_goals
      obtain rfl := hn.symm
      simp only [show Av.nx 0 false false false = 2 from rfl, show Av.nx 0 false false true = 2 from rfl, show Av.nx 0 false true false = 1 from rfl, show Av.nx 0 false true true = 2 from rfl, show Av.nx 0 true false false = 0 from rfl, show Av.nx 0 true false true = 2 from rfl, show Av.nx 0 true true false = 0 from rfl, show Av.nx 0 true true true = 2 from rfl] at C
      clear hn
      go_enter Try.func4, Try.ntmps4
      go_wp2_with (first
        | go_big_skip
        | (go_at_call 7; (with_reducible refine (AW.out _).mono ?_); rintro e W ⟨rfl, hb⟩; replace HB := Lib.hid (HB.out.trans (hb.mono HB.out.size)); clear hb)
        | (go_at_call 9; (with_reducible refine (C.out _).mono ?_); rintro e W ⟨rfl, hb⟩; replace HB := Lib.hid (HB.out.trans (hb.mono HB.out.size)); clear hb)
        | fail)
      go_ret
      exact ⟨rfl, HB.out⟩
  · cases a <;> cases b <;> cases r
    all_goals
      obtain rfl := hn.symm
      simp only [show Av.nx 1 false false false = 2 from rfl, show Av.nx 1 false false true = 2 from rfl, show Av.nx 1 false true false = 1 from rfl, show Av.nx 1 false true true = 2 from rfl, show Av.nx 1 true false false = 0 from rfl, show Av.nx 1 true false true = 2 from rfl, show Av.nx 1 true true false = 1 from rfl, show Av.nx 1 true true true = 2 from rfl] at C
      clear hn
      go_enter Try.func4, Try.ntmps4
      go_wp2_with (first
        | go_big_skip
        | (go_at_call 7; (with_reducible refine (AW.out _).mono ?_); rintro e W ⟨rfl, hb⟩; replace HB := Lib.hid (HB.out.trans (hb.mono HB.out.size)); clear hb)
        | (go_at_call 9; (with_reducible refine (C.out _).mono ?_); rintro e W ⟨rfl, hb⟩; replace HB := Lib.hid (HB.out.trans (hb.mono HB.out.size)); clear hb)
        | fail)
      go_ret
      exact ⟨rfl, HB.out⟩
  · have N0 : ∀ a b r, Av.nx h a b r = if r || (!a && !b) then 2 else if a then 0 else 1 := by
      intro a b r
      have e0 : h ≠ 0 := by simpa using k0
      have e1 : h ≠ 1 := by simpa using k1
      simp [Av.nx, e0, e1]
    cases a <;> cases b <;> cases r
    all_goals
      rw [N0] at hn
      obtain rfl := hn.symm
      clear hn N0
      replace C := Lib.hid (fun W => C.out W)
      simp only [Bool.not_true, Bool.not_false, Bool.and_true, Bool.and_false, Bool.or_true, Bool.or_false, if_true, if_false, Bool.false_eq_true] at C
      go_enter Try.func4, Try.ntmps4
      go_wp2_with (first
        | go_big_skip
        | (go_at_call 7; (with_reducible refine (AW.out _).mono ?_); rintro e W ⟨rfl, hb⟩; replace HB := Lib.hid (HB.out.trans (hb.mono HB.out.size)); clear hb)
        | (go_at_call 9; (with_reducible refine (C.out _).mono ?_); rintro e W ⟨rfl, hb⟩; replace HB := Lib.hid (HB.out.trans (hb.mono HB.out.size)); clear hb)
        | fail)
      go_ret
      exact ⟨rfl, HB.out⟩

theorem ArbiterOne_walk (h : Int) (a b r : Bool) (w : World) : Calls Try.prog 4 #[.int .i64 h, .bool a, .bool b, .bool r] w fun e w' => e = .returned (.bool true) ∧ Below w.heap.size w w' :=
  one_go h _ a b r rfl w (by
    by_cases h0 : h = 0
    · exact .inl h0
    by_cases h1 : h = 1
    · exact .inr (.inl h1)
    exact .inr (.inr ⟨by simpa using h0, by simpa using h1⟩))
end Aw
end Go.Proofs.Ytgpgdmebojmobaa
