/- A packet as a value; whether it may be: link.Check, and the document's. -/
import Derived.Test.YtegjkbebnnpdcaaLinkMath
import Derived.Test.YtegjkbebnnpdcaaCrcAppend
import Derived.Laws.StructEq
namespace Go.Proofs.Ytegjkbebnnpdcaa
namespace Lw
open Go.RowKit

/-- A packet's cells. -/
abbrev pc (p : Ln.Pk) : Array Value := #[.int .i64 p.f, .int .i64 p.n, .int .i64 p.a, .int .i64 p.b, .int .i64 p.c, .int .i64 p.d, .int .i64 p.e, .bool p.ga, .bool p.gb, .bool p.gc, .bool p.gd, .bool p.ge, .int .i64 p.m, .int .i64 p.s]

theorem within_c (b : Bool) (n lo hi : Int) (hb : Ln.inB n lo hi = b) (w : World) : Calls Try.prog 22 #[.int .i64 n, .int .i64 lo, .int .i64 hi] w fun e w' => e = .returned (.bool b) ∧ w = w' := by
  subst hb
  unfold Ln.inB
  cases h1 : decide (lo ≤ n)
  · go_enter Try.func22, Try.ntmps22
    go_wp2_with fail
    go_ret
    exact ⟨rfl, rfl⟩
  · go_enter Try.func22, Try.ntmps22
    go_wp2_with fail
    go_ret
    exact ⟨rfl, rfl⟩

theorem ix0 (t : TypeId) (ht : t = 23 ∨ t = 24) (a b c d e : Value) (w : World) : (Instr.index t (.agg #[a, b, c, d, e]) (.int .i64 0)).run Try.prog w = .ok a w := by
  rcases ht with rfl | rfl <;> rfl
theorem ix1 (t : TypeId) (ht : t = 23 ∨ t = 24) (a b c d e : Value) (w : World) : (Instr.index t (.agg #[a, b, c, d, e]) (.int .i64 1)).run Try.prog w = .ok b w := by
  rcases ht with rfl | rfl <;> rfl
theorem ix2 (t : TypeId) (ht : t = 23 ∨ t = 24) (a b c d e : Value) (w : World) : (Instr.index t (.agg #[a, b, c, d, e]) (.int .i64 2)).run Try.prog w = .ok c w := by
  rcases ht with rfl | rfl <;> rfl
theorem ix3 (t : TypeId) (ht : t = 23 ∨ t = 24) (a b c d e : Value) (w : World) : (Instr.index t (.agg #[a, b, c, d, e]) (.int .i64 3)).run Try.prog w = .ok d w := by
  rcases ht with rfl | rfl <;> rfl
theorem ix4 (t : TypeId) (ht : t = 23 ∨ t = 24) (a b c d e : Value) (w : World) : (Instr.index t (.agg #[a, b, c, d, e]) (.int .i64 4)).run Try.prog w = .ok e w := by
  rcases ht with rfl | rfl <;> rfl

/-- Whether the packet may be, as far as its first k values. -/
def vl (p : Ln.Pk) : Nat → Int
  | 0 => p.a | 1 => p.b | 2 => p.c | 3 => p.d | _ => p.e
def upto (p : Ln.Pk) : Nat → Bool
  | 0 => Ln.headB p
  | k + 1 => upto p k && Ln.val (vl p k)
theorem upto5 (p : Ln.Pk) : upto p 5 = Ln.okB p := rfl

set_option maxRecDepth 100000 in
set_option maxHeartbeats 4000000 in
theorem check_b (b : Bool) (p : Ln.Pk) (hb : Ln.okB p = b) (w : World) : Calls Try.prog 12 #[.agg (pc p)] w fun e w' => e = .returned (.int .i64 (if b then 0 else 1)) ∧ Below w.heap.size w w' := by
  have HE := Lib.hid hb
  clear hb
  have HB : Hid (Below w.heap.size w (w.alloc (.cells (pc p) 26))) := (Below.refl _ _).alloc (Nat.le_refl _) _
  have HH : Hid (upto p 0 = Ln.headB p) := rfl
  have h0 : (Ln.headB p) = (Ln.inB p.f 0 1 && Ln.inB p.n 0 4294967295 && Ln.inB p.m 0 15 && Ln.inB p.s 0 255) := rfl
  rw [h0] at HH
  clear h0
  have i0 := ix0 23 (.inl rfl)
  have i1 := ix1 23 (.inl rfl)
  have i2 := ix2 23 (.inl rfl)
  have i3 := ix3 23 (.inl rfl)
  have i4 := ix4 23 (.inl rfl)
  dsimp only [pc] at *
  have hc : Ln.inB p.f 0 1 = false ∨ (Ln.inB p.f 0 1 = true ∧ Ln.inB p.n 0 4294967295 = false) ∨ (Ln.inB p.f 0 1 = true ∧ Ln.inB p.n 0 4294967295 = true ∧ Ln.inB p.m 0 15 = false) ∨ (Ln.inB p.f 0 1 = true ∧ Ln.inB p.n 0 4294967295 = true ∧ Ln.inB p.m 0 15 = true ∧ Ln.inB p.s 0 255 = false) ∨ (Ln.inB p.f 0 1 = true ∧ Ln.inB p.n 0 4294967295 = true ∧ Ln.inB p.m 0 15 = true ∧ Ln.inB p.s 0 255 = true) := by
    cases Ln.inB p.f 0 1 <;> cases Ln.inB p.n 0 4294967295 <;> cases Ln.inB p.m 0 15 <;> cases Ln.inB p.s 0 255 <;> simp
  have h5 : upto p 5 = Ln.okB p := rfl
  rw [HE.out] at h5
  have H5 := Lib.hid h5
  clear h5 HE
  go_enter Try.func12, Try.ntmps12
  rcases hc with h1 | ⟨h1, h2⟩ | ⟨h1, h2, h3⟩ | ⟨h1, h2, h3, h4⟩ | ⟨h1, h2, h3, h4⟩
  all_goals
    go_wp2_with (first | (go_at_call 22; refine (within_c _ _ _ _ (by assumption) _).mono ?_; rintro e w' ⟨rfl, rfl⟩))
    go_loop [3, 26] (fun c i => ∃ k : Nat, k ≤ 5 ∧ i = .int .i64 k ∧ c = .bool (upto p k)) (fun _ i => 5 - (intOf i).toNat)
    case atStart =>
      refine ⟨0, by decide, rfl, ?_⟩
      rw [HH.out]
      simp only [*, Bool.false_and, Bool.and_false, Bool.and_true]
    case round =>
      obtain ⟨k, hk, rfl, rfl⟩ := hrel
      clear HH
      by_cases hlt : k < 5
      · have hk5 : k = 0 ∨ k = 1 ∨ k = 2 ∨ k = 3 ∨ k = 4 := by omega
        rcases hk5 with rfl | rfl | rfl | rfl | rfl
        · have E : Hid (upto p 1 = (upto p 0 && Ln.inB p.a (-2147483648) 2147483647)) := rfl
          cases hy : upto p 0
          · rw [hy] at E
            go_wp2_with fail
            go_round
            case rel => exact ⟨1, by decide, rfl, by rw [E.out]; rfl⟩
            case measure => simp [intOf]
          · rw [hy] at E
            cases hz : Ln.inB p.a (-2147483648) 2147483647
            all_goals
              rw [hz] at E
              go_wp2_with (first | (go_at_call 22; refine (within_c _ _ _ _ (by assumption) _).mono ?_; rintro e w' ⟨rfl, rfl⟩))
              go_round
              case rel => exact ⟨1, by decide, rfl, by rw [E.out]; rfl⟩
              case measure => simp [intOf]
        · have E : Hid (upto p 2 = (upto p 1 && Ln.inB p.b (-2147483648) 2147483647)) := rfl
          cases hy : upto p 1
          · rw [hy] at E
            go_wp2_with fail
            go_round
            case rel => exact ⟨2, by decide, rfl, by rw [E.out]; rfl⟩
            case measure => simp [intOf]
          · rw [hy] at E
            cases hz : Ln.inB p.b (-2147483648) 2147483647
            all_goals
              rw [hz] at E
              go_wp2_with (first | (go_at_call 22; refine (within_c _ _ _ _ (by assumption) _).mono ?_; rintro e w' ⟨rfl, rfl⟩))
              go_round
              case rel => exact ⟨2, by decide, rfl, by rw [E.out]; rfl⟩
              case measure => simp [intOf]
        · have E : Hid (upto p 3 = (upto p 2 && Ln.inB p.c (-2147483648) 2147483647)) := rfl
          cases hy : upto p 2
          · rw [hy] at E
            go_wp2_with fail
            go_round
            case rel => exact ⟨3, by decide, rfl, by rw [E.out]; rfl⟩
            case measure => simp [intOf]
          · rw [hy] at E
            cases hz : Ln.inB p.c (-2147483648) 2147483647
            all_goals
              rw [hz] at E
              go_wp2_with (first | (go_at_call 22; refine (within_c _ _ _ _ (by assumption) _).mono ?_; rintro e w' ⟨rfl, rfl⟩))
              go_round
              case rel => exact ⟨3, by decide, rfl, by rw [E.out]; rfl⟩
              case measure => simp [intOf]
        · have E : Hid (upto p 4 = (upto p 3 && Ln.inB p.d (-2147483648) 2147483647)) := rfl
          cases hy : upto p 3
          · rw [hy] at E
            go_wp2_with fail
            go_round
            case rel => exact ⟨4, by decide, rfl, by rw [E.out]; rfl⟩
            case measure => simp [intOf]
          · rw [hy] at E
            cases hz : Ln.inB p.d (-2147483648) 2147483647
            all_goals
              rw [hz] at E
              go_wp2_with (first | (go_at_call 22; refine (within_c _ _ _ _ (by assumption) _).mono ?_; rintro e w' ⟨rfl, rfl⟩))
              go_round
              case rel => exact ⟨4, by decide, rfl, by rw [E.out]; rfl⟩
              case measure => simp [intOf]
        · have E : Hid (upto p 5 = (upto p 4 && Ln.inB p.e (-2147483648) 2147483647)) := rfl
          cases hy : upto p 4
          · rw [hy] at E
            go_wp2_with fail
            go_round
            case rel => exact ⟨5, by decide, rfl, by rw [E.out]; rfl⟩
            case measure => simp [intOf]
          · rw [hy] at E
            cases hz : Ln.inB p.e (-2147483648) 2147483647
            all_goals
              rw [hz] at E
              go_wp2_with (first | (go_at_call 22; refine (within_c _ _ _ _ (by assumption) _).mono ?_; rintro e w' ⟨rfl, rfl⟩))
              go_round
              case rel => exact ⟨5, by decide, rfl, by rw [E.out]; rfl⟩
              case measure => simp [intOf]
      · obtain rfl : k = 5 := by omega
        rw [H5.out]
        cases b
        all_goals
          go_wp2_with fail
          go_ret
          exact ⟨rfl, HB.out⟩
end Lw
end Go.Proofs.Ytegjkbebnnpdcaa
