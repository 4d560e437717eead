/- Contracts of the program's memory: wrong, Write, Read, Arm, Up, Down, Many, Words. -/
import Derived.Test.YtlhapipgmadbeaaNvmMem
namespace Go.Proofs.Ytlhapipgmadbeaa
namespace Nw
open Go.RowKit Nv

theorem ret_i {a b : Int} (h : a = b) : Ending.returned (.int .i64 a) = .returned (.int .i64 b) := by rw [h]
/-- A memory's numbers are such that none of its calls goes past what an int holds. -/
structure Few (m : M) : Prop where
  left : m.left ≤ 9223372036854775807
  many0 : 0 ≤ m.many
  many1 : m.many < 4611686018427387904
theorem gone_eq {m : M} (h : m.gone = true) : { m with gone := true } = m := by cases m; simp_all

set_option maxHeartbeats 1600000 in
/-- The power is gone. -/
theorem wrong_gone (b d : Nat) (m : M) (i : Int) (x : Bool) (w : World) (h : Mem w b d m) (hg : m.gone = true) :
    Calls Try.prog 43 #[.pointer (some ⟨b, 0, none⟩), .int .i64 i, .bool x] w fun e w' => e = .returned (.int .i64 110) ∧ Mem w' b d m ∧ Off2 b d w w' := by
  have c0 := h.c0
  have c1 := h.c1
  have c2 := h.c2
  have c3 := h.c3
  have f1 := h.fz 1
  rw [hg] at c1
  have HM := Lib.hid h
  have HS : Hid (Mem (w.setCell ⟨b, 1, none⟩ (.bool true)) b d m) := by
    have := h.s1
    rw [gone_eq hg] at this
    exact Lib.hid this
  clear h
  cases x with
  | false =>
    go_enter Try.func43, Try.ntmps43
    go_wp2_with fail
    go_ret
    exact ⟨rfl, HM.out, Off2.refl _ _ _⟩
  | true =>
    by_cases hl : m.left = 0
    · have d1 : decide (0 ≤ m.left) = true := by simp [hl]
      have d2 : max m.left 0 = 0 := by omega
      rw [d1] at c2
      rw [d2] at c3
      go_enter Try.func43, Try.ntmps43
      go_wp2_with fail
      go_ret
      exact ⟨rfl, HS.out, (Off2.refl _ _ _).set _ _⟩
    · by_cases hp : 0 ≤ m.left
      · have d1 : decide (0 ≤ m.left) = true := by simp [hp]
        have d2 : max m.left 0 = m.left := by omega
        have d3 : (m.left == 0) = false := by simp [hl]
        rw [d1] at c2
        rw [d2] at c3
        go_enter Try.func43, Try.ntmps43
        go_wp2_with fail
        go_ret
        exact ⟨rfl, HM.out, Off2.refl _ _ _⟩
      · have d1 : decide (0 ≤ m.left) = false := by simp; omega
        rw [d1] at c2
        go_enter Try.func43, Try.ntmps43
        go_wp2_with fail
        go_ret
        exact ⟨rfl, HM.out, Off2.refl _ _ _⟩

set_option maxHeartbeats 1600000 in
/-- There is no such word. -/
theorem wrong_out (b d : Nat) (m : M) (i : Int) (x : Bool) (w : World) (h : Mem w b d m) (hg : m.gone = false) (hi : inB m i = false) :
    Calls Try.prog 43 #[.pointer (some ⟨b, 0, none⟩), .int .i64 i, .bool x] w fun e w' => e = .returned (.int .i64 111) ∧ w = w' := by
  have c0 := h.c0
  have c1 := h.c1
  rw [hg] at c1
  clear h
  by_cases h0 : i < 0
  · go_enter Try.func43, Try.ntmps43
    go_wp2_with fail
    go_ret
    exact ⟨rfl, rfl⟩
  · have h1 : (m.ws.length : Int) ≤ i := by simp only [inB, Bool.and_eq_false_iff, decide_eq_false_iff_not] at hi; omega
    clear hi
    go_enter Try.func43, Try.ntmps43
    go_wp2_with fail
    go_ret
    exact ⟨rfl, rfl⟩

theorem in_iff {m : M} {i : Int} : inB m i = true ↔ 0 ≤ i ∧ i < (m.ws.length : Int) := by simp [inB]

set_option maxHeartbeats 1600000 in
/-- No more writes are left: the power goes. -/
theorem wrong_goes (b d : Nat) (m : M) (i : Int) (w : World) (h : Mem w b d m) (hg : m.gone = false) (hi : inB m i = true) (hl : m.left = 0) :
    Calls Try.prog 43 #[.pointer (some ⟨b, 0, none⟩), .int .i64 i, .bool true] w fun e w' => e = .returned (.int .i64 110) ∧ Mem w' b d { m with gone := true } ∧ Off2 b d w w' := by
  have c0 := h.c0
  have c1 := h.c1
  have c2 := h.c2
  have c3 := h.c3
  have f1 := h.fz 1
  rw [hg] at c1
  have d1 : decide (0 ≤ m.left) = true := by simp [hl]
  have d2 : max m.left 0 = 0 := by omega
  rw [d1] at c2
  rw [d2] at c3
  have HS := Lib.hid h.s1
  obtain ⟨h0, h1⟩ := in_iff.1 hi
  clear h hi hl
  go_enter Try.func43, Try.ntmps43
  go_wp2_with fail
  go_ret
  exact ⟨rfl, HS.out, (Off2.refl _ _ _).set _ _⟩

set_option maxHeartbeats 1600000 in
/-- Nothing is wrong. -/
theorem wrong_ok (b d : Nat) (m : M) (i : Int) (x : Bool) (w : World) (h : Mem w b d m) (hg : m.gone = false) (hi : inB m i = true) (hx : x = true → m.left ≠ 0) :
    Calls Try.prog 43 #[.pointer (some ⟨b, 0, none⟩), .int .i64 i, .bool x] w fun e w' => e = .returned (.int .i64 0) ∧ w = w' := by
  have c0 := h.c0
  have c1 := h.c1
  have c2 := h.c2
  have c3 := h.c3
  rw [hg] at c1
  obtain ⟨h0, h1⟩ := in_iff.1 hi
  clear h hi
  cases x with
  | false =>
    clear hx
    go_enter Try.func43, Try.ntmps43
    go_wp2_with fail
    go_ret
    exact ⟨rfl, rfl⟩
  | true =>
    have hl := hx rfl
    clear hx
    by_cases hp : 0 ≤ m.left
    · have d1 : decide (0 ≤ m.left) = true := by simp [hp]
      have d2 : max m.left 0 = m.left := by omega
      have d3 : (m.left == 0) = false := by simp [hl]
      rw [d1] at c2
      rw [d2] at c3
      go_enter Try.func43, Try.ntmps43
      go_wp2_with fail
      go_ret
      exact ⟨rfl, rfl⟩
    · have d1 : decide (0 ≤ m.left) = false := by simp; omega
      rw [d1] at c2
      go_enter Try.func43, Try.ntmps43
      go_wp2_with fail
      go_ret
      exact ⟨rfl, rfl⟩
end Nw
end Go.Proofs.Ytlhapipgmadbeaa
