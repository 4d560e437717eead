/- Contracts of package pick's small functions, and of the document's answers beside them. -/
import Derived.Test.YtcbnfpnlkjkgaaaPickMath
import Derived.Test.YtcbnfpnlkjkgaaaFixRef
import Derived.Test.YtcbnfpnlkjkgaaaObjKit
import Derived.Lib.MinMax
namespace Go.Proofs.Ytcbnfpnlkjkgaaa
namespace Pw
open Go.RowKit Pc Lk FixC

theorem apart_c {a b : Int} (ha : -2147483648 ≤ a ∧ a ≤ 2147483647) (hb : -2147483648 ≤ b ∧ b ≤ 2147483647) (w : World) : Calls Try.prog 15 #[.int .i64 a, .int .i64 b] w fun e w' => e = .returned (.int .i64 (ap a b)) ∧ w = w' := by
  obtain ⟨a1, a2⟩ := ha
  obtain ⟨b1, b2⟩ := hb
  go_enter Try.func15, Try.ntmps15
  go_wp2
  all_goals
    go_ret
    exact ⟨ret_int (by unfold ap; (repeat' split) <;> omega), rfl⟩

theorem rapart_c {a b : Int} (ha : -2147483648 ≤ a ∧ a ≤ 2147483647) (hb : -2147483648 ≤ b ∧ b ≤ 2147483647) (w : World) : Calls Try.prog 19 #[.int .i64 a, .int .i64 b] w fun e w' => e = .returned (.int .i64 (ap a b)) ∧ w = w' := by
  obtain ⟨a1, a2⟩ := ha
  obtain ⟨b1, b2⟩ := hb
  go_enter Try.func19, Try.ntmps19
  go_wp2
  all_goals
    go_ret
    exact ⟨ret_int (by unfold ap; (repeat' split) <;> omega), rfl⟩

theorem mean_c {a b : Int} (ha : -2147483648 ≤ a ∧ a ≤ 2147483647) (hb : -2147483648 ≤ b ∧ b ≤ 2147483647) (w : World) : Calls Try.prog 17 #[.int .i64 a, .int .i64 b] w fun e w' => e = .returned (.int .i64 ((a + b) / 2)) ∧ w = w' := by
  obtain ⟨a1, a2⟩ := ha
  obtain ⟨b1, b2⟩ := hb
  go_enter Try.func17, Try.ntmps17
  go_wp2
  all_goals
    go_ret
    exact ⟨ret_int (by omega), rfl⟩

theorem rmean_c {a b : Int} (ha : -2147483648 ≤ a ∧ a ≤ 2147483647) (hb : -2147483648 ≤ b ∧ b ≤ 2147483647) (w : World) : Calls Try.prog 20 #[.int .i64 a, .int .i64 b] w fun e w' => e = .returned (.int .i64 ((a + b) / 2)) ∧ w = w' := by
  obtain ⟨a1, a2⟩ := ha
  obtain ⟨b1, b2⟩ := hb
  by_cases h : (a + b).tmod 2 = 0
  · have e := Lib.hid (mean_even h)
    have hb : ((a + b).tmod 2 == 0) = true := by simp [h]
    clear h
    go_enter Try.func20, Try.ntmps20
    go_wp2
    all_goals
      go_ret
      exact ⟨ret_int e.out, rfl⟩
  · have e := Lib.hid (mean_odd h)
    have hb : ((a + b).tmod 2 == 0) = false := by simp [h]
    clear h
    go_enter Try.func20, Try.ntmps20
    go_wp2
    all_goals
      go_ret
      exact ⟨ret_int e.out, rfl⟩

end Pw
end Go.Proofs.Ytcbnfpnlkjkgaaa
