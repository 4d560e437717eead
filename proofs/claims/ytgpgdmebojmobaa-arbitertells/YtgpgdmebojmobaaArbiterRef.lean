/- The document's own Next. -/
import Derived.Test.YtgpgdmebojmobaaArbiterIn
namespace Go.Proofs.Ytgpgdmebojmobaa
namespace Aw
open Go.RowKit

set_option maxRecDepth 100000 in
set_option maxHeartbeats 8000000 in
theorem rnext_c {h n : Int} {a b r : Bool} (e : Av.nx h a b r = n) (w : World) :
    Calls Try.prog 8 #[.int .i64 h, .bool a, .bool b, .bool r] w fun e w' => e = .returned (.int .i64 n) ∧ w = w' := by
  subst e
  by_cases h0 : h = 0
  · subst h0
    cases a <;> cases b <;> cases r
    all_goals
      go_enter Try.func8, Try.ntmps8
      go_wp2_with fail
      go_ret
      exact ⟨rfl, rfl⟩
  by_cases h1 : h = 1
  · subst h1
    clear h0
    cases a <;> cases b <;> cases r
    all_goals
      go_enter Try.func8, Try.ntmps8
      go_wp2_with fail
      go_ret
      exact ⟨rfl, rfl⟩
  have HN : Hid (∀ a b r, Av.nx h a b r = if r || (!a && !b) then 2 else if a then 0 else 1) := by
    intro a b r
    simp [Av.nx, h0, h1]
  have k0 : (h == 0) = false := by simpa using h0
  have k1 : (h == 1) = false := by simpa using h1
  clear h0 h1
  cases a <;> cases b <;> cases r
  all_goals
    rw [HN.out]
    go_enter Try.func8, Try.ntmps8
    go_wp2_with fail
    go_ret
    exact ⟨rfl, rfl⟩
end Aw
end Go.Proofs.Ytgpgdmebojmobaa
