/- How a signal is behind one more value: check.Step. -/
import Derived.Test.YtimflomgaknoaaaCheckStep2
namespace Go.Proofs.Ytimflomgaknoaaa
namespace Cw
open Go.RowKit Ck Lk

theorem step_c (l : Lm) (x : Wa) (v : Int) (w : World) : Calls Try.prog 8 #[.agg (lc l), .agg (wc x), .int .i64 v] w fun e w' => e = .returned (.tuple #[.agg (wc (Ck.step l x v)), .bool (good l x v)]) ∧ Below w.heap.size w w' := by
  by_cases hk : Ok l
  · obtain ⟨b, hb⟩ : ∃ b, wrong l x v = b := ⟨_, rfl⟩
    rw [step_ok hk hb, good_ok hk hb]
    obtain ⟨la, sm, wr, ri, lo, be⟩ := x
    exact step_2 l la sm wr ri lo be v _ _ _ _ b hk hb rfl rfl rfl rfl _ rfl w
  · rw [step_no hk, good_no hk]
    exact step_1 l x v hk w
theorem step_v {l : Lm} {x y : Wa} {v : Int} {b : Bool} (h : Ck.step l x v = y) (g : good l x v = b) (w : World) : Calls Try.prog 8 #[.agg (lc l), .agg (wc x), .int .i64 v] w fun e w' => e = .returned (.tuple #[.agg (wc y), .bool b]) ∧ Below w.heap.size w w' := h ▸ g ▸ step_c l x v w
end Cw
end Go.Proofs.Ytimflomgaknoaaa
