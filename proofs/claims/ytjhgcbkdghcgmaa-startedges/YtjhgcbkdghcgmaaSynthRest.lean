/- synth.Rest: where an engine comes to. -/
import Derived.Test.YtjhgcbkdghcgmaaSynthCheck
import Derived.OwnWalk
namespace Go.Proofs.Ytjhgcbkdghcgmaa
namespace Ew
open Go.RowKit TabC Lk

theorem check_ok (e : Eg) (w : World) (hE : EngIn w e) (h : Em.okB (en e) = true) : Calls Try.prog 20 #[.agg (ec e)] w fun r w' => r = .returned (.int .i64 0) ∧ Below w.heap.size w w' := by
  have := check_c e w hE
  rwa [show Em.err (en e) = 0 from by simp [Em.err, h]] at this
theorem check_no (e : Eg) (w : World) (hE : EngIn w e) (h : Em.okB (en e) = false) : Calls Try.prog 20 #[.agg (ec e)] w fun r w' => r = .returned (.int .i64 100) ∧ Below w.heap.size w w' := by
  have := check_c e w hE
  rwa [show Em.err (en e) = 100 from by simp [Em.err, h]] at this
theorem atv_of {xs ys : List Int} (h : Tb.Ok xs ys) (x : Int) : Tb.atv xs ys x = Tb.atO xs ys x := by simp [Tb.atv, (Tb.ok_iff xs ys).2 h]
theorem bk_of {xs ys : List Int} (h : Tb.Ok xs ys) (x : Int) : Tb.bk xs ys x = Tb.bkO xs ys x := by simp [Tb.bk, (Tb.ok_iff xs ys).2 h]

end Ew
end Go.Proofs.Ytjhgcbkdghcgmaa
