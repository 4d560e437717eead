/- schedule.Ask, Allow and Next, and the document's own answers. Printed by gen_calls.py. -/
import Derived.Test.YtjhgcbkdghcgmaaScheduleCheck
import Derived.Test.YtjhgcbkdghcgmaaScheduleRef
import Derived.Test.YtjhgcbkdghcgmaaSynthAwake
import Derived.Test.YtjhgcbkdghcgmaaSynthRCheck
import Derived.Test.YtjhgcbkdghcgmaaFixRef
namespace Go.Proofs.Ytjhgcbkdghcgmaa
namespace Hw
open Go.RowKit TabC Lk Ew FixC

theorem two_el (w : World) (e : Eg) (l : Lg) : Hv w ((w.alloc (eo e)).alloc (lo l)) [(w.heap.size + 1, lo l), (w.heap.size, eo e)] := by
  have := (one_e w e).made (lo l)
  rwa [World.size_alloc] at this
theorem err_0 {l : Lg} (h : Sd.okB (la l) = true) : Sd.err (la l) = 0 := by rw [Sd.err, if_pos h]
theorem err_1 {l : Lg} (h : Sd.okB (la l) = false) : Sd.err (la l) = 140 := by rw [Sd.err, h]; rfl
theorem cl_ok (l : Lg) (w : World) (hL : LawIn w l) (h : Sd.okB (la l) = true) : Calls Try.prog 21 #[.agg (lc l)] w fun r w' => r = .returned (.int .i64 0) ∧ Below w.heap.size w w' := by
  have := check_c l w hL; rwa [err_0 h] at this
theorem cl_no (l : Lg) (w : World) (hL : LawIn w l) (h : Sd.okB (la l) = false) : Calls Try.prog 21 #[.agg (lc l)] w fun r w' => r = .returned (.int .i64 140) ∧ Below w.heap.size w w' := by
  have := check_c l w hL; rwa [err_1 h] at this
theorem rcl_ok (l : Lg) (w : World) (hL : LawIn w l) (h : Sd.okB (la l) = true) : Calls Try.prog 30 #[.agg (lc l)] w fun r w' => r = .returned (.int .i64 0) ∧ Below w.heap.size w w' := by
  have := rcheck_c l w hL; rwa [err_0 h] at this
theorem rcl_no (l : Lg) (w : World) (hL : LawIn w l) (h : Sd.okB (la l) = false) : Calls Try.prog 30 #[.agg (lc l)] w fun r w' => r = .returned (.int .i64 140) ∧ Below w.heap.size w w' := by
  have := rcheck_c l w hL; rwa [err_1 h] at this

end Hw
end Go.Proofs.Ytjhgcbkdghcgmaa
