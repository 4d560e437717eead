/- 'awake' of layer 15's statements answers true, and leaves all that lay. -/
import Derived.Test.YtjjconkelbjodaaScheduleLaws
import Derived.Test.YtjjconkelbjodaaLimitLeast
namespace Go.Proofs.Ytjjconkelbjodaa
namespace Lw5
open Go.RowKit FixC Lk Ew Hw

theorem y_least {l : Lg} (h : la l = M0) (W : World) (hL : LawIn W l) : Calls Try.prog 12 #[.agg (lc l), .int .i64 8980, .int .i64 0, .int .i64 0, .int .i64 500, .int .i64 100] W fun e w' => e = .returned (.tuple #[.int .i64 260, .int .i64 1]) ∧ Below W.heap.size W w' := by
  have hr : l.red1 = 9000 ∧ l.red2 = 11000 ∧ l.redE = 1000 ∧ l.margin = 50 := ⟨congrArg Sd.Ls.red1 h, congrArg Sd.Ls.red2 h, congrArg Sd.Ls.redE h, congrArg Sd.Ls.margin h⟩
  have := least_ok l 8980 0 0 500 100 260 500 500 500 260 true false false W hL (by rw [h]; decide +kernel) (by rw [hr.1, hr.2.2.2]; decide +kernel) (by rw [hr.2.1, hr.2.2.2]; decide +kernel) (by rw [hr.2.2.1, hr.2.2.2]; decide +kernel) (by decide +kernel) (by decide +kernel) (by decide +kernel) (by decide +kernel) (by decide +kernel)
  rwa [show Lt.which 260 500 500 500 = 1 from by decide +kernel] at this

theorem lad_2 (W : World) (w : World) (hb : Below w.heap.size w W) : Calls Try.prog 14 #[.int .i64 5, .slice (some ⟨W.heap.size, 0, none⟩) 2 2] (W.alloc (.cells #[.int .i64 9, .int .i64 7] 3)) fun e w' => e = .returned (.int .i64 7) ∧ Below w.heap.size w w' := by
  have := ladder_c 5 (some ⟨W.heap.size, 0, none⟩) 2 [9, 7] (W.alloc (ro [9, 7])) (by simp) (ints_row (heap_alloc_last W _))
  rw [show Lt.ladder 5 [9, 7] = 7 from by decide +kernel] at this
  refine Calls.mono this ?_
  rintro e w' ⟨rfl, rfl⟩
  exact ⟨rfl, hb.alloc hb.size _⟩
theorem lad_1 (W : World) (w : World) (hb : Below w.heap.size w W) : Calls Try.prog 14 #[.int .i64 5, .slice (some ⟨W.heap.size, 0, none⟩) 1 1] (W.alloc (.cells #[.int .i64 3] 3)) fun e w' => e = .returned (.int .i64 5) ∧ Below w.heap.size w w' := by
  have := ladder_c 5 (some ⟨W.heap.size, 0, none⟩) 1 [3] (W.alloc (ro [3])) (by simp) (ints_row (heap_alloc_last W _))
  rw [show Lt.ladder 5 [3] = 5 from by decide +kernel] at this
  refine Calls.mono this ?_
  rintro e w' ⟨rfl, rfl⟩
  exact ⟨rfl, hb.alloc hb.size _⟩

set_option maxRecDepth 100000 in
set_option maxHeartbeats 4000000 in
theorem awake_c (w : World) : Calls Try.prog 8 #[] w fun r w' => r = .returned (.bool true) ∧ Below w.heap.size w w' := by
  have T1 := Lib.hid (trim_v (show Lt.trim 80 100 50 500 100 = 260 from by decide +kernel))
  have T2 := Lib.hid (trim_v (show Lt.trim 40 100 50 500 100 = 500 from by decide +kernel))
  have T3 := Lib.hid (trim_v (show Lt.trim 100 100 50 500 100 = 100 from by decide +kernel))
  go_enter Try.func8, Try.ntmps8
  go_wp2_with fail
  refine (laws_c w).mono ?_
  rintro r W1 ⟨l, hl, rfl, hL, hb⟩
  have HB := Lib.hid hb
  have C1 := Lib.hid (y_least hl W1 hL)
  clear hl hL hb
  go_wp2_with (first | (go_at_call 12; (with_reducible refine C1.out.mono ?_); rintro r W2 ⟨rfl, hb⟩; replace HB := Lib.hid (HB.out.trans (hb.mono HB.out.size)); clear hb C1) | (go_at_call 9; (first | (with_reducible refine (T1.out _).mono ?_) | (with_reducible refine (T2.out _).mono ?_) | (with_reducible refine (T3.out _).mono ?_)); rintro r w' ⟨rfl, rfl⟩) | (go_at_call 14; (first | (with_reducible refine (lad_2 _ _ HB.out).mono ?_) | (with_reducible refine (lad_1 _ _ HB.out).mono ?_)); rintro r W3 ⟨rfl, hb⟩; replace HB := Lib.hid hb; clear hb) | fail)
  go_ret
  exact ⟨rfl, HB.out⟩

end Lw5
end Go.Proofs.Ytjjconkelbjodaa
