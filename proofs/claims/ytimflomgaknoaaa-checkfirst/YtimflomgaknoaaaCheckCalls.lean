/- Limits and watches as values; within, Check, counters of package check. -/
import Derived.Test.YtimflomgaknoaaaCheckMath
import Derived.Test.YtimflomgaknoaaaFixRef
import Derived.Test.YtimflomgaknoaaaObjKit
import Derived.BigQuiet
import Derived.Deep.RegionHeld3
namespace Go.Proofs.Ytimflomgaknoaaa
namespace Cw
open Go.RowKit Ck Lk

theorem ret_bool {a b : Bool} (h : a = b) : Ending.returned (.bool a) = .returned (.bool b) := by rw [h]
/-- A limit's, a watch's cells. -/
abbrev lc (l : Lm) : Array Value := #[.int .i64 l.lo, .int .i64 l.hi, .int .i64 l.ra, .int .i64 l.st, .int .i64 l.ba, .int .i64 l.fi]
abbrev wc (x : Wa) : Array Value := #[.int .i64 x.la, .int .i64 x.sm, .int .i64 x.wr, .int .i64 x.ri, .bool x.lost, .bool x.begun]
abbrev lob (l : Lm) : Obj := .cells (lc l) 23 (0, 0)
abbrev wob (x : Wa) : Obj := .cells (wc x) 25 (0, 0)
abbrev cob : Obj := .cells #[.int .i64 1073741824] 3 (0, 0)
abbrev LFld (W : World) (b : Nat) (l : Lm) : Prop := W.cell? ⟨b, 0, none⟩ = some (.int .i64 l.lo) ∧ W.cell? ⟨b, 1, none⟩ = some (.int .i64 l.hi) ∧ W.cell? ⟨b, 2, none⟩ = some (.int .i64 l.ra) ∧ W.cell? ⟨b, 3, none⟩ = some (.int .i64 l.st) ∧ W.cell? ⟨b, 4, none⟩ = some (.int .i64 l.ba) ∧ W.cell? ⟨b, 5, none⟩ = some (.int .i64 l.fi)
abbrev WFld (W : World) (b : Nat) (x : Wa) : Prop := W.cell? ⟨b, 0, none⟩ = some (.int .i64 x.la) ∧ W.cell? ⟨b, 1, none⟩ = some (.int .i64 x.sm) ∧ W.cell? ⟨b, 2, none⟩ = some (.int .i64 x.wr) ∧ W.cell? ⟨b, 3, none⟩ = some (.int .i64 x.ri) ∧ W.cell? ⟨b, 4, none⟩ = some (.bool x.lost) ∧ W.cell? ⟨b, 5, none⟩ = some (.bool x.begun)
theorem lfld {W : World} {b : Nat} {l : Lm} (h : W.heap[b]? = some (lob l)) : LFld W b l := ⟨Joins.cell_of_block h 0, Joins.cell_of_block h 1, Joins.cell_of_block h 2, Joins.cell_of_block h 3, Joins.cell_of_block h 4, Joins.cell_of_block h 5⟩
theorem wfld {W : World} {b : Nat} {x : Wa} (h : W.heap[b]? = some (wob x)) : WFld W b x := ⟨Joins.cell_of_block h 0, Joins.cell_of_block h 1, Joins.cell_of_block h 2, Joins.cell_of_block h 3, Joins.cell_of_block h 4, Joins.cell_of_block h 5⟩
theorem info_lc : (Try.prog.info? 23).map (·.size) = some 6 := by kernel_rfl
theorem info_wc : (Try.prog.info? 25).map (·.size) = some 6 := by kernel_rfl
section
variable {ops : Array Oper} {rest : List Oper} {op : Oper} {a : Act} {w : World} {Q : Exit → Act → World → Prop}
/-- A limit, a watch loaded as a whole. -/
theorem ldl (hw : Region.wanted op (yielded ops a.tmps) = true) (x : Operand) (ho : op.op = .load 23 x)
    (b : Nat) (l : Lm) (hx : a.eval x = .pointer (some ⟨b, 0, none⟩)) (hP : w.heap[b]? = some (lob l))
    (c : wpList Try.prog ops Q rest (a.put op.dst (.agg (lc l))) w) : wpList Try.prog ops Q (op :: rest) a w :=
  Lk.wanted hw fun _ hK => wp_load_row 23 x ho b hx 23 (lc l) (0, 0) _ hP Try.underlying23 rfl info_lc (hK _ _ c)
theorem ldw (hw : Region.wanted op (yielded ops a.tmps) = true) (x : Operand) (ho : op.op = .load 25 x)
    (b : Nat) (l : Wa) (hx : a.eval x = .pointer (some ⟨b, 0, none⟩)) (hP : w.heap[b]? = some (wob l))
    (c : wpList Try.prog ops Q rest (a.put op.dst (.agg (wc l))) w) : wpList Try.prog ops Q (op :: rest) a w :=
  Lk.wanted hw fun _ hK => wp_load_row 25 x ho b hx 25 (wc l) (0, 0) _ hP Try.underlying25 rfl info_wc (hK _ _ c)
theorem wc_one (x : Wa) : (wc x).all (·.oneCell') = true := by simp [wc, Value.oneCell']
/-- A watch stored as a whole. -/
theorem stw (hgd : op.guard = none) (x y : Operand) (ho : op.op = .store 25 x y) (hd : op.dst = none)
    (g : Nat) (q p : Wa) (hx : a.eval x = .pointer (some ⟨g, 0, none⟩)) (hy : a.eval y = .agg (wc p)) (hP : w.heap[g]? = some (wob q))
    (h : ∀ w', w'.heap[g]? = some (wob p) → Off g w w' → wpList Try.prog ops Q rest a w') : wpList Try.prog ops Q (op :: rest) a w := by
  refine wpList_plain hgd fun _ hK => wp_store_row 25 x y ho g (wc p) hx hy 25 (wc q) hP info_wc rfl (wc_one p) (hK _ _ ?_)
  rw [hd]
  exact h _ (setRow_heap w g (wc q) (wc p) 25 (0, 0) hP) (Off.row w g _)
theorem res2 {fn : Func} {p u : Tmp} (h : fn.results = #[.cell p 25, .tmp u]) (tmps : Array Value) (w : World) (g : Nat) (q : Wa) (hp : tmps.getD p undef = .pointer (some ⟨g, 0, none⟩)) (hP : w.heap[g]? = some (wob q)) :
    (results fn tmps).run Try.prog w = .ok (.tuple #[.agg (wc q), tmps.getD u undef]) w := by
  rw [results_cell_tmp h, hp]
  simp [asAddr, run_loadVar_row (P := Try.prog) w g 25 25 (wc q) (0, 0) _ hP Try.underlying25 rfl info_wc]
end

theorem within_t {n lo hi : Int} (hb : lo ≤ n ∧ n ≤ hi) (w : World) : Calls Try.prog 20 #[.int .i64 n, .int .i64 lo, .int .i64 hi] w fun e w' => e = .returned (.bool true) ∧ w = w' := by
  obtain ⟨h1, h2⟩ := hb
  go_enter Try.func20, Try.ntmps20
  go_wp2_with fail
  go_ret
  exact ⟨rfl, rfl⟩
theorem within_f {n lo hi : Int} (hb : ¬ (lo ≤ n ∧ n ≤ hi)) (w : World) : Calls Try.prog 20 #[.int .i64 n, .int .i64 lo, .int .i64 hi] w fun e w' => e = .returned (.bool false) ∧ w = w' := by
  by_cases h1 : lo ≤ n
  · have h2 : decide (n ≤ hi) = false := decide_eq_false (by omega)
    clear hb
    go_enter Try.func20, Try.ntmps20
    go_wp2_with fail
    go_ret
    exact ⟨rfl, rfl⟩
  · clear hb
    go_enter Try.func20, Try.ntmps20
    go_wp2_with fail
    go_ret
    exact ⟨rfl, rfl⟩

theorem one_l (w : World) (l : Lm) : Hv w (w.alloc (lob l)) [(w.heap.size, lob l)] := (Hv.nil w).made _

set_option maxRecDepth 100000 in
set_option maxHeartbeats 4000000 in
theorem check_c (l : Lm) (w : World) : Calls Try.prog 10 #[.agg (lc l)] w fun e w' => e = .returned (.int .i64 (err l)) ∧ Below w.heap.size w w' := by
  have hc : (¬ (-2147483648 ≤ l.lo ∧ l.lo ≤ 2147483647)) ∨ ((-2147483648 ≤ l.lo ∧ l.lo ≤ 2147483647) ∧ ¬ (l.lo ≤ l.hi ∧ l.hi ≤ 2147483647)) ∨ ((-2147483648 ≤ l.lo ∧ l.lo ≤ 2147483647) ∧ (l.lo ≤ l.hi ∧ l.hi ≤ 2147483647) ∧ ¬ (0 ≤ l.ra ∧ l.ra ≤ 2147483647)) ∨ ((-2147483648 ≤ l.lo ∧ l.lo ≤ 2147483647) ∧ (l.lo ≤ l.hi ∧ l.hi ≤ 2147483647) ∧ (0 ≤ l.ra ∧ l.ra ≤ 2147483647) ∧ ¬ (0 ≤ l.st ∧ l.st ≤ 2147483647)) ∨ ((-2147483648 ≤ l.lo ∧ l.lo ≤ 2147483647) ∧ (l.lo ≤ l.hi ∧ l.hi ≤ 2147483647) ∧ (0 ≤ l.ra ∧ l.ra ≤ 2147483647) ∧ (0 ≤ l.st ∧ l.st ≤ 2147483647) ∧ ¬ (1 ≤ l.ba ∧ l.ba ≤ 1000)) ∨ ((-2147483648 ≤ l.lo ∧ l.lo ≤ 2147483647) ∧ (l.lo ≤ l.hi ∧ l.hi ≤ 2147483647) ∧ (0 ≤ l.ra ∧ l.ra ≤ 2147483647) ∧ (0 ≤ l.st ∧ l.st ≤ 2147483647) ∧ (1 ≤ l.ba ∧ l.ba ≤ 1000) ∧ ¬ (1 ≤ l.fi ∧ l.fi ≤ 1000)) ∨ ((-2147483648 ≤ l.lo ∧ l.lo ≤ 2147483647) ∧ (l.lo ≤ l.hi ∧ l.hi ≤ 2147483647) ∧ (0 ≤ l.ra ∧ l.ra ≤ 2147483647) ∧ (0 ≤ l.st ∧ l.st ≤ 2147483647) ∧ (1 ≤ l.ba ∧ l.ba ≤ 1000) ∧ (1 ≤ l.fi ∧ l.fi ≤ 1000)) := by omega
  have KP := Lib.hid (one_l w l).old
  rcases hc with h1 | ⟨h1, h2⟩ | ⟨h1, h2, h3⟩ | ⟨h1, h2, h3, h4⟩ | ⟨h1, h2, h3, h4, h5⟩ | ⟨h1, h2, h3, h4, h5, h6⟩ | ⟨h1, h2, h3, h4, h5, h6⟩
  · have E : Hid (err l = 1) := err_no (fun o => h1 o.1)
    have H1 := Lib.hid h1
    clear h1
    go_enter Try.func10, Try.ntmps10
    go_wp2_with (first | (go_at_call 20; (with_reducible refine (within_f H1.out _).mono ?_); rintro e w' ⟨rfl, rfl⟩) | fail)
    go_ret
    exact ⟨FixC.ret_int E.out.symm, KP.out⟩
  · have E : Hid (err l = 1) := err_no (fun o => h2 o.2.1)
    have H1 := Lib.hid h1
    have H2 := Lib.hid h2
    clear h1 h2
    go_enter Try.func10, Try.ntmps10
    go_wp2_with (first | (go_at_call 20; (with_reducible refine (within_t H1.out _).mono ?_); rintro e w' ⟨rfl, rfl⟩) | (go_at_call 20; (with_reducible refine (within_f H2.out _).mono ?_); rintro e w' ⟨rfl, rfl⟩) | fail)
    go_ret
    exact ⟨FixC.ret_int E.out.symm, KP.out⟩
  · have E : Hid (err l = 1) := err_no (fun o => h3 o.2.2.1)
    have H1 := Lib.hid h1
    have H2 := Lib.hid h2
    have H3 := Lib.hid h3
    clear h1 h2 h3
    go_enter Try.func10, Try.ntmps10
    go_wp2_with (first | (go_at_call 20; (with_reducible refine (within_t H1.out _).mono ?_); rintro e w' ⟨rfl, rfl⟩) | (go_at_call 20; (with_reducible refine (within_t H2.out _).mono ?_); rintro e w' ⟨rfl, rfl⟩) | (go_at_call 20; (with_reducible refine (within_f H3.out _).mono ?_); rintro e w' ⟨rfl, rfl⟩) | fail)
    go_ret
    exact ⟨FixC.ret_int E.out.symm, KP.out⟩
  · have E : Hid (err l = 1) := err_no (fun o => h4 o.2.2.2.1)
    have H1 := Lib.hid h1
    have H2 := Lib.hid h2
    have H3 := Lib.hid h3
    have H4 := Lib.hid h4
    clear h1 h2 h3 h4
    go_enter Try.func10, Try.ntmps10
    go_wp2_with (first | (go_at_call 20; (with_reducible refine (within_t H1.out _).mono ?_); rintro e w' ⟨rfl, rfl⟩) | (go_at_call 20; (with_reducible refine (within_t H2.out _).mono ?_); rintro e w' ⟨rfl, rfl⟩) | (go_at_call 20; (with_reducible refine (within_t H3.out _).mono ?_); rintro e w' ⟨rfl, rfl⟩) | (go_at_call 20; (with_reducible refine (within_f H4.out _).mono ?_); rintro e w' ⟨rfl, rfl⟩) | fail)
    go_ret
    exact ⟨FixC.ret_int E.out.symm, KP.out⟩
  · have E : Hid (err l = 1) := err_no (fun o => h5 o.2.2.2.2.1)
    have H1 := Lib.hid h1
    have H2 := Lib.hid h2
    have H3 := Lib.hid h3
    have H4 := Lib.hid h4
    have H5 := Lib.hid h5
    clear h1 h2 h3 h4 h5
    go_enter Try.func10, Try.ntmps10
    go_wp2_with (first | (go_at_call 20; (with_reducible refine (within_t H1.out _).mono ?_); rintro e w' ⟨rfl, rfl⟩) | (go_at_call 20; (with_reducible refine (within_t H2.out _).mono ?_); rintro e w' ⟨rfl, rfl⟩) | (go_at_call 20; (with_reducible refine (within_t H3.out _).mono ?_); rintro e w' ⟨rfl, rfl⟩) | (go_at_call 20; (with_reducible refine (within_t H4.out _).mono ?_); rintro e w' ⟨rfl, rfl⟩) | (go_at_call 20; (with_reducible refine (within_f H5.out _).mono ?_); rintro e w' ⟨rfl, rfl⟩) | fail)
    go_ret
    exact ⟨FixC.ret_int E.out.symm, KP.out⟩
  · have E : Hid (err l = 1) := err_no (fun o => h6 o.2.2.2.2.2)
    have H1 := Lib.hid h1
    have H2 := Lib.hid h2
    have H3 := Lib.hid h3
    have H4 := Lib.hid h4
    have H5 := Lib.hid h5
    have H6 := Lib.hid h6
    clear h1 h2 h3 h4 h5 h6
    go_enter Try.func10, Try.ntmps10
    go_wp2_with (first | (go_at_call 20; (with_reducible refine (within_t H1.out _).mono ?_); rintro e w' ⟨rfl, rfl⟩) | (go_at_call 20; (with_reducible refine (within_t H2.out _).mono ?_); rintro e w' ⟨rfl, rfl⟩) | (go_at_call 20; (with_reducible refine (within_t H3.out _).mono ?_); rintro e w' ⟨rfl, rfl⟩) | (go_at_call 20; (with_reducible refine (within_t H4.out _).mono ?_); rintro e w' ⟨rfl, rfl⟩) | (go_at_call 20; (with_reducible refine (within_t H5.out _).mono ?_); rintro e w' ⟨rfl, rfl⟩) | (go_at_call 20; (with_reducible refine (within_f H6.out _).mono ?_); rintro e w' ⟨rfl, rfl⟩) | fail)
    go_ret
    exact ⟨FixC.ret_int E.out.symm, KP.out⟩
  · have E : Hid (err l = 0) := err_ok ⟨h1, h2, h3, h4, h5, h6⟩
    have H1 := Lib.hid h1
    have H2 := Lib.hid h2
    have H3 := Lib.hid h3
    have H4 := Lib.hid h4
    have H5 := Lib.hid h5
    have H6 := Lib.hid h6
    clear h1 h2 h3 h4 h5 h6
    go_enter Try.func10, Try.ntmps10
    go_wp2_with (first | (go_at_call 20; (with_reducible refine (within_t H1.out _).mono ?_); rintro e w' ⟨rfl, rfl⟩) | (go_at_call 20; (with_reducible refine (within_t H2.out _).mono ?_); rintro e w' ⟨rfl, rfl⟩) | (go_at_call 20; (with_reducible refine (within_t H3.out _).mono ?_); rintro e w' ⟨rfl, rfl⟩) | (go_at_call 20; (with_reducible refine (within_t H4.out _).mono ?_); rintro e w' ⟨rfl, rfl⟩) | (go_at_call 20; (with_reducible refine (within_t H5.out _).mono ?_); rintro e w' ⟨rfl, rfl⟩) | (go_at_call 20; (with_reducible refine (within_t H6.out _).mono ?_); rintro e w' ⟨rfl, rfl⟩) | fail)
    go_ret
    exact ⟨FixC.ret_int E.out.symm, KP.out⟩

theorem check_ok {l : Lm} (h : Ok l) (w : World) : Calls Try.prog 10 #[.agg (lc l)] w fun e w' => e = .returned (.int .i64 0) ∧ Below w.heap.size w w' := by
  have := check_c l w
  rwa [err_ok h] at this
theorem check_no {l : Lm} (h : ¬ Ok l) (w : World) : Calls Try.prog 10 #[.agg (lc l)] w fun e w' => e = .returned (.int .i64 1) ∧ Below w.heap.size w w' := by
  have := check_c l w
  rwa [err_no h] at this
theorem check_v {l : Lm} {v : Int} (h : err l = v) (w : World) : Calls Try.prog 10 #[.agg (lc l)] w fun e w' => e = .returned (.int .i64 v) ∧ Below w.heap.size w w' := h ▸ check_c l w

theorem counter_c (w : World) : Calls Try.prog 15 #[.int .i64 1073741824] w fun e w' => ∃ g, e = .returned (.func (.func 23) #[] #[.pointer (some ⟨g, 0, none⟩)]) ∧ w'.heap[g]? = some cob ∧ Below w.heap.size w w' := by
  go_enter Try.func15, Try.ntmps15
  go_wp2_with fail
  go_ret
  exact ⟨_, rfl, heap_alloc_last w _, (Below.refl _ _).alloc (Nat.le_refl _) _⟩
theorem count_f (n : Int) (g : Nat) (w : World) : Calls Try.prog 23 #[.int .i64 n, .bool false, .pointer (some ⟨g, 0, none⟩)] w fun e w' => e = .returned (.int .i64 0) ∧ w = w' := by
  go_enter Try.func23, Try.ntmps23
  go_wp2_with fail
  go_ret
  exact ⟨rfl, rfl⟩
theorem count_t (n : Int) (g : Nat) (w : World) (h : w.heap[g]? = some cob) : Calls Try.prog 23 #[.int .i64 n, .bool true, .pointer (some ⟨g, 0, none⟩)] w fun e w' => e = .returned (.int .i64 (next n)) ∧ w = w' := by
  have c0 : w.cell? ⟨g, 0, none⟩ = some (.int .i64 1073741824) := Joins.cell_of_block h 0
  have E := Lib.hid (clamp_next n)
  have hb := Fx.clamp_in n 0 1073741823
  clear h
  generalize hq : Fx.clamp n 0 1073741823 = q at *
  have C : Hid (∀ W, Calls Try.prog 24 #[.int .i64 n, .int .i64 0, .int .i64 1073741823] W fun e w' => e = .returned (.int .i64 q) ∧ W = w') := fun W => hq ▸ FixC.clamp_c n 0 1073741823 W
  clear hq
  obtain ⟨b1, b2⟩ := hb
  go_enter Try.func23, Try.ntmps23
  go_wp2_with (first | (go_at_call 24; (with_reducible refine (C.out _).mono ?_); rintro e w' ⟨rfl, rfl⟩) | fail)
  go_ret
  exact ⟨FixC.ret_int E.out, rfl⟩
theorem count_c (n : Int) (b : Bool) (g : Nat) (w : World) (h : w.heap[g]? = some cob) : Calls Try.prog 23 #[.int .i64 n, .bool b, .pointer (some ⟨g, 0, none⟩)] w fun e w' => e = .returned (.int .i64 (cnt n b)) ∧ w = w' := by
  cases b with
  | true => exact count_t n g w h
  | false => exact count_f n g w
end Cw
end Go.Proofs.Ytimflomgaknoaaa
