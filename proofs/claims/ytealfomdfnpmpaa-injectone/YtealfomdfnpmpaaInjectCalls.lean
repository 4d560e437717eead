/- A fault as a value; within, nearest, Check, On, change of package inject. -/
import Derived.Test.YtealfomdfnpmpaaInjectMath
import Derived.Test.YtealfomdfnpmpaaFixRef
import Derived.BigQuiet
import Derived.Deep.RegionHeld3
import Derived.Laws.Tables
import Derived.Deep.MidRow
import Derived.Handy
import Derived.Deep.WholeRow
import Derived.Lib.SmallJoins
namespace Go.Proofs.Ytealfomdfnpmpaa
namespace Jw
open Go.RowKit Nj

theorem ret_bool {a b : Bool} (h : a = b) : Ending.returned (.bool a) = .returned (.bool b) := by rw [h]
/-- A fault's cells. -/
abbrev fc (k s f l : Int) : Array Value := #[.int .i64 k, .int .i64 s, .int .i64 f, .int .i64 l]
abbrev Fld (W : World) (b : Nat) (k s f l : Int) : Prop := W.cell? ⟨b, 0, none⟩ = some (.int .i64 k) ∧ W.cell? ⟨b, 1, none⟩ = some (.int .i64 s) ∧ W.cell? ⟨b, 2, none⟩ = some (.int .i64 f) ∧ W.cell? ⟨b, 3, none⟩ = some (.int .i64 l)
/-- A fault in a block. -/
def Blk (W : World) (b : Nat) (k s f l : Int) : Prop := W.heap[b]? = some (.cells (fc k s f l) 27 (0, 0))
section
variable {W W' : World} {b : Nat} {k s f l : Int}
theorem Blk.fld (h : Blk W b k s f l) : Fld W b k s f l := ⟨Joins.cell_of_block h 0, Joins.cell_of_block h 1, Joins.cell_of_block h 2, Joins.cell_of_block h 3⟩
theorem Blk.new (w : World) (k s f l : Int) : Blk (w.alloc (.cells (fc k s f l) 27)) w.heap.size k s f l := heap_alloc_last w _
theorem Blk.lt (h : Blk W b k s f l) : b < W.heap.size := (Array.getElem?_eq_some_iff.1 h).1
theorem Blk.grow (h : Blk W b k s f l) (hb : Below W.heap.size W W') : Blk W' b k s f l := (hb.block b h.lt).trans h
end
theorem info_fc : (Try.prog.info? 27).map (·.size) = some 4 := by kernel_rfl
theorem wpList_wanted {P : Program} {ops : Array Oper} {Q : Exit → Act → World → Prop} {a : Act} {w : World} {rest : List Oper} {o : Oper} (hw : Region.wanted o (yielded ops a.tmps) = true)
    (h : ∀ K : Act → World → Prop, (∀ a w, wpList P ops Q rest a w → K a w) → o.wp P a w K Q) : wpList P ops Q (o :: rest) a w :=
  wpList_step fun K hK => by rw [if_pos hw]; exact h K hK
/-- A fault loaded as a whole. -/
theorem ld {ops : Array Oper} {rest : List Oper} {op : Oper} {a : Act} {w : World} {Q : Exit → Act → World → Prop} (hw : Region.wanted op (yielded ops a.tmps) = true) (x : Operand) (ho : op.op = .load 27 x)
    (b : Nat) (k s f l : Int) (hx : a.eval x = .pointer (some ⟨b, 0, none⟩)) (hP : Blk w b k s f l)
    (c : wpList Try.prog ops Q rest (a.put op.dst (.agg (fc k s f l))) w) : wpList Try.prog ops Q (op :: rest) a w :=
  wpList_wanted hw fun _ hK => wp_load_row 27 x ho b hx 27 (fc k s f l) (0, 0) _ hP Try.underlying27 rfl info_fc (hK _ _ c)

/-- What a call carries: the fault in its block, all that lay. -/
structure Kp (w W : World) (b : Nat) (k s f l : Int) : Prop where
  at_ : Blk W b k s f l
  old : Below w.heap.size w W
namespace Kp
variable {w W W' : World} {b : Nat} {k s f l : Int}
theorem grow (h : Kp w W b k s f l) (hb : Below W.heap.size W W') : Kp w W' b k s f l := ⟨h.at_.grow hb, h.old.trans (hb.mono h.old.size)⟩
theorem drew (h : Kp w W b k s f l) : Kp w W.drew b k s f l := ⟨h.at_, h.old.drew⟩
theorem new (w : World) (k s f l : Int) : Kp w (w.alloc (.cells (fc k s f l) 27)) w.heap.size k s f l := ⟨Blk.new w k s f l, (Below.refl _ _).alloc (Nat.le_refl _) _⟩
end Kp

theorem within_t {n lo hi : Int} (hb : lo ≤ n ∧ n ≤ hi) (w : World) : Calls Try.prog 15 #[.int .i64 n, .int .i64 lo, .int .i64 hi] w fun e w' => e = .returned (.bool true) ∧ w = w' := by
  obtain ⟨h1, h2⟩ := hb
  go_enter Try.func15, Try.ntmps15
  go_wp2_with fail
  go_ret
  exact ⟨rfl, rfl⟩
theorem within_f {n lo hi : Int} (hb : ¬ (lo ≤ n ∧ n ≤ hi)) (w : World) : Calls Try.prog 15 #[.int .i64 n, .int .i64 lo, .int .i64 hi] w fun e w' => e = .returned (.bool false) ∧ w = w' := by
  by_cases h1 : lo ≤ n
  · have h2 : decide (n ≤ hi) = false := decide_eq_false (by omega)
    clear hb
    go_enter Try.func15, Try.ntmps15
    go_wp2_with fail
    go_ret
    exact ⟨rfl, rfl⟩
  · clear hb
    go_enter Try.func15, Try.ntmps15
    go_wp2_with fail
    go_ret
    exact ⟨rfl, rfl⟩

theorem nearest_c (n : Int) (w : World) : Calls Try.prog 16 #[.int .i64 n] w fun e w' => e = .returned (.int .i64 (cl n)) ∧ w = w' := by
  have E := Lib.hid (clamp_cl n)
  go_enter Try.func16, Try.ntmps16
  go_wp2_with (go_at_call 20; refine (FixC.clamp_c _ _ _ _).mono ?_; rintro e w' ⟨rfl, rfl⟩; rw [E.out])
  go_ret
  exact ⟨rfl, rfl⟩

set_option maxRecDepth 100000 in
set_option maxHeartbeats 4000000 in
theorem check_c (k s f l : Int) (w : World) : Calls Try.prog 9 #[.agg (fc k s f l)] w fun e w' => e = .returned (.int .i64 (err ⟨k, s, f, l⟩)) ∧ Below w.heap.size w w' := by
  have hc : (¬ (0 ≤ k ∧ k ≤ 6)) ∨ ((0 ≤ k ∧ k ≤ 6) ∧ ¬ (-65535 ≤ s ∧ s ≤ 65535)) ∨ ((0 ≤ k ∧ k ≤ 6) ∧ (-65535 ≤ s ∧ s ≤ 65535) ∧ ¬ (0 ≤ f ∧ f ≤ 1073741824)) ∨ ((0 ≤ k ∧ k ≤ 6) ∧ (-65535 ≤ s ∧ s ≤ 65535) ∧ (0 ≤ f ∧ f ≤ 1073741824) ∧ ¬ (0 ≤ l ∧ l ≤ 1073741824)) ∨ ((0 ≤ k ∧ k ≤ 6) ∧ (-65535 ≤ s ∧ s ≤ 65535) ∧ (0 ≤ f ∧ f ≤ 1073741824) ∧ (0 ≤ l ∧ l ≤ 1073741824)) := by omega
  have KP := Lib.hid (Kp.new w k s f l)
  rcases hc with h1 | ⟨h1, h2⟩ | ⟨h1, h2, h3⟩ | ⟨h1, h2, h3, h4⟩ | ⟨h1, h2, h3, h4⟩
  · have E : Hid (err ⟨k, s, f, l⟩ = 1) := err_no (fun o => h1 ⟨o.1, o.2.1⟩)
    have H1 := Lib.hid h1
    clear h1
    go_enter Try.func9, Try.ntmps9
    go_wp2_with (first | (go_at_call 15; (with_reducible refine (within_f H1.out _).mono ?_); rintro e w' ⟨rfl, rfl⟩) | fail)
    go_ret
    exact ⟨FixC.ret_int E.out.symm, KP.out.old⟩
  · have E : Hid (err ⟨k, s, f, l⟩ = 1) := err_no (fun o => h2 ⟨o.2.2.1, o.2.2.2.1⟩)
    have H1 := Lib.hid h1
    have H2 := Lib.hid h2
    clear h1 h2
    go_enter Try.func9, Try.ntmps9
    go_wp2_with (first | (go_at_call 15; (with_reducible refine (within_t H1.out _).mono ?_); rintro e w' ⟨rfl, rfl⟩) | (go_at_call 15; (with_reducible refine (within_f H2.out _).mono ?_); rintro e w' ⟨rfl, rfl⟩) | fail)
    go_ret
    exact ⟨FixC.ret_int E.out.symm, KP.out.old⟩
  · have E : Hid (err ⟨k, s, f, l⟩ = 1) := err_no (fun o => h3 ⟨o.2.2.2.2.1, o.2.2.2.2.2.1⟩)
    have H1 := Lib.hid h1
    have H2 := Lib.hid h2
    have H3 := Lib.hid h3
    clear h1 h2 h3
    go_enter Try.func9, Try.ntmps9
    go_wp2_with (first | (go_at_call 15; (with_reducible refine (within_t H1.out _).mono ?_); rintro e w' ⟨rfl, rfl⟩) | (go_at_call 15; (with_reducible refine (within_t H2.out _).mono ?_); rintro e w' ⟨rfl, rfl⟩) | (go_at_call 15; (with_reducible refine (within_f H3.out _).mono ?_); rintro e w' ⟨rfl, rfl⟩) | fail)
    go_ret
    exact ⟨FixC.ret_int E.out.symm, KP.out.old⟩
  · have E : Hid (err ⟨k, s, f, l⟩ = 1) := err_no (fun o => h4 ⟨o.2.2.2.2.2.2.1, o.2.2.2.2.2.2.2⟩)
    have H1 := Lib.hid h1
    have H2 := Lib.hid h2
    have H3 := Lib.hid h3
    have H4 := Lib.hid h4
    clear h1 h2 h3 h4
    go_enter Try.func9, Try.ntmps9
    go_wp2_with (first | (go_at_call 15; (with_reducible refine (within_t H1.out _).mono ?_); rintro e w' ⟨rfl, rfl⟩) | (go_at_call 15; (with_reducible refine (within_t H2.out _).mono ?_); rintro e w' ⟨rfl, rfl⟩) | (go_at_call 15; (with_reducible refine (within_t H3.out _).mono ?_); rintro e w' ⟨rfl, rfl⟩) | (go_at_call 15; (with_reducible refine (within_f H4.out _).mono ?_); rintro e w' ⟨rfl, rfl⟩) | fail)
    go_ret
    exact ⟨FixC.ret_int E.out.symm, KP.out.old⟩
  · have E : Hid (err ⟨k, s, f, l⟩ = 0) := err_ok ⟨h1.1, h1.2, h2.1, h2.2, h3.1, h3.2, h4.1, h4.2⟩
    have H1 := Lib.hid h1
    have H2 := Lib.hid h2
    have H3 := Lib.hid h3
    have H4 := Lib.hid h4
    clear h1 h2 h3 h4
    go_enter Try.func9, Try.ntmps9
    go_wp2_with (first | (go_at_call 15; (with_reducible refine (within_t H1.out _).mono ?_); rintro e w' ⟨rfl, rfl⟩) | (go_at_call 15; (with_reducible refine (within_t H2.out _).mono ?_); rintro e w' ⟨rfl, rfl⟩) | (go_at_call 15; (with_reducible refine (within_t H3.out _).mono ?_); rintro e w' ⟨rfl, rfl⟩) | (go_at_call 15; (with_reducible refine (within_t H4.out _).mono ?_); rintro e w' ⟨rfl, rfl⟩) | fail)
    go_ret
    exact ⟨FixC.ret_int E.out.symm, KP.out.old⟩

theorem check_ok {k s f l : Int} (h : Ok ⟨k, s, f, l⟩) (w : World) : Calls Try.prog 9 #[.agg (fc k s f l)] w fun e w' => e = .returned (.int .i64 0) ∧ Below w.heap.size w w' := by
  have := check_c k s f l w
  rwa [err_ok h] at this
theorem check_no {k s f l : Int} (h : ¬ Ok ⟨k, s, f, l⟩) (w : World) : Calls Try.prog 9 #[.agg (fc k s f l)] w fun e w' => e = .returned (.int .i64 1) ∧ Below w.heap.size w w' := by
  have := check_c k s f l w
  rwa [err_no h] at this

set_option maxRecDepth 100000 in
set_option maxHeartbeats 4000000 in
theorem on_c (k s f l fr : Int) (w : World) : Calls Try.prog 11 #[.agg (fc k s f l), .int .i64 fr] w fun e w' => e = .returned (.bool (onB ⟨k, s, f, l⟩ fr)) ∧ Below w.heap.size w w' := by
  have KP := Lib.hid (Kp.new w k s f l)
  by_cases ho : Ok ⟨k, s, f, l⟩
  · have CK := Lib.hid (fun w => check_ok ho w)
    have HW : Hid (IntKind.i64.wrap (f + l) = f + l) := IntWalk.i64_in _ (by have := ho.2.2.2.2.1; have := ho.2.2.2.2.2.1; have := ho.2.2.2.2.2.2.1; have := ho.2.2.2.2.2.2.2; simp only at *; omega)
    have ET : Hid (k ≠ 0 → f ≤ fr → fr < f + l → onB ⟨k, s, f, l⟩ fr = true) := fun a b c => onB_t ⟨ho, a, b, c⟩
    have EF : Hid (¬ (k ≠ 0 ∧ f ≤ fr ∧ fr < f + l) → onB ⟨k, s, f, l⟩ fr = false) := fun h => onB_f fun o => h o.2
    clear ho
    rcases (by omega : k = 0 ∨ (k ≠ 0 ∧ fr < f) ∨ (k ≠ 0 ∧ f ≤ fr ∧ f + l ≤ fr) ∨ (k ≠ 0 ∧ f ≤ fr ∧ fr < f + l)) with h | ⟨h, g⟩ | ⟨h, g, u⟩ | ⟨h, g, u⟩
    · have E := Lib.hid (EF.out (by omega))
      have d0 : (k != 0) = false := by simp [h]
      clear ET EF h
      go_enter Try.func11, Try.ntmps11
      go_wp2_with (first | (refine ld rfl _ rfl _ _ _ _ _ rfl KP.out.at_ ?_) | (go_at_call 9; (with_reducible refine (CK.out _).mono ?_); rintro e W ⟨rfl, hb⟩; replace KP := Lib.hid (KP.out.grow hb); clear hb CK; have c0 := KP.out.at_.fld.1) | fail)
      go_ret
      exact ⟨ret_bool E.out.symm, KP.out.old⟩
    · have E := Lib.hid (EF.out (by omega))
      clear ET EF
      have d0 : (k != 0) = true := by simp [h]
      have d1 : decide (f ≤ fr) = false := decide_eq_false (by omega)
      clear h g
      go_enter Try.func11, Try.ntmps11
      go_wp2_with (first | (refine ld rfl _ rfl _ _ _ _ _ rfl KP.out.at_ ?_) | (go_at_call 9; (with_reducible refine (CK.out _).mono ?_); rintro e W ⟨rfl, hb⟩; replace KP := Lib.hid (KP.out.grow hb); clear hb CK; obtain ⟨c0, c1, c2, c3⟩ := KP.out.at_.fld) | fail)
      go_ret
      exact ⟨ret_bool E.out.symm, KP.out.old⟩
    · have E := Lib.hid (EF.out (by omega))
      clear ET EF
      have d0 : (k != 0) = true := by simp [h]
      have d1 : decide (f ≤ fr) = true := decide_eq_true (by omega)
      have d2 : decide (fr < f + l) = false := decide_eq_false (by omega)
      have hw := HW.out
      clear h g u
      go_enter Try.func11, Try.ntmps11
      go_wp2_with (first | (refine ld rfl _ rfl _ _ _ _ _ rfl KP.out.at_ ?_) | (go_at_call 9; (with_reducible refine (CK.out _).mono ?_); rintro e W ⟨rfl, hb⟩; replace KP := Lib.hid (KP.out.grow hb); clear hb CK; obtain ⟨c0, c1, c2, c3⟩ := KP.out.at_.fld) | fail)
      go_ret
      exact ⟨ret_bool E.out.symm, KP.out.old⟩
    · have E := Lib.hid (ET.out h g u)
      clear ET EF
      have d0 : (k != 0) = true := by simp [h]
      have d1 : decide (f ≤ fr) = true := decide_eq_true (by omega)
      have d2 : decide (fr < f + l) = true := decide_eq_true (by omega)
      have hw := HW.out
      clear h g u
      go_enter Try.func11, Try.ntmps11
      go_wp2_with (first | (refine ld rfl _ rfl _ _ _ _ _ rfl KP.out.at_ ?_) | (go_at_call 9; (with_reducible refine (CK.out _).mono ?_); rintro e W ⟨rfl, hb⟩; replace KP := Lib.hid (KP.out.grow hb); clear hb CK; obtain ⟨c0, c1, c2, c3⟩ := KP.out.at_.fld) | fail)
      go_ret
      exact ⟨ret_bool E.out.symm, KP.out.old⟩
  · have CK := Lib.hid (fun w => check_no ho w)
    have E : Hid (onB ⟨k, s, f, l⟩ fr = false) := onB_f fun o => ho o.1
    clear ho
    go_enter Try.func11, Try.ntmps11
    go_wp2_with (first | (refine ld rfl _ rfl _ _ _ _ _ rfl KP.out.at_ ?_) | (go_at_call 9; (with_reducible refine (CK.out _).mono ?_); rintro e W ⟨rfl, hb⟩; replace KP := Lib.hid (KP.out.grow hb); clear hb CK; obtain ⟨c0, c1, c2, c3⟩ := KP.out.at_.fld) | fail)
    go_ret
    exact ⟨ret_bool E.out.symm, KP.out.old⟩
end Jw
end Go.Proofs.Ytealfomdfnpmpaa
