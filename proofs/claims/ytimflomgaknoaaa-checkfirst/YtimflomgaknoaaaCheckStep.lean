/- How a signal is behind one more value: check.Step. -/
import Derived.Test.YtimflomgaknoaaaCheckWrong
import Derived.Deep.DeepCutAuto
namespace Go.Proofs.Ytimflomgaknoaaa
namespace Cw
open Go.RowKit Ck Lk

abbrev zw : Wa := ⟨0, 0, 0, 0, false, false⟩
theorem step_stw {ops : Array Oper} {o : Oper} {a : Act} {w : World} {K : Act → World → Prop} {Q : Exit → Act → World → Prop} {E : Prop} (hgd : o.guard = none) (x y : Operand) (ho : o.op = .store 25 x y) (hd : o.dst = none)
    (g : Nat) (q p : Wa) (hx : a.eval x = .pointer (some ⟨g, 0, none⟩)) (hy : a.eval y = .agg (wc p)) (hP : w.heap[g]? = some (wob q))
    (h : ∀ w', w'.heap[g]? = some (wob p) → Off g w w' → K a w') : if Region.wanted o (yielded ops a.tmps) = true then Oper.wp Try.prog o a w K Q else E := by
  simp only [Region.wanted, hgd, if_true]
  refine wp_store_row 25 x y ho g (wc p) hx hy 25 (wc q) hP info_wc rfl (wc_one p) ?_
  rw [hd]
  exact h _ (setRow_heap w g (wc q) (wc p) 25 (0, 0) hP) (Off.row w g _)
theorem ne3 {a b c j : Nat} {A B C : Obj} (h1 : a < j) (h2 : b < j) (h3 : c < j) : ∀ e ∈ [(a, A), (b, B), (c, C)], e.1 ≠ j := by
  simp; omega
theorem skip1 {w W : World} {L : List (Nat × Obj)} {e f : Nat × Obj} (h : Hv w W (e :: f :: L)) : Hv w W (e :: L) := h.tail.tail.add e h.head
/-- A watch's block, stored into cell by cell. -/
theorem set6 {w W : World} {L : List (Nat × Obj)} {m : Nat} {q : Wa} (h : Hv w W ((m, wob q) :: L)) (hn : ∀ e ∈ L, e.1 ≠ m) (hm : w.heap.size ≤ m) (a b c d : Int) (e f : Bool) :
    Hv w ((((((W.setCell ⟨m, 0, none⟩ (.int .i64 a)).setCell ⟨m, 1, none⟩ (.int .i64 b)).setCell ⟨m, 2, none⟩ (.int .i64 c)).setCell ⟨m, 3, none⟩ (.int .i64 d)).setCell ⟨m, 4, none⟩ (.bool e)).setCell ⟨m, 5, none⟩ (.bool f)) ((m, wob ⟨a, b, c, d, e, f⟩) :: L) :=
  h.change ((((((Off.refl m W).set 0 _).set 1 _).set 2 _).set 3 _).set 4 _ |>.set 5 _) (Joins.block_setCell (Joins.block_setCell (Joins.block_setCell (Joins.block_setCell (Joins.block_setCell (Joins.block_setCell h.head _) _) _) _) _) _) hn hm
/-- Whether a signal is lost, stored. -/
theorem stb {ops : Array Oper} {rest : List Oper} {op : Oper} {a : Act} {w : World} {Q : Exit → Act → World → Prop} (hgd : op.guard = none) (x y : Operand) (ho : op.op = .store 4 x y) (hd : op.dst = none)
    (g : Nat) (q : Wa) (b : Bool) (hx : a.eval x = .pointer (some ⟨g, 4, none⟩)) (hy : a.eval y = .bool b) (hP : w.heap[g]? = some (wob q))
    (h : ∀ w', w'.heap[g]? = some (wob { q with lost := b }) → Off g w w' → wpList Try.prog ops Q rest a w') : wpList Try.prog ops Q (op :: rest) a w := by
  have c := (wfld hP).2.2.2.2.1
  have f := Joins.unfrozen_of_block hP 4
  refine wpList_plain hgd fun _ hK => ?_
  have H := hK _ _ (h _ (Joins.block_setCell hP (i := 4) (.bool b)) ((Off.refl g w).set 4 (.bool b)))
  unfold Oper.wp execOp
  simp only [ho, hx, hy, Instr.storeAt, Instr.sureAddr, Sem.run_bind, Sem.run_pure, Result.andThen_ok]
  simp [go_sem, c, f, hd]
  exact H
theorem three (w : World) (l : Lm) (x : Wa) : Hv w (((w.alloc (lob l)).alloc (wob x)).alloc (wob zw)) [(w.heap.size + 2, wob zw), (w.heap.size + 1, wob x), (w.heap.size, lob l)] := by
  have := (two_lw w l x).made (wob zw)
  rwa [World.size_alloc, World.size_alloc] at this

set_option maxRecDepth 100000 in
set_option maxHeartbeats 4000000 in
theorem step_1 (l : Lm) (x : Wa) (v : Int) (hk : ¬ Ok l) (w : World) : Calls Try.prog 8 #[.agg (lc l), .agg (wc x), .int .i64 v] w fun e w' => e = .returned (.tuple #[.agg (wc x), .bool false]) ∧ Below w.heap.size w w' := by
  have HV := Lib.hid (three w l x)
  have CK := Lib.hid (check_no hk)
  clear hk
  go_enter Try.func8, Try.ntmps8
  go_wp2_with (first | (refine ldl rfl _ rfl _ _ rfl HV.out.h3 ?_) | (refine ldw rfl _ rfl _ _ rfl HV.out.h2 ?_) | (go_at_call 10; (with_reducible refine (CK.out _).mono ?_); rintro e W ⟨rfl, hb⟩; replace HV := Lib.hid (HV.out.grow hb); clear hb CK) | (refine stw rfl _ _ rfl rfl _ _ x rfl rfl HV.out.head ?_; intro W6 h1 h2; have HP := Lib.hid h1; replace HV := Lib.hid (HV.out.change h2 h1 (by simp) (by omega)); clear h1 h2) | fail)
  refine bodyPost_ret (res2 rfl _ _ _ _ rfl HP.out) rfl ?_
  exact ⟨rfl, HV.out.old⟩

end Cw
end Go.Proofs.Ytimflomgaknoaaa
