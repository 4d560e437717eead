/- Frames, and whether a channel is well: as values, as objects; loaded as a whole; compared. -/
import Derived.Test.YtgpgdmebojmobaaChecked
import Derived.Test.YtgpgdmebojmobaaLawKit
import Derived.Test.YtgpgdmebojmobaaArbiterMath
import Derived.WalkKit
import Derived.IntWalk
import Derived.WalkSpells
import Derived.Lib.Hide
import Derived.RegionTactic
import Derived.RegionCalls
import Derived.Handy
import Derived.Test.YtgpgdmebojmobaaObjKit
import Derived.Laws.StructEq
import Derived.ChangeKeysEq
import Derived.Deep.MidRow
import Derived.LoopTactic
import Derived.Deep.OwnRows
import Derived.BigFrameIn
import Derived.TacticsInMore
namespace Go.Proofs.Ytgpgdmebojmobaa
namespace Aw
open Go.RowKit Lk

/-- What is so in a frame. -/
abbrev fc (a b r : Bool) : Array Value := #[.bool a, .bool b, .bool r]
abbrev fo (a b r : Bool) : Obj := .cells (fc a b r) 34 (0, 0)
/-- Which of two are well. -/
abbrev wc (p : Bool × Bool) : Array Value := #[.bool p.1, .bool p.2]
theorem info_f : (Try.prog.info? 34).map (·.size) = some 3 := by kernel_rfl
theorem info_p : (Try.prog.info? 30).map (·.size) = some 2 := by kernel_rfl
theorem eqin_f (a b r a' b' r' : Bool) (w : World) : (Op.equalIn 10000 34 (.agg (fc a b r)) (.agg (fc a' b' r'))).run Try.prog w = .ok (a == a' && (b == b' && r == r')) w := by
  simp [go_sem, fc]
  cases a <;> cases a' <;> cases b <;> cases b' <;> cases r <;> cases r' <;> simp
theorem eq_f (a b r a' b' r' : Bool) (w : World) : (binOp .eql 34 (.agg (fc a b r)) (.agg (fc a' b' r'))).run Try.prog w = .ok (.bool (a == a' && (b == b' && r == r'))) w := by
  rw [run_eql_struct, eqin_f]
  rfl
theorem rF {op : Oper} {u : Act} {w : World} {a b r : Bool} (x : Operand) (ho : op.op = .load 34 x) (g : Nat) (hx : u.eval x = .pointer (some ⟨g, 0, none⟩)) (hP : w.heap[g]? = some (fo a b r)) : (execOp u.eval op).run Try.prog w = .ok (.value (.agg (fc a b r))) w := by
  unfold execOp
  simp only [ho, hx, Instr.loadAt, Instr.sureAddr, Sem.run_bind, Sem.run_pure, Result.andThen_ok, run_loadVar_row w g 34 34 (fc a b r) (0, 0) _ hP Try.underlying34 rfl info_f]
theorem res_f {fn : Func} {p : Tmp} (h : fn.results = #[.cell p 34]) (tmps : Array Value) (w : World) (g : Nat) (a b r : Bool) (hp : tmps.getD p undef = .pointer (some ⟨g, 0, none⟩)) (hP : w.heap[g]? = some (fo a b r)) :
    (results fn tmps).run Try.prog w = .ok (.agg (fc a b r)) w := by
  have hp' : tmps[p]?.getD undef = .pointer (some ⟨g, 0, none⟩) := by simpa using hp
  simp [results, h, hp', asAddr, run_loadVar_row (P := Try.prog) w g 34 34 (fc a b r) (0, 0) _ hP Try.underlying34 rfl info_f]
theorem stf {ops : Array Oper} {rest : List Oper} {op : Oper} {u : Act} {w : World} {Q : Exit → Act → World → Prop} (hgd : op.guard = none) (x y : Operand) (ho : op.op = .store 34 x y) (hd : op.dst = none)
    (g : Nat) (a b r a' b' r' : Bool) (hx : u.eval x = .pointer (some ⟨g, 0, none⟩)) (hy : u.eval y = .agg (fc a' b' r')) (hP : w.heap[g]? = some (fo a b r))
    (h : ∀ w', w'.heap[g]? = some (fo a' b' r') → Off g w w' → wpList Try.prog ops Q rest u w') : wpList Try.prog ops Q (op :: rest) u w := by
  refine wpList_plain hgd fun _ hK => wp_store_row 34 x y ho g (fc a' b' r') hx hy 34 (fc a b r) hP info_f rfl (by simp [Value.oneCell']) (hK _ _ ?_)
  rw [hd]
  exact h _ (setRow_heap w g (fc a b r) (fc a' b' r') 34 (0, 0) hP) (Off.row w g _)

/-- Two that are well or not, loaded out of the midst of a block, inside a fence. -/
theorem ldpIn {F : Fence} {n : Nat} {ops : Array Oper} {rest : List Oper} {op : Oper} {u : Act} {w : World} {Q : Exit → Act → World → Prop} (hw : Region.wanted op (yielded ops u.tmps) = true) (x : Operand) (ho : op.op = .load 30 x)
    (g off : Nat) (p : Bool × Bool) (hx : u.eval x = .pointer (some ⟨g, off, none⟩)) (hP : w.rangeAt g off (wc p).toList)
    (c : wpListIn F n Try.prog ops Q rest (u.put op.dst (.agg (wc p))) w) : wpListIn F n Try.prog ops Q (op :: rest) u w := by
  refine BigFrame.wpListIn_want hw fun K hK => ⟨fun g hg => ?_, ?_⟩
  · simp [Oper.about, ho] at hg
  · rw [Oper.semAt_eq _ _ _ (by simp [ho])]
    unfold execOp
    simp only [ho, hx, Instr.loadAt, Instr.sureAddr, Sem.run_bind, Sem.run_pure, Result.andThen_ok, run_loadVar_mid w g off 30 (wc p).toList _ hP Try.underlying30 rfl info_p]
    exact hK _ _ c

set_option maxRecDepth 100000 in
set_option maxHeartbeats 4000000 in
/-- A frame as it would have to be. -/
theorem fit_c (a b r : Bool) (x : Int) (w : World) :
    Calls Try.prog 13 #[.agg (fc a b r), .int .i64 x] w fun e w' => e = .returned (.agg (if x = 0 then fc true b false else fc a true false)) ∧ Below w.heap.size w w' := by
  have HB : Hid (Hv w ((w.alloc (fo a b r)).alloc (fo false false false)) [(w.heap.size + 1, fo false false false), (w.heap.size, fo a b r)]) := by
    have := ((Hv.nil w).made (fo a b r)).made (fo false false false)
    simp only [World.size_alloc] at this
    exact Lib.hid this
  by_cases hx : x = 0
  · subst hx
    rw [if_pos rfl]
    go_enter Try.func13, Try.ntmps13
    go_wp2_with (first
      | (refine stf rfl _ _ rfl rfl _ false false false _ _ _ rfl rfl HB.out.head ?_; intro w3 hg hoff; replace HB := Lib.hid (HB.out.change hoff hg (by simp) (by omega)); clear hg hoff)
      | fail)
    refine bodyPost_ret (res_f rfl _ _ _ _ _ _ rfl HB.out.head) rfl ?_
    exact ⟨rfl, HB.out.old⟩
  · rw [if_neg hx]
    have hx1 : (x == 0) = false := by simpa using hx
    clear hx
    go_enter Try.func13, Try.ntmps13
    go_wp2_with (first
      | (refine stf rfl _ _ rfl rfl _ false false false _ _ _ rfl rfl HB.out.head ?_; intro w3 hg hoff; replace HB := Lib.hid (HB.out.change hoff hg (by simp) (by omega)); clear hg hoff)
      | fail)
    refine bodyPost_ret (res_f rfl _ _ _ _ _ _ rfl HB.out.head) rfl ?_
    exact ⟨rfl, HB.out.old⟩
end Aw
end Go.Proofs.Ytgpgdmebojmobaa
