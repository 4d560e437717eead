/- 'awake' of layer 18's statements answers true, and leaves all that lay. -/
import Derived.Test.YtamlfoheoooapaaDoorHealthRef2
namespace Go.Proofs.YtamlfoheoooapaaDoor
namespace Qw
open Go.RowKit Lk

abbrev ga (a b c d e : Bool) : Array Value := #[.bool a, .bool b, .bool c, .bool d, .bool e]
abbrev gao (a b c d e : Bool) : Obj := .cells (ga a b c d e) 24 (0, 0)
abbrev RO (t : TypeId) : Nat × Obj := (0, .cells cc t (0, 0))
theorem score_v (f : Nat → Bool) (q y : Int) (h : Hh.sc f q = y) (t : TypeId) (w : World) (hR : w.heap[0]? = some (.cells cc t (0, 0))) :
    Calls Tryd.prog 9 #[.agg (g5 f), .int .i64 q] w fun r w' => r = .returned (.int .i64 y) ∧ Below w.heap.size w w' := h ▸ score_c f q t w hR
theorem step_v (q s : Int) (f : Nat → Bool) (g : Bool) (p y : Int) (hp : Hh.nq q g = p) (hy : Hh.sc f p = y) (t : TypeId) (w : World) (hR : w.heap[0]? = some (.cells cc t (0, 0))) :
    Calls Tryd.prog 11 #[.agg (hc q s), .agg (g5 f), .bool g] w fun r w' => r = .returned (.agg (hc p y)) ∧ Below w.heap.size w w' := by
  subst hp hy
  exact step_c q s f g t w hR
theorem well_v (q s : Int) (b : Bool) (h : Hh.well q s = b) (w : World) : Calls Tryd.prog 13 #[.agg (hc q s)] w fun r w' => r = .returned (.bool b) ∧ Below w.heap.size w w' := h ▸ well_c q s w
theorem two_a {w : World} {t : TypeId} (hR : w.heap[0]? = some (.cells cc t (0, 0))) : Hv w ((w.alloc (gao false true false false false)).alloc (gao true true false false false)) [(w.heap.size + 1, gao true true false false false), (w.heap.size, gao false true false false false), RO t] := by
  have := (((Hv.nil w).add (RO t) hR).made (gao false true false false false)).made (gao true true false false false)
  simpa only [World.size_alloc] using this
section
variable {ops : Array Oper} {rest : List Oper} {op : Oper} {a : Act} {w : World} {Q : Exit → Act → World → Prop}
theorem ldb (hw : Region.wanted op (yielded ops a.tmps) = true) (x : Operand) (ho : op.op = .load 24 x) (g : Nat) (b0 b1 b2 b3 b4 : Bool) (hx : a.eval x = .pointer (some ⟨g, 0, none⟩)) (hP : w.heap[g]? = some (gao b0 b1 b2 b3 b4))
    (c : wpList Tryd.prog ops Q rest (a.put op.dst (.agg (ga b0 b1 b2 b3 b4))) w) : wpList Tryd.prog ops Q (op :: rest) a w :=
  Lk.wanted hw fun _ hK => wp_load_row 24 x ho g hx 24 (ga b0 b1 b2 b3 b4) (0, 0) _ hP Tryd.underlying24 rfl info_g (hK _ _ c)
end

set_option maxRecDepth 100000 in
set_option maxHeartbeats 8000000 in
theorem awake_c (t : TypeId) (w : World) (hR : w.heap[0]? = some (.cells cc t (0, 0))) : Calls Tryd.prog 8 #[] w fun r w' => r = .returned (.bool true) ∧ Below w.heap.size w w' := by
  have HV := Lib.hid (two_a hR)
  have S0 : Hid (∀ W : World, W.heap[0]? = some (.cells cc t (0, 0)) → Calls Tryd.prog 9 #[.agg (ga false false false false false), .int .i64 0] W fun r w' => r = .returned (.int .i64 255) ∧ Below W.heap.size W w') := fun W h => score_v Hh.no 0 255 (by decide) t W h
  have S6 : Hid (∀ W : World, W.heap[0]? = some (.cells cc t (0, 0)) → Calls Tryd.prog 9 #[.agg (ga false false false false false), .int .i64 6] W fun r w' => r = .returned (.int .i64 0) ∧ Below W.heap.size W w') := fun W h => score_v Hh.no 6 0 (by decide) t W h
  have S1 : Hid (∀ W : World, W.heap[0]? = some (.cells cc t (0, 0)) → Calls Tryd.prog 9 #[.agg (ga false true false false false), .int .i64 0] W fun r w' => r = .returned (.int .i64 155) ∧ Below W.heap.size W w') := fun W h => score_v (Hh.put Hh.no 1) 0 155 (by decide) t W h
  have S2 : Hid (∀ W : World, W.heap[0]? = some (.cells cc t (0, 0)) → Calls Tryd.prog 9 #[.agg (ga true true false false false), .int .i64 0] W fun r w' => r = .returned (.int .i64 95) ∧ Below W.heap.size W w') := fun W h => score_v (Hh.put (Hh.put Hh.no 1) 0) 0 95 (by decide) t W h
  have ST : Hid (∀ W : World, W.heap[0]? = some (.cells cc t (0, 0)) → Calls Tryd.prog 11 #[.agg (hc 3 0), .agg (ga false true false false false), .bool false] W fun r w' => r = .returned (.agg (hc 4 75)) ∧ Below W.heap.size W w') := fun W h => step_v 3 0 (Hh.put Hh.no 1) false 4 75 (by decide) (by decide) t W h
  have W1 := Lib.hid (fun W => well_v 4 75 false (by decide) W)
  have W2 := Lib.hid (fun W => well_v 0 128 true (by decide) W)
  clear hR
  go_enter Tryd.func8, Tryd.ntmps8
  go_wp2_with (first
    | (go_at_call 11; (with_reducible refine (ST.out _ HV.out.h3).mono ?_); rintro r W ⟨rfl, hb⟩; replace HV := Lib.hid ((HV.out.grow hb).made (ho 4 75)); clear hb)
    | (go_at_call 9; (first | (with_reducible refine (S0.out _ HV.out.h4).mono ?_) | (with_reducible refine (S1.out _ HV.out.h4).mono ?_) | (with_reducible refine (S2.out _ HV.out.h4).mono ?_) | (with_reducible refine (S6.out _ HV.out.h4).mono ?_)); rintro r W ⟨rfl, hb⟩; replace HV := Lib.hid (HV.out.grow hb); clear hb)
    | (go_at_call 13; (first | (with_reducible refine (W1.out _).mono ?_) | (with_reducible refine (W2.out _).mono ?_)); rintro r W ⟨rfl, hb⟩; replace HV := Lib.hid (HV.out.grow hb); clear hb)
    | (refine ldb rfl _ rfl _ _ _ _ _ _ rfl HV.out.h2 ?_)
    | (refine ldh rfl _ rfl _ _ _ rfl HV.out.head ?_)
    | (refine ldb rfl _ rfl _ _ _ _ _ _ rfl HV.out.h3 ?_)
    | fail)
  go_ret
  exact ⟨rfl, HV.out.old⟩
end Qw
end Go.Proofs.YtamlfoheoooapaaDoor
