/- 'awake' of layer 10's statements answers true, and leaves all that lay; SynthNames. -/
import Derived.Test.YtnaiphhadfolpaaSynthModel
import Derived.ChangeKeysEq
namespace Go.Proofs.Ytnaiphhadfolpaa
namespace Ew
open Go.RowKit TabC Lk

/-- The statements' own engine; its lists lie in the blocks behind N. -/
def K0 : Em.En := ⟨[0, 1000], [200, 900], [0, 1000], [0, 10000], [0, 10000], [0, 8000], [0, 1000], [0, 900], 8, 8, 4, 50, 1500, 1000, 100, 0⟩
def E0 (N : Nat) : Eg := ⟨⟨some ⟨N + 1, 0, none⟩, some ⟨N + 1 + 1, 0, none⟩, 2, 2, [0, 1000], [200, 900]⟩, ⟨some ⟨N + 1 + 1 + 1, 0, none⟩, some ⟨N + 1 + 1 + 1 + 1, 0, none⟩, 2, 2, [0, 1000], [0, 10000]⟩, ⟨some ⟨N + 1 + 1 + 1 + 1 + 1, 0, none⟩, some ⟨N + 1 + 1 + 1 + 1 + 1 + 1, 0, none⟩, 2, 2, [0, 10000], [0, 8000]⟩, ⟨some ⟨N + 1 + 1 + 1 + 1 + 1 + 1 + 1, 0, none⟩, some ⟨N + 1 + 1 + 1 + 1 + 1 + 1 + 1 + 1, 0, none⟩, 2, 2, [0, 1000], [0, 900]⟩, 8, 8, 4, 50, 1500, 1000, 100, 0⟩
theorem en_E0 (N : Nat) : en (E0 N) = K0 := rfl
theorem made0 (w : World) : EngIn (((((((((w.alloc (eo (E0 w.heap.size))).alloc (ro [0, 1000])).alloc (ro [200, 900])).alloc (ro [0, 1000])).alloc (ro [0, 10000])).alloc (ro [0, 10000])).alloc (ro [0, 8000])).alloc (ro [0, 1000])).alloc (ro [0, 900])) (E0 w.heap.size) ∧ Below w.heap.size w (((((((((w.alloc (eo (E0 w.heap.size))).alloc (ro [0, 1000])).alloc (ro [200, 900])).alloc (ro [0, 1000])).alloc (ro [0, 10000])).alloc (ro [0, 10000])).alloc (ro [0, 8000])).alloc (ro [0, 1000])).alloc (ro [0, 900])) ∧ (((((((((w.alloc (eo (E0 w.heap.size))).alloc (ro [0, 1000])).alloc (ro [200, 900])).alloc (ro [0, 1000])).alloc (ro [0, 10000])).alloc (ro [0, 10000])).alloc (ro [0, 8000])).alloc (ro [0, 1000])).alloc (ro [0, 900])).heap[w.heap.size]? = some (eo (E0 w.heap.size)) := by
  have h := (((((((((Hv.nil w).made (eo (E0 w.heap.size))).made (ro [0, 1000])).made (ro [200, 900])).made (ro [0, 1000])).made (ro [0, 10000])).made (ro [0, 10000])).made (ro [0, 8000])).made (ro [0, 1000])).made (ro [0, 900])
  simp only [World.size_alloc] at h
  have g : ∀ (n : Nat) (l : List Int), (n, ro l) ∈ _ → Lk.IntsAt _ .i64 (some ⟨n, 0, none⟩) l := fun n l hm => ints_row (h.has (n, ro l) hm)
  refine ⟨⟨⟨by show 2 ≤ _; decide, by show 2 ≤ _; decide, ?_, ?_⟩, ⟨by show 2 ≤ _; decide, by show 2 ≤ _; decide, ?_, ?_⟩, ⟨by show 2 ≤ _; decide, by show 2 ≤ _; decide, ?_, ?_⟩, ⟨by show 2 ≤ _; decide, by show 2 ≤ _; decide, ?_, ?_⟩⟩, h.old, h.has (w.heap.size, _) (by simp)⟩
  all_goals exact g _ _ (by simp [E0])

/-- A result that is an engine, in a cell. -/
theorem res_e {fn : Func} {p : Tmp} (h : fn.results = #[.cell p 27]) (tmps : Array Value) (w : World) (g : Nat) (e : Eg) (hp : tmps.getD p undef = .pointer (some ⟨g, 0, none⟩)) (hP : w.heap[g]? = some (eo e)) :
    (results fn tmps).run Try.prog w = .ok (.agg (ec e)) w := by
  have hp' : tmps[p]?.getD undef = .pointer (some ⟨g, 0, none⟩) := by simpa using hp
  simp [results, h, hp', asAddr, run_loadVar_row (P := Try.prog) w g 27 27 (ec e) (0, 0) _ hP Try.underlying27 rfl info_e]

set_option maxHeartbeats 4000000 in
theorem engine_c (w : World) : Calls Try.prog 17 #[] w fun r w' => ∃ e, en e = K0 ∧ r = .returned (.agg (ec e)) ∧ EngIn w' e ∧ Below w.heap.size w w' := by
  have HM := Lib.hid (made0 w)
  go_enter Try.func17, Try.ntmps17
  go_wp2_with fail
  refine bodyPost_ret (res_e rfl _ _ _ (E0 w.heap.size) rfl HM.out.2.2) rfl ?_
  exact ⟨E0 w.heap.size, rfl, rfl, HM.out.1, HM.out.2.1⟩

theorem cells_int : Try.prog.cellsOf 3 = 1 := by kernel_rfl
theorem info_int : ∃ i, Try.prog.info? 3 = some i := Option.isSome_iff_exists.1 (by kernel_rfl)
theorem range5 : List.range 5 = [0, 1, 2, 3, 4] := rfl
/-- Two arrays of five that are the same. -/
theorem eq5 (a b c d e : Int) (w : World) : (Op.equalIn 10000 28 (.agg #[.int .i64 a, .int .i64 b, .int .i64 c, .int .i64 d, .int .i64 e]) (.agg #[.int .i64 a, .int .i64 b, .int .i64 c, .int .i64 d, .int .i64 e])).run Try.prog w = .ok true w := by
  obtain ⟨i, hi⟩ := info_int
  rw [run_equalIn_array w 9999 _ _ Try.underlying28 hi, cells_int, range5]
  simp only [Op.eqItems, Nat.mul_one]
  simp [go_sem]

/-- No engine. -/
def Z0 : Eg := ⟨⟨none, none, 0, 0, [], []⟩, ⟨none, none, 0, 0, [], []⟩, ⟨none, none, 0, 0, [], []⟩, ⟨none, none, 0, 0, [], []⟩, 0, 0, 0, 0, 0, 0, 0, 0⟩
abbrev zc : Array Value := #[.slice none 0 0, .slice none 0 0, .slice none 0 0, .slice none 0 0, .slice none 0 0, .slice none 0 0, .slice none 0 0, .slice none 0 0, .int .i64 0, .int .i64 0, .int .i64 0, .int .i64 0, .int .i64 0, .int .i64 0, .int .i64 0, .int .i64 0]
abbrev zoe : Obj := .cells zc 27 (0, 0)
theorem none_in (W : World) : EngIn W Z0 := by
  have t : TabIn W none none [] [] := ⟨by decide, by decide, fun i hi => by simp at hi, fun i hi => by simp at hi⟩
  exact ⟨t, t, t, t⟩
theorem k_none (W : World) : Calls Try.prog 12 #[.agg zc] W fun r w' => r = .returned (.int .i64 100) ∧ Below W.heap.size W w' := check_no Z0 W (none_in W) (by decide +kernel)
theorem k_check {e : Eg} (h : en e = K0) (W : World) (hE : EngIn W e) : Calls Try.prog 12 #[.agg (ec e)] W fun r w' => r = .returned (.int .i64 0) ∧ Below W.heap.size W w' := check_ok e W hE (by rw [h]; decide +kernel)
theorem k_rest {e : Eg} (h : en e = K0) (W : World) (hE : EngIn W e) : Calls Try.prog 10 #[.agg (ec e), .int .i64 500] W fun r w' => r = .returned (.tuple #[.int .i64 5000, .int .i64 4000, .int .i64 450]) ∧ Below W.heap.size W w' := by
  have := rest_c e 500 W hE
  rw [h] at this
  rwa [show Em.r2 K0 500 = 5000 from by decide +kernel, show Em.r1 K0 500 = 4000 from by decide +kernel, show Em.rh K0 500 = 450 from by decide +kernel] at this
theorem k_model {e : Eg} (h : en e = K0) (W : World) (hE : EngIn W e) : Calls Try.prog 14 #[.agg (ec e), .agg (r5 4000 5000 0 7 500)] W fun r w' => r = .returned (.agg (r5 4000 5000 450 7 500)) ∧ Below W.heap.size W w' := by
  have := model_c e (fun k => [4000, 5000, 0, 7, 500].getD k 0) W hE
  rw [h] at this
  unfold i5 at this
  rwa [show Em.model K0 (fun k => [4000, 5000, 0, 7, 500].getD k 0) 0 = 4000 from by decide +kernel, show Em.model K0 (fun k => [4000, 5000, 0, 7, 500].getD k 0) 1 = 5000 from by decide +kernel, show Em.model K0 (fun k => [4000, 5000, 0, 7, 500].getD k 0) 2 = 450 from by decide +kernel, show Em.model K0 (fun k => [4000, 5000, 0, 7, 500].getD k 0) 3 = 7 from by decide +kernel, show Em.model K0 (fun k => [4000, 5000, 0, 7, 500].getD k 0) 4 = 500 from by decide +kernel] at this

section
variable {ops : Array Oper} {rest : List Oper} {op : Oper} {a : Act} {w : World} {Q : Exit → Act → World → Prop}
/-- An engine stored as a whole into a new block. -/
theorem stz (hgd : op.guard = none) (x y : Operand) (ho : op.op = .store 27 x y) (hd : op.dst = none)
    (g : Nat) (p : Eg) (hx : a.eval x = .pointer (some ⟨g, 0, none⟩)) (hy : a.eval y = .agg (ec p)) (hP : w.heap[g]? = some zoe)
    (h : ∀ w', w'.heap[g]? = some (eo p) → Off g w w' → wpList Try.prog ops Q rest a w') : wpList Try.prog ops Q (op :: rest) a w :=
  ste hgd x y ho hd g Z0 p hx hy hP h
theorem st5 (hgd : op.guard = none) (x y : Operand) (ho : op.op = .store 28 x y) (hd : op.dst = none)
    (g : Nat) {a0 a1 a2 a3 a4 b0 b1 b2 b3 b4 : Int} (hx : a.eval x = .pointer (some ⟨g, 0, none⟩)) (hy : a.eval y = .agg (r5 b0 b1 b2 b3 b4)) (hP : w.heap[g]? = some (ob5 a0 a1 a2 a3 a4))
    (h : ∀ w', w'.heap[g]? = some (ob5 b0 b1 b2 b3 b4) → Off g w w' → wpList Try.prog ops Q rest a w') : wpList Try.prog ops Q (op :: rest) a w :=
  sti hgd x y ho hd g (fun k => [a0, a1, a2, a3, a4].getD k 0) (fun k => [b0, b1, b2, b3, b4].getD k 0) hx hy hP h
theorem ld5 (hw : Region.wanted op (yielded ops a.tmps) = true) (x : Operand) (ho : op.op = .load 28 x)
    (b : Nat) (b0 b1 b2 b3 b4 : Int) (hx : a.eval x = .pointer (some ⟨b, 0, none⟩)) (hP : w.heap[b]? = some (ob5 b0 b1 b2 b3 b4))
    (c : wpList Try.prog ops Q rest (a.put op.dst (.agg (r5 b0 b1 b2 b3 b4))) w) : wpList Try.prog ops Q (op :: rest) a w :=
  ldi hw x ho b (fun k => [b0, b1, b2, b3, b4].getD k 0) hx hP c
end

set_option maxRecDepth 100000 in
set_option maxHeartbeats 8000000 in
theorem awake_c (w : World) : Calls Try.prog 8 #[] w fun r w' => r = .returned (.bool true) ∧ Below w.heap.size w w' := by
  have HV := Lib.hid (Hv.nil w)
  go_enter Try.func8, Try.ntmps8
  go_wp2_with fail
  refine (engine_c w).mono ?_
  rintro r W0 ⟨e, he, rfl, hE, hb⟩
  have HE := Lib.hid hE
  have HK := Lib.hid he
  replace HV := Lib.hid ((HV.out.grow hb).made (eo e))
  have HG := Lib.hid (fun W (hb : Below W0.heap.size W0 W) => hE.below hb)
  have HB := Lib.hid ((Below.refl W0.heap.size W0).alloc (Nat.le_refl _) (eo e))
  clear hE he hb HE
  have HR := Lib.hid (fun W h => k_rest HK.out W (HG.out W h))
  have HM := Lib.hid (fun W h => k_model HK.out W (HG.out W h))
  have HC := Lib.hid (fun W h => k_check HK.out W (HG.out W h))
  clear HG HK
  have E5 := eq5 4000 5000 450 7 500
  go_wp2_with (first | (refine lde rfl _ rfl _ _ rfl HV.out.head ?_) | (refine lde rfl _ rfl _ _ rfl HV.out.h2 ?_) | (refine ld5 rfl _ rfl _ _ _ _ _ _ rfl HV.out.head ?_) | (go_at_call 10; (with_reducible refine (HR.out _ HB.out).mono ?_); rintro r W ⟨rfl, hb⟩; replace HV := Lib.hid (HV.out.grow hb); replace HB := Lib.hid (HB.out.trans (hb.mono HB.out.size)); clear hb) | (go_at_call 14; (with_reducible refine (HM.out _ HB.out).mono ?_); rintro r W ⟨rfl, hb⟩; replace HV := Lib.hid ((HV.out.grow hb).made (ob5 4000 5000 450 7 500)); replace HB := Lib.hid ((HB.out.trans (hb.mono HB.out.size)).alloc ((HB.out.trans (hb.mono HB.out.size)).size) (ob5 4000 5000 450 7 500)); clear hb) | (go_at_call 12; (with_reducible refine (HC.out _ HB.out).mono ?_); rintro r W ⟨rfl, hb⟩; replace HV := Lib.hid (HV.out.grow hb); replace HB := Lib.hid (HB.out.trans (hb.mono HB.out.size)); clear hb HC) | (go_at_call 12; (with_reducible refine (k_none _).mono ?_); rintro r W ⟨rfl, hb⟩; replace HV := Lib.hid (HV.out.grow hb); clear hb) | fail)
  go_ret
  exact ⟨rfl, HV.out.old⟩

theorem SynthNames_walk (w : World) : Calls Try.prog 3 #[] w fun r w' => r = .returned (.bool true) ∧ Below w.heap.size w w' := by
  go_enter Try.func3, Try.ntmps3
  go_wp2_with (first | (go_at_call 8; (with_reducible refine (awake_c _).mono ?_); rintro r W ⟨rfl, hb⟩) | fail)
  go_ret
  exact ⟨rfl, hb⟩
end Ew
end Go.Proofs.Ytnaiphhadfolpaa
