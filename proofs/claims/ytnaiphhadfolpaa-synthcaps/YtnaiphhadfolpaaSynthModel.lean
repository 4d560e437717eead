/- synth.Model: what each signal should be, by the others. -/
import Derived.Test.YtnaiphhadfolpaaSynthRest
namespace Go.Proofs.Ytnaiphhadfolpaa
namespace Ew
open Go.RowKit TabC Lk

abbrev r5 (a b c d e : Int) : Array Value := #[.int .i64 a, .int .i64 b, .int .i64 c, .int .i64 d, .int .i64 e]
abbrev ob5 (a b c d e : Int) : Obj := .cells (r5 a b c d e) 28 (0, 0)
theorem res_5 {fn : Func} {p : Tmp} (h : fn.results = #[.cell p 28]) (tmps : Array Value) (w : World) (g : Nat) (a b c d e : Int) (hp : tmps.getD p undef = .pointer (some ⟨g, 0, none⟩)) (hP : w.heap[g]? = some (ob5 a b c d e)) :
    (results fn tmps).run Try.prog w = .ok (.agg (r5 a b c d e)) w := by
  have hp' : tmps[p]?.getD undef = .pointer (some ⟨g, 0, none⟩) := by simpa using hp
  simp [results, h, hp', asAddr, run_loadVar_row (P := Try.prog) w g 28 28 (r5 a b c d e) (0, 0) _ hP Try.underlying28 rfl info_i5]
theorem set5 {w W : World} {L : List (Nat × Obj)} {m : Nat} {a b c d e : Int} (h : Hv w W ((m, ob5 a b c d e) :: L)) (hn : ∀ x ∈ L, x.1 ≠ m) (hm : w.heap.size ≤ m) (a' b' c' d' e' : Int) :
    Hv w (((((W.setCell ⟨m, 0, none⟩ (.int .i64 a')).setCell ⟨m, 1, none⟩ (.int .i64 b')).setCell ⟨m, 2, none⟩ (.int .i64 c')).setCell ⟨m, 3, none⟩ (.int .i64 d')).setCell ⟨m, 4, none⟩ (.int .i64 e')) ((m, ob5 a' b' c' d' e') :: L) :=
  h.change (((((Off.refl m W).set 0 _).set 1 _).set 2 _).set 3 _ |>.set 4 _) (Joins.block_setCell (Joins.block_setCell (Joins.block_setCell (Joins.block_setCell (Joins.block_setCell h.head _) _) _) _) _) hn hm
abbrev I5 (V : World) (b : Nat) (v : Nat → Int) : Prop := V.cell? ⟨b, 0, none⟩ = some (.int .i64 (v 0)) ∧ V.cell? ⟨b, 1, none⟩ = some (.int .i64 (v 1)) ∧ V.cell? ⟨b, 2, none⟩ = some (.int .i64 (v 2)) ∧ V.cell? ⟨b, 3, none⟩ = some (.int .i64 (v 3)) ∧ V.cell? ⟨b, 4, none⟩ = some (.int .i64 (v 4))
theorem five {V : World} {b : Nat} {v : Nat → Int} (h : V.heap[b]? = some (io v)) : I5 V b v := ⟨Joins.cell_of_block h 0, Joins.cell_of_block h 1, Joins.cell_of_block h 2, Joins.cell_of_block h 3, Joins.cell_of_block h 4⟩
theorem three (w : World) (e : Eg) (v : Nat → Int) : Hv w (((w.alloc (eo e)).alloc (io v)).alloc (ob5 0 0 0 0 0)) [(w.heap.size + 2, ob5 0 0 0 0 0), (w.heap.size + 1, io v), (w.heap.size, eo e)] := by
  have := ((one_e w e).made (io v)).made (ob5 0 0 0 0 0)
  rwa [World.size_alloc, World.size_alloc] at this


set_option maxRecDepth 100000 in
set_option maxHeartbeats 4000000 in
theorem model_no (e : Eg) (v : Nat → Int) (w : World) (hE : EngIn w e) (h : Em.okB (en e) = false) : Calls Try.prog 14 #[.agg (ec e), .agg (i5 v)] w fun r w' => r = .returned (.agg (r5 0 0 0 0 0)) ∧ Below w.heap.size w w' := by
  have HV := Lib.hid (three w e v)
  have C0 := Lib.hid (check_no e _ (hE.old (three w e v)) h)
  clear hE h
  go_enter Try.func14, Try.ntmps14
  go_wp2_with (first | (refine lde rfl _ rfl _ _ rfl HV.out.h3 ?_) | (go_at_call 12; (with_reducible refine C0.out.mono ?_); rintro r W ⟨rfl, hb⟩; replace HV := Lib.hid (HV.out.grow hb); clear hb; have z0 := Joins.cell_of_block HV.out.head 0; have z1 := Joins.cell_of_block HV.out.head 1; have z2 := Joins.cell_of_block HV.out.head 2; have z3 := Joins.cell_of_block HV.out.head 3; have z4 := Joins.cell_of_block HV.out.head 4; have y0 := Joins.unfrozen_of_block HV.out.head 0; have y1 := Joins.unfrozen_of_block HV.out.head 1; have y2 := Joins.unfrozen_of_block HV.out.head 2; have y3 := Joins.unfrozen_of_block HV.out.head 3; have y4 := Joins.unfrozen_of_block HV.out.head 4; simp only [List.getElem?_toArray, List.getElem?_cons_zero, List.getElem?_cons_succ] at z0 z1 z2 z3 z4) | fail)
  replace HV := Lib.hid (set5 HV.out (by simp) (by omega) 0 0 0 0 0)
  refine bodyPost_ret (res_5 rfl _ _ _ _ _ _ _ _ rfl HV.out.head) rfl ?_
  exact ⟨rfl, HV.out.old⟩

set_option maxRecDepth 100000 in
set_option maxHeartbeats 4000000 in
theorem model_ok (e : Eg) (v : Nat → Int) (w : World) (hE : EngIn w e) (h : Em.okB (en e) = true) : Calls Try.prog 14 #[.agg (ec e), .agg (i5 v)] w fun r w' => r = .returned (.agg (i5 (Em.md (en e) v))) ∧ Below w.heap.size w w' := by
  have HV := Lib.hid (three w e v)
  have C0 := Lib.hid (check_ok e _ (hE.old (three w e v)) h)
  have hk := Em.ok_of h
  have kp : Tb.Ok e.p.xs e.p.ys := hk.p.ok
  have kq : Tb.Ok e.q.xs e.q.ys := hk.q.ok
  have kh : Tb.Ok e.h.xs e.h.ys := hk.h.ok
  have C1 : Hid (∀ W, Hv w W [(w.heap.size + 2, ob5 0 0 0 0 0), (w.heap.size + 1, io v), (w.heap.size, eo e)] → Calls Try.prog 19 #[.agg (ec e), .func (.func 21) #[] #[], .int .i64 (v 1)] W fun r w' => r = .returned (.int .i64 (Tb.atO e.q.xs e.q.ys (v 1))) ∧ Below W.heap.size W w') := fun W hv => by
    have := at_n1 e (v 1) W (hE.old hv).q; rwa [atv_of kq] at this
  have C2 : Hid (∀ W, Hv w W [(w.heap.size + 2, ob5 0 0 0 0 0), (w.heap.size + 1, io v), (w.heap.size, eo e)] → Calls Try.prog 29 #[.agg (ec e), .func (.func 21) #[] #[], .int .i64 (v 0)] W fun r w' => r = .returned (.int .i64 (Tb.bkO e.q.xs e.q.ys (v 0))) ∧ Below W.heap.size W w') := fun W hv => by
    have := back_n1 e (v 0) W (hE.old hv).q; rwa [bk_of kq] at this
  have C3 : Hid (∀ W, Hv w W [(w.heap.size + 2, ob5 0 0 0 0 0), (w.heap.size + 1, io v), (w.heap.size, eo e)] → Calls Try.prog 19 #[.agg (ec e), .func (.func 22) #[] #[], .int .i64 (v 4)] W fun r w' => r = .returned (.int .i64 (Tb.atO e.h.xs e.h.ys (v 4))) ∧ Below W.heap.size W w') := fun W hv => by
    have := at_heat e (v 4) W (hE.old hv).h; rwa [atv_of kh] at this
  have C4 : Hid (∀ W, Hv w W [(w.heap.size + 2, ob5 0 0 0 0 0), (w.heap.size + 1, io v), (w.heap.size, eo e)] → Calls Try.prog 29 #[.agg (ec e), .func (.func 20) #[] #[], .int .i64 (v 1)] W fun r w' => r = .returned (.int .i64 (Tb.bkO e.p.xs e.p.ys (v 1))) ∧ Below W.heap.size W w') := fun W hv => by
    have := back_n2 e (v 1) W (hE.old hv).p; rwa [bk_of kp] at this
  show Calls Try.prog _ _ w fun r w' => r = .returned (.agg (r5 (Tb.atO e.q.xs e.q.ys (v 1)) (Tb.bkO e.q.xs e.q.ys (v 0)) (Tb.atO e.h.xs e.h.ys (v 4)) (v 3) (Tb.bkO e.p.xs e.p.ys (v 1)))) ∧ Below w.heap.size w w'
  generalize Tb.atO e.q.xs e.q.ys (v 1) = a0 at C1 ⊢
  generalize Tb.bkO e.q.xs e.q.ys (v 0) = a1 at C2 ⊢
  generalize Tb.atO e.h.xs e.h.ys (v 4) = a2 at C3 ⊢
  generalize Tb.bkO e.p.xs e.p.ys (v 1) = a4 at C4 ⊢
  have HN : Hid (∀ x ∈ [(w.heap.size + 1, io v), (w.heap.size, eo e)], x.1 ≠ w.heap.size + 2) := by show ∀ x ∈ _, _; simp
  have HM : Hid (w.heap.size ≤ w.heap.size + 2) := by show _ ≤ _; omega
  clear hE h hk kp kq kh
  go_enter Try.func14, Try.ntmps14
  go_wp2_with (first | (refine lde rfl _ rfl _ _ rfl HV.out.h3 ?_) | (go_at_call 12; (with_reducible refine C0.out.mono ?_); rintro r W ⟨rfl, hb⟩; replace HV := Lib.hid (HV.out.grow hb); clear hb) | fail)
  go_region_held3 (fun V => EFld V w.heap.size e ∧ I5 V (w.heap.size + 1) v) (first | (with_reducible exact ⟨efld HV.out.h3, five HV.out.h2⟩) | (with_reducible exact ⟨efld HV.out.drew.h3, five HV.out.drew.h2⟩) | (with_reducible exact ⟨efld (set5 HV.out HN.out HM.out a0 a1 a2 (v 3) a4).h3, five (set5 HV.out HN.out HM.out a0 a1 a2 (v 3) a4).h2⟩) | fail)
    (first | (go_at_call 19; (first | (with_reducible refine (C1.out _ HV.out).mono ?_) | (with_reducible refine (C1.out _ HV.out.drew).mono ?_) | (with_reducible refine (C3.out _ HV.out).mono ?_)); rintro r W ⟨rfl, hb⟩; (first | (with_reducible replace HV := Lib.hid (HV.out.grow hb)) | (with_reducible replace HV := Lib.hid (HV.out.drew.grow hb))); clear hb) | (go_at_call 29; (with_reducible refine (C2.out _ HV.out).mono ?_); rintro r W ⟨rfl, hb⟩; replace HV := Lib.hid (HV.out.grow hb); clear hb C2) | (go_at_call 29; (with_reducible refine (C4.out _ HV.out).mono ?_); rintro r W ⟨rfl, hb⟩; replace HV := Lib.hid (HV.out.grow hb); clear hb C4; have z0 := Joins.cell_of_block HV.out.head 0; have z1 := Joins.cell_of_block HV.out.head 1; have z2 := Joins.cell_of_block HV.out.head 2; have z3 := Joins.cell_of_block HV.out.head 3; have z4 := Joins.cell_of_block HV.out.head 4; have y0 := Joins.unfrozen_of_block HV.out.head 0; have y1 := Joins.unfrozen_of_block HV.out.head 1; have y2 := Joins.unfrozen_of_block HV.out.head 2; have y3 := Joins.unfrozen_of_block HV.out.head 3; have y4 := Joins.unfrozen_of_block HV.out.head 4; simp only [List.getElem?_toArray, List.getElem?_cons_zero, List.getElem?_cons_succ] at z0 z1 z2 z3 z4) | fail)
  go_wp2_with fail
  replace HV := Lib.hid (set5 HV.out HN.out HM.out a0 a1 a2 (v 3) a4)
  refine bodyPost_ret (res_5 rfl _ _ _ _ _ _ _ _ rfl HV.out.head) rfl ?_
  exact ⟨rfl, HV.out.old⟩

theorem model_c (e : Eg) (v : Nat → Int) (w : World) (hE : EngIn w e) : Calls Try.prog 14 #[.agg (ec e), .agg (i5 v)] w fun r w' => r = .returned (.agg (i5 (Em.model (en e) v))) ∧ Below w.heap.size w w' := by
  cases h : Em.okB (en e) with
  | true => rw [show Em.model (en e) v = Em.md (en e) v from by funext k; simp [Em.model, h]]; exact model_ok e v w hE h
  | false => rw [show Em.model (en e) v = fun _ => 0 from by funext k; simp [Em.model, h]]; exact model_no e v w hE h

end Ew
end Go.Proofs.Ytnaiphhadfolpaa
