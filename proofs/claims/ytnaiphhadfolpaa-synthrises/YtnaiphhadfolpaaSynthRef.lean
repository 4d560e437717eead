/- The document's own answers: Rest and Model. -/
import Derived.Test.YtnaiphhadfolpaaSynthRCheck
import Derived.Test.YtnaiphhadfolpaaSynthModel
namespace Go.Proofs.Ytnaiphhadfolpaa
namespace Ew
open Go.RowKit TabC Lk

set_option maxRecDepth 100000 in
set_option maxHeartbeats 4000000 in
theorem rrest_no (e : Eg) (f : Int) (w : World) (hE : EngIn w e) (h : Em.okB (en e) = false) : Calls Try.prog 11 #[.agg (ec e), .int .i64 f] w fun r w' => r = .returned (.tuple #[.int .i64 0, .int .i64 0, .int .i64 0]) ∧ Below w.heap.size w w' := by
  have HV := Lib.hid (one_e w e)
  have CK := Lib.hid (rcheck_no e _ (hE.alloc (eo e)) h)
  clear hE h
  go_enter Try.func11, Try.ntmps11
  go_wp2_with (first | (refine lde rfl _ rfl _ _ rfl HV.out.head ?_) | (go_at_call 13; (with_reducible refine CK.out.mono ?_); rintro r W ⟨rfl, hb⟩; replace HV := Lib.hid (HV.out.grow hb); clear hb) | fail)
  refine bodyPost_ret (results_tmp3 rfl _ _ _) rfl ?_
  exact ⟨rfl, HV.out.old⟩


set_option maxRecDepth 100000 in
set_option maxHeartbeats 4000000 in
theorem rrest_ok (e : Eg) (f : Int) (w : World) (hE : EngIn w e) (h : Em.okB (en e) = true) : Calls Try.prog 11 #[.agg (ec e), .int .i64 f] w fun r w' => r = .returned (.tuple #[.int .i64 (Em.n2 (en e) f), .int .i64 (Em.n1 (en e) f), .int .i64 (Em.ht (en e) f)]) ∧ Below w.heap.size w w' := by
  have HV := Lib.hid (one_e w e)
  have CK := Lib.hid (rcheck_ok e _ (hE.alloc (eo e)) h)
  have hk := Em.ok_of h
  have kp : Tb.Ok e.p.xs e.p.ys := hk.p.ok
  have kq : Tb.Ok e.q.xs e.q.ys := hk.q.ok
  have kh : Tb.Ok e.h.xs e.h.ys := hk.h.ok
  have C2 : Hid (∀ W, Hv w W [(w.heap.size, eo e)] → Calls Try.prog 23 #[.agg #[.slice e.p.A e.p.xs.length e.p.ca, .slice e.p.B e.p.ys.length e.p.cb], .int .i64 (f)] W fun r w' => r = .returned (.int .i64 (Em.n2 (en e) f)) ∧ Below W.heap.size W w') := fun W hv => by
    have := rat_c e.p.A e.p.B e.p.ca e.p.cb e.p.xs e.p.ys (f) W (hE.old hv).p
    rwa [atv_of kp] at this
  have C1 : Hid (∀ W, Hv w W [(w.heap.size, eo e)] → Calls Try.prog 23 #[.agg #[.slice e.q.A e.q.xs.length e.q.ca, .slice e.q.B e.q.ys.length e.q.cb], .int .i64 (Em.n2 (en e) f)] W fun r w' => r = .returned (.int .i64 (Em.n1 (en e) f)) ∧ Below W.heap.size W w') := fun W hv => by
    have := rat_c e.q.A e.q.B e.q.ca e.q.cb e.q.xs e.q.ys (Em.n2 (en e) f) W (hE.old hv).q
    rwa [atv_of kq] at this
  have CH : Hid (∀ W, Hv w W [(w.heap.size, eo e)] → Calls Try.prog 23 #[.agg #[.slice e.h.A e.h.xs.length e.h.ca, .slice e.h.B e.h.ys.length e.h.cb], .int .i64 (f)] W fun r w' => r = .returned (.int .i64 (Em.ht (en e) f)) ∧ Below W.heap.size W w') := fun W hv => by
    have := rat_c e.h.A e.h.B e.h.ca e.h.cb e.h.xs e.h.ys (f) W (hE.old hv).h
    rwa [atv_of kh] at this
  generalize Em.n2 (en e) f = a at C2 C1 ⊢
  generalize Em.n1 (en e) f = b at C1 ⊢
  generalize Em.ht (en e) f = c at CH ⊢
  clear hE h hk kp kq kh
  go_enter Try.func11, Try.ntmps11
  go_wp2_with (first | (refine lde rfl _ rfl _ _ rfl HV.out.head ?_) | (go_at_call 13; (with_reducible refine CK.out.mono ?_); rintro r W ⟨rfl, hb⟩; replace HV := Lib.hid (HV.out.grow hb); clear hb; obtain ⟨_, _, c2, c3, c4, c5, c6, c7, _⟩ := efld HV.out.head) | (go_at_call 23; (with_reducible refine (C2.out _ HV.out).mono ?_); rintro r W ⟨rfl, hb⟩; replace HV := Lib.hid (HV.out.grow hb); clear hb c2 c3 c4 c5 c6 c7) | fail)
  go_region_held3 (fun V => EFld V w.heap.size e) (first | (with_reducible exact efld HV.out.head) | (with_reducible exact efld HV.out.drew.head) | fail)
    (first | (go_at_call 23; (first | (with_reducible refine (C1.out _ HV.out).mono ?_) | (with_reducible refine (C1.out _ HV.out.drew).mono ?_) | (with_reducible refine (CH.out _ HV.out).mono ?_)); rintro r W ⟨rfl, hb⟩; (first | (with_reducible replace HV := Lib.hid (HV.out.grow hb)) | (with_reducible replace HV := Lib.hid (HV.out.drew.grow hb))); clear hb) | fail)
  go_wp2_with fail
  refine bodyPost_ret (results_tmp3 rfl _ _ _) rfl ?_
  exact ⟨rfl, HV.out.old⟩
theorem rrest_c (e : Eg) (f : Int) (w : World) (hE : EngIn w e) : Calls Try.prog 11 #[.agg (ec e), .int .i64 f] w fun r w' => r = .returned (.tuple #[.int .i64 (Em.r2 (en e) f), .int .i64 (Em.r1 (en e) f), .int .i64 (Em.rh (en e) f)]) ∧ Below w.heap.size w w' := by
  cases h : Em.okB (en e) with
  | true => have := rrest_ok e f w hE h; simpa [Em.r2, Em.r1, Em.rh, h] using this
  | false => have := rrest_no e f w hE h; simpa [Em.r2, Em.r1, Em.rh, h] using this


set_option maxRecDepth 100000 in
set_option maxHeartbeats 4000000 in
theorem rmodel_no (e : Eg) (v : Nat → Int) (w : World) (hE : EngIn w e) (h : Em.okB (en e) = false) : Calls Try.prog 15 #[.agg (ec e), .agg (i5 v)] w fun r w' => r = .returned (.agg (r5 0 0 0 0 0)) ∧ Below w.heap.size w w' := by
  have HV := Lib.hid (three w e v)
  have C0 := Lib.hid (rcheck_no e _ (hE.old (three w e v)) h)
  clear hE h
  go_enter Try.func15, Try.ntmps15
  go_wp2_with (first | (refine lde rfl _ rfl _ _ rfl HV.out.h3 ?_) | (go_at_call 13; (with_reducible refine C0.out.mono ?_); rintro r W ⟨rfl, hb⟩; replace HV := Lib.hid (HV.out.grow hb); clear hb; have z0 := Joins.cell_of_block HV.out.head 0; have z1 := Joins.cell_of_block HV.out.head 1; have z2 := Joins.cell_of_block HV.out.head 2; have z3 := Joins.cell_of_block HV.out.head 3; have z4 := Joins.cell_of_block HV.out.head 4; have y0 := Joins.unfrozen_of_block HV.out.head 0; have y1 := Joins.unfrozen_of_block HV.out.head 1; have y2 := Joins.unfrozen_of_block HV.out.head 2; have y3 := Joins.unfrozen_of_block HV.out.head 3; have y4 := Joins.unfrozen_of_block HV.out.head 4; simp only [List.getElem?_toArray, List.getElem?_cons_zero, List.getElem?_cons_succ] at z0 z1 z2 z3 z4) | fail)
  replace HV := Lib.hid (set5 HV.out (by simp) (by omega) 0 0 0 0 0)
  refine bodyPost_ret (res_5 rfl _ _ _ _ _ _ _ _ rfl HV.out.head) rfl ?_
  exact ⟨rfl, HV.out.old⟩

set_option maxRecDepth 100000 in
set_option maxHeartbeats 4000000 in
theorem rmodel_ok (e : Eg) (v : Nat → Int) (w : World) (hE : EngIn w e) (h : Em.okB (en e) = true) : Calls Try.prog 15 #[.agg (ec e), .agg (i5 v)] w fun r w' => r = .returned (.agg (i5 (Em.md (en e) v))) ∧ Below w.heap.size w w' := by
  have HV := Lib.hid (three w e v)
  have C0 := Lib.hid (rcheck_ok e _ (hE.old (three w e v)) h)
  have hk := Em.ok_of h
  have kp : Tb.Ok e.p.xs e.p.ys := hk.p.ok
  have kq : Tb.Ok e.q.xs e.q.ys := hk.q.ok
  have kh : Tb.Ok e.h.xs e.h.ys := hk.h.ok
  have C1 : Hid (∀ W, Hv w W [(w.heap.size + 2, ob5 0 0 0 0 0), (w.heap.size + 1, io v), (w.heap.size, eo e)] → Calls Try.prog 23 #[.agg #[.slice e.q.A e.q.xs.length e.q.ca, .slice e.q.B e.q.ys.length e.q.cb], .int .i64 (v 1)] W fun r w' => r = .returned (.int .i64 (Tb.atO e.q.xs e.q.ys (v 1))) ∧ Below W.heap.size W w') := fun W hv => by
    have := rat_c e.q.A e.q.B e.q.ca e.q.cb e.q.xs e.q.ys (v 1) W (hE.old hv).q; rwa [atv_of kq] at this
  have C2 : Hid (∀ W, Hv w W [(w.heap.size + 2, ob5 0 0 0 0 0), (w.heap.size + 1, io v), (w.heap.size, eo e)] → Calls Try.prog 30 #[.agg #[.slice e.q.A e.q.xs.length e.q.ca, .slice e.q.B e.q.ys.length e.q.cb], .int .i64 (v 0)] W fun r w' => r = .returned (.int .i64 (Tb.bkO e.q.xs e.q.ys (v 0))) ∧ Below W.heap.size W w') := fun W hv => by
    exact rback_ok e.q.A e.q.B e.q.ca e.q.cb e.q.xs e.q.ys (v 0) W (hE.old hv).q ((Tb.ok_iff _ _).2 kq)
  have C3 : Hid (∀ W, Hv w W [(w.heap.size + 2, ob5 0 0 0 0 0), (w.heap.size + 1, io v), (w.heap.size, eo e)] → Calls Try.prog 23 #[.agg #[.slice e.h.A e.h.xs.length e.h.ca, .slice e.h.B e.h.ys.length e.h.cb], .int .i64 (v 4)] W fun r w' => r = .returned (.int .i64 (Tb.atO e.h.xs e.h.ys (v 4))) ∧ Below W.heap.size W w') := fun W hv => by
    have := rat_c e.h.A e.h.B e.h.ca e.h.cb e.h.xs e.h.ys (v 4) W (hE.old hv).h; rwa [atv_of kh] at this
  have C4 : Hid (∀ W, Hv w W [(w.heap.size + 2, ob5 0 0 0 0 0), (w.heap.size + 1, io v), (w.heap.size, eo e)] → Calls Try.prog 30 #[.agg #[.slice e.p.A e.p.xs.length e.p.ca, .slice e.p.B e.p.ys.length e.p.cb], .int .i64 (v 1)] W fun r w' => r = .returned (.int .i64 (Tb.bkO e.p.xs e.p.ys (v 1))) ∧ Below W.heap.size W w') := fun W hv => by
    exact rback_ok e.p.A e.p.B e.p.ca e.p.cb e.p.xs e.p.ys (v 1) W (hE.old hv).p ((Tb.ok_iff _ _).2 kp)
  show Calls Try.prog _ _ w fun r w' => r = .returned (.agg (r5 (Tb.atO e.q.xs e.q.ys (v 1)) (Tb.bkO e.q.xs e.q.ys (v 0)) (Tb.atO e.h.xs e.h.ys (v 4)) (v 3) (Tb.bkO e.p.xs e.p.ys (v 1)))) ∧ Below w.heap.size w w'
  generalize Tb.atO e.q.xs e.q.ys (v 1) = a0 at C1 ⊢
  generalize Tb.bkO e.q.xs e.q.ys (v 0) = a1 at C2 ⊢
  generalize Tb.atO e.h.xs e.h.ys (v 4) = a2 at C3 ⊢
  generalize Tb.bkO e.p.xs e.p.ys (v 1) = a4 at C4 ⊢
  have HN : Hid (∀ x ∈ [(w.heap.size + 1, io v), (w.heap.size, eo e)], x.1 ≠ w.heap.size + 2) := by show ∀ x ∈ _, _; simp
  have HM : Hid (w.heap.size ≤ w.heap.size + 2) := by show _ ≤ _; omega
  clear hE h hk kp kq kh
  go_enter Try.func15, Try.ntmps15
  go_wp2_with (first | (refine lde rfl _ rfl _ _ rfl HV.out.h3 ?_) | (go_at_call 13; (with_reducible refine C0.out.mono ?_); rintro r W ⟨rfl, hb⟩; replace HV := Lib.hid (HV.out.grow hb); clear hb) | fail)
  go_region_held3 (fun V => EFld V w.heap.size e ∧ I5 V (w.heap.size + 1) v) (first | (with_reducible exact ⟨efld HV.out.h3, five HV.out.h2⟩) | (with_reducible exact ⟨efld HV.out.drew.h3, five HV.out.drew.h2⟩) | (with_reducible exact ⟨efld (set5 HV.out HN.out HM.out a0 a1 a2 (v 3) a4).h3, five (set5 HV.out HN.out HM.out a0 a1 a2 (v 3) a4).h2⟩) | fail)
    (first | (go_at_call 23; (first | (with_reducible refine (C1.out _ HV.out).mono ?_) | (with_reducible refine (C1.out _ HV.out.drew).mono ?_) | (with_reducible refine (C3.out _ HV.out).mono ?_)); rintro r W ⟨rfl, hb⟩; (first | (with_reducible replace HV := Lib.hid (HV.out.grow hb)) | (with_reducible replace HV := Lib.hid (HV.out.drew.grow hb))); clear hb) | (go_at_call 30; (with_reducible refine (C2.out _ HV.out).mono ?_); rintro r W ⟨rfl, hb⟩; replace HV := Lib.hid (HV.out.grow hb); clear hb C2) | (go_at_call 30; (with_reducible refine (C4.out _ HV.out).mono ?_); rintro r W ⟨rfl, hb⟩; replace HV := Lib.hid (HV.out.grow hb); clear hb C4; have z0 := Joins.cell_of_block HV.out.head 0; have z1 := Joins.cell_of_block HV.out.head 1; have z2 := Joins.cell_of_block HV.out.head 2; have z3 := Joins.cell_of_block HV.out.head 3; have z4 := Joins.cell_of_block HV.out.head 4; have y0 := Joins.unfrozen_of_block HV.out.head 0; have y1 := Joins.unfrozen_of_block HV.out.head 1; have y2 := Joins.unfrozen_of_block HV.out.head 2; have y3 := Joins.unfrozen_of_block HV.out.head 3; have y4 := Joins.unfrozen_of_block HV.out.head 4; simp only [List.getElem?_toArray, List.getElem?_cons_zero, List.getElem?_cons_succ] at z0 z1 z2 z3 z4) | fail)
  go_wp2_with fail
  replace HV := Lib.hid (set5 HV.out HN.out HM.out a0 a1 a2 (v 3) a4)
  refine bodyPost_ret (res_5 rfl _ _ _ _ _ _ _ _ rfl HV.out.head) rfl ?_
  exact ⟨rfl, HV.out.old⟩

theorem rmodel_c (e : Eg) (v : Nat → Int) (w : World) (hE : EngIn w e) : Calls Try.prog 15 #[.agg (ec e), .agg (i5 v)] w fun r w' => r = .returned (.agg (i5 (Em.model (en e) v))) ∧ Below w.heap.size w w' := by
  cases h : Em.okB (en e) with
  | true => rw [show Em.model (en e) v = Em.md (en e) v from by funext k; simp [Em.model, h]]; exact rmodel_ok e v w hE h
  | false => rw [show Em.model (en e) v = fun _ => 0 from by funext k; simp [Em.model, h]]; exact rmodel_no e v w hE h

end Ew
end Go.Proofs.Ytnaiphhadfolpaa
