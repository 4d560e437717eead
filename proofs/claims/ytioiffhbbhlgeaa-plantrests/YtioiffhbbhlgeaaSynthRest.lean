/- synth.Rest: where an engine comes to. -/
import Derived.Test.YtioiffhbbhlgeaaSynthCheck
import Derived.OwnWalk
namespace Go.Proofs.Ytioiffhbbhlgeaa
namespace Ew
open Go.RowKit TabC Lk

theorem check_ok (e : Eg) (w : World) (hE : EngIn w e) (h : Em.okB (en e) = true) : Calls Try.prog 17 #[.agg (ec e)] w fun r w' => r = .returned (.int .i64 0) ∧ Below w.heap.size w w' := by
  have := check_c e w hE
  rwa [show Em.err (en e) = 0 from by simp [Em.err, h]] at this
theorem check_no (e : Eg) (w : World) (hE : EngIn w e) (h : Em.okB (en e) = false) : Calls Try.prog 17 #[.agg (ec e)] w fun r w' => r = .returned (.int .i64 100) ∧ Below w.heap.size w w' := by
  have := check_c e w hE
  rwa [show Em.err (en e) = 100 from by simp [Em.err, h]] at this
theorem atv_of {xs ys : List Int} (h : Tb.Ok xs ys) (x : Int) : Tb.atv xs ys x = Tb.atO xs ys x := by simp [Tb.atv, (Tb.ok_iff xs ys).2 h]
theorem bk_of {xs ys : List Int} (h : Tb.Ok xs ys) (x : Int) : Tb.bk xs ys x = Tb.bkO xs ys x := by simp [Tb.bk, (Tb.ok_iff xs ys).2 h]

set_option maxRecDepth 100000 in
set_option maxHeartbeats 4000000 in
theorem rest_no (e : Eg) (f : Int) (w : World) (hE : EngIn w e) (h : Em.okB (en e) = false) : Calls Try.prog 19 #[.agg (ec e), .int .i64 f] w fun r w' => r = .returned (.tuple #[.int .i64 0, .int .i64 0, .int .i64 0]) ∧ Below w.heap.size w w' := by
  have HV := Lib.hid (one_e w e)
  have CK := Lib.hid (check_no e _ (hE.alloc (eo e)) h)
  clear hE h
  go_enter Try.func19, Try.ntmps19
  go_wp2_with (first | (refine lde rfl _ rfl _ _ rfl HV.out.head ?_) | (go_at_call 17; (with_reducible refine CK.out.mono ?_); rintro r W ⟨rfl, hb⟩; replace HV := Lib.hid (HV.out.grow hb); clear hb) | fail)
  refine bodyPost_ret (results_tmp3 rfl _ _ _) rfl ?_
  exact ⟨rfl, HV.out.old⟩

set_option maxRecDepth 100000 in
set_option maxHeartbeats 4000000 in
theorem rest_ok (e : Eg) (f : Int) (w : World) (hE : EngIn w e) (h : Em.okB (en e) = true) : Calls Try.prog 19 #[.agg (ec e), .int .i64 f] w fun r w' => r = .returned (.tuple #[.int .i64 (Em.n2 (en e) f), .int .i64 (Em.n1 (en e) f), .int .i64 (Em.ht (en e) f)]) ∧ Below w.heap.size w w' := by
  have HV := Lib.hid (one_e w e)
  have CK := Lib.hid (check_ok e _ (hE.alloc (eo e)) h)
  have hk := Em.ok_of h
  have kp : Tb.Ok e.p.xs e.p.ys := hk.p.ok
  have kq : Tb.Ok e.q.xs e.q.ys := hk.q.ok
  have kh : Tb.Ok e.h.xs e.h.ys := hk.h.ok
  have C2 : Hid (∀ W, Hv w W [(w.heap.size, eo e)] → Calls Try.prog 48 #[.agg (ec e), .func (.func 44) #[] #[], .int .i64 f] W fun r w' => r = .returned (.int .i64 (Em.n2 (en e) f)) ∧ Below W.heap.size W w') := fun W hv => by
    have := at_n2 e f W (hE.old hv).p
    rwa [atv_of kp] at this
  have C1 : Hid (∀ W, Hv w W [(w.heap.size, eo e)] → Calls Try.prog 48 #[.agg (ec e), .func (.func 45) #[] #[], .int .i64 (Em.n2 (en e) f)] W fun r w' => r = .returned (.int .i64 (Em.n1 (en e) f)) ∧ Below W.heap.size W w') := fun W hv => by
    have := at_n1 e (Em.n2 (en e) f) W (hE.old hv).q
    rwa [atv_of kq] at this
  have CH : Hid (∀ W, Hv w W [(w.heap.size, eo e)] → Calls Try.prog 48 #[.agg (ec e), .func (.func 46) #[] #[], .int .i64 f] W fun r w' => r = .returned (.int .i64 (Em.ht (en e) f)) ∧ Below W.heap.size W w') := fun W hv => by
    have := at_heat e f W (hE.old hv).h
    rwa [atv_of kh] at this
  generalize Em.n2 (en e) f = a at C2 C1 ⊢
  generalize Em.n1 (en e) f = b at C1 ⊢
  generalize Em.ht (en e) f = c at CH ⊢
  clear hE h hk kp kq kh
  go_enter Try.func19, Try.ntmps19
  go_wp2_with (first | (refine lde rfl _ rfl _ _ rfl HV.out.head ?_) | (go_at_call 17; (with_reducible refine CK.out.mono ?_); rintro r W ⟨rfl, hb⟩; replace HV := Lib.hid (HV.out.grow hb); clear hb) | (go_at_call 48; (with_reducible refine (C2.out _ HV.out).mono ?_); rintro r W ⟨rfl, hb⟩; replace HV := Lib.hid (HV.out.grow hb); clear hb) | fail)
  go_region_held3 (fun V => EFld V w.heap.size e) (first | exact efld HV.out.head | exact efld HV.out.drew.head | fail)
    (first | (go_at_call 48; (first | (with_reducible refine (C1.out _ HV.out).mono ?_) | (with_reducible refine (C1.out _ HV.out.drew).mono ?_) | (with_reducible refine (CH.out _ HV.out).mono ?_)); rintro r W ⟨rfl, hb⟩; (first | (with_reducible replace HV := Lib.hid (HV.out.grow hb)) | (with_reducible replace HV := Lib.hid (HV.out.drew.grow hb))); clear hb) | fail)
  go_wp2_with fail
  refine bodyPost_ret (results_tmp3 rfl _ _ _) rfl ?_
  exact ⟨rfl, HV.out.old⟩

theorem rest_c (e : Eg) (f : Int) (w : World) (hE : EngIn w e) : Calls Try.prog 19 #[.agg (ec e), .int .i64 f] w fun r w' => r = .returned (.tuple #[.int .i64 (Em.r2 (en e) f), .int .i64 (Em.r1 (en e) f), .int .i64 (Em.rh (en e) f)]) ∧ Below w.heap.size w w' := by
  cases h : Em.okB (en e) with
  | true => have := rest_ok e f w hE h; simpa [Em.r2, Em.r1, Em.rh, h] using this
  | false => have := rest_no e f w hE h; simpa [Em.r2, Em.r1, Em.rh, h] using this

end Ew
end Go.Proofs.Ytioiffhbbhlgeaa
