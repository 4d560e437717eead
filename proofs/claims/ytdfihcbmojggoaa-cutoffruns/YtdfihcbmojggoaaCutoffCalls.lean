/- The contracts of Step, Most, and of the document's Step. -/
import Derived.Test.YtdfihcbmojggoaaCutoffIn
import Derived.BigQuiet
namespace Go.Proofs.Ytdfihcbmojggoaa
namespace Ow
open Go.RowKit Lk

theorem longer_c (q : Int) (w : World) : Calls Try.prog 17 #[.int .i64 q] w fun r w' => r = .returned (.int .i64 (Cu.lg q)) ∧ w' = w := by
  go_enter Try.func17, Try.ntmps17
  go_wp2
  all_goals
    go_ret
    refine ⟨ret_i ?_, rfl⟩
    unfold Cu.lg
    omega

set_option maxHeartbeats 4000000 in
theorem most_c (t k r : Int) (w : World) : Calls Try.prog 11 #[.int .i64 t, .int .i64 k, .int .i64 r] w fun e w' => e = .returned (.int .i64 (Cu.mo t k r)) ∧ w = w' := by
  obtain ⟨x, hx⟩ : ∃ x, (if k < 0 then 0 else k) = x := ⟨_, rfl⟩
  obtain ⟨y, hy⟩ : ∃ y, (if r < 0 then 0 else r) = y := ⟨_, rfl⟩
  have e : Cu.mo t k r = Fx.sub (Fx.add t (Fx.mul x y 0)) 1 := by
    have h1 : max k 0 = x := by omega
    have h2 : max r 0 = y := by omega
    rw [Cu.mo, h1, h2]
  rw [e]
  clear e
  go_enter Try.func11, Try.ntmps11
  go_wp2_with (first
    | (go_at_call 14; refine (FixC.mul_c _ _ _ _).mono ?_; rintro e w' ⟨rfl, rfl⟩)
    | (go_at_call 16; refine (FixC.add_c _ _ _).mono ?_; rintro e w' ⟨rfl, rfl⟩)
    | (go_at_call 15; refine (FixC.sub_c _ _ _).mono ?_; rintro e w' ⟨rfl, rfl⟩)
    | fail)
  go_ret
  exact ⟨rfl, rfl⟩

/-- A box, a result's cell. -/
theorem two_h (w : World) (q : Int) (s : Bool) : Hv w ((w.alloc (co q s)).alloc (co 0 false)) [(w.heap.size + 1, co 0 false), (w.heap.size, co q s)] := by
  have := ((Hv.nil w).made (co q s)).made (co 0 false)
  simpa only [World.size_alloc] using this

/-- The four ways of a Step. -/
theorem stp_low {t k q a b : Int} {s r : Bool} (h1 : a < t) (h2 : b < t) : Cu.cq t q a b = 0 ∧ Cu.cs t k q s a b r = (s && !r) := ⟨if_pos ⟨h1, h2⟩, if_pos ⟨h1, h2⟩⟩
theorem stp_high {t k q a b : Int} {s r : Bool} (h : ¬ (a < t ∧ b < t)) : Cu.cq t q a b = Cu.lg q ∧ Cu.cs t k q s a b r = (s || decide (k ≤ Cu.lg q)) := ⟨if_neg h, if_neg h⟩

set_option maxRecDepth 100000 in
set_option maxHeartbeats 4000000 in
theorem step_c (t k q : Int) (s : Bool) (a b : Int) (r : Bool) (w : World) :
    Calls Try.prog 12 #[.int .i64 t, .int .i64 k, .agg (cc q s), .int .i64 a, .int .i64 b, .bool r] w fun e w' => e = .returned (.agg (cc (Cu.cq t q a b) (Cu.cs t k q s a b r))) ∧ Below w.heap.size w w' := by
  have HV := Lib.hid (two_h w q s)
  have hn : w.heap.size ≤ w.heap.size + 1 := by omega
  by_cases h : a < t ∧ b < t
  · obtain ⟨h1, h2⟩ := h
    obtain ⟨e1, e2⟩ := stp_low (k := k) (q := q) (s := s) (r := r) h1 h2
    rw [e1, e2]
    clear e1 e2
    have d1 : decide (a < t) = true := decide_eq_true h1
    have d2 : decide (b < t) = true := decide_eq_true h2
    clear h1 h2
    cases s <;> cases r
    all_goals
      go_enter Try.func12, Try.ntmps12
      go_wp2_with (first
        | go_big_skip
        | (refine stc rfl _ _ rfl rfl _ 0 _ false _ rfl rfl HV.out.head ?_; intro w' hP hO; replace HV := Lib.hid (HV.out.old.trans (hO.below hn)); replace hP := Lib.hid hP; clear hO)
        | fail)
      refine bodyPost_ret (res_c rfl _ _ _ _ _ rfl hP.out) rfl ?_
      exact ⟨rfl, HV.out⟩
  · obtain ⟨e1, e2⟩ := stp_high (k := k) (q := q) (s := s) (r := r) h
    rw [e1, e2]
    clear e1 e2
    obtain ⟨x, hx⟩ : ∃ x, Cu.lg q = x := ⟨_, rfl⟩
    have CL : Hid (∀ W, Calls Try.prog 17 #[.int .i64 q] W fun r w' => r = .returned (.int .i64 x) ∧ w' = W) := Lib.hid (fun W => by rw [← hx]; exact longer_c q W)
    rw [hx]
    clear hx
    have h' : (decide (a < t) = true ∧ decide (b < t) = false) ∨ decide (a < t) = false := by
      by_cases h1 : a < t
      · exact .inl ⟨decide_eq_true h1, decide_eq_false (fun h2 => h ⟨h1, h2⟩)⟩
      · exact .inr (decide_eq_false h1)
    clear h
    rcases h' with ⟨d1, d2⟩ | d1
    all_goals
      cases s
      all_goals
        go_enter Try.func12, Try.ntmps12
        go_wp2_with (first
          | go_big_skip
          | (go_at_call 17; (with_reducible refine (CL.out _).mono ?_); rintro e W ⟨rfl, rfl⟩)
          | (refine stc rfl _ _ rfl rfl _ 0 _ false _ rfl rfl HV.out.head ?_; intro w' hP hO; replace HV := Lib.hid (HV.out.old.trans (hO.below hn)); replace hP := Lib.hid hP; clear hO)
          | fail)
        refine bodyPost_ret (res_c rfl _ _ _ _ _ rfl hP.out) rfl ?_
        exact ⟨by first | rfl | simp, HV.out⟩

set_option maxRecDepth 100000 in
set_option maxHeartbeats 4000000 in
theorem rstep_c (t k q : Int) (s : Bool) (a b : Int) (r : Bool) (w : World) :
    Calls Try.prog 10 #[.int .i64 t, .int .i64 k, .agg (cc q s), .int .i64 a, .int .i64 b, .bool r] w fun e w' => e = .returned (.agg (cc (Cu.cq t q a b) (Cu.cs t k q s a b r))) ∧ Below w.heap.size w w' := by
  have HV := Lib.hid (two_h w q s)
  have hn : w.heap.size ≤ w.heap.size + 1 := by omega
  by_cases h : a < t ∧ b < t
  · obtain ⟨h1, h2⟩ := h
    obtain ⟨e1, e2⟩ := stp_low (k := k) (q := q) (s := s) (r := r) h1 h2
    rw [e1, e2]
    clear e1 e2
    have d1 : decide (a < t) = true := decide_eq_true h1
    have d2 : decide (b < t) = true := decide_eq_true h2
    clear h1 h2
    cases s <;> cases r
    all_goals
      go_enter Try.func10, Try.ntmps10
      go_wp2_with (first
        | go_big_skip
        | (refine stc rfl _ _ rfl rfl _ 0 _ false _ rfl rfl HV.out.head ?_; intro w' hP hO; replace HV := Lib.hid (HV.out.old.trans (hO.below hn)); replace hP := Lib.hid hP; clear hO)
        | fail)
      refine bodyPost_ret (res_c rfl _ _ _ _ _ rfl hP.out) rfl ?_
      exact ⟨rfl, HV.out⟩
  · obtain ⟨e1, e2⟩ := stp_high (k := k) (q := q) (s := s) (r := r) h
    rw [e1, e2]
    clear e1 e2
    obtain ⟨y, hy⟩ : ∃ y, min (max q 0) 1073741823 = y := ⟨_, rfl⟩
    have hx : Cu.lg q = y + 1 := by rw [Cu.lg, hy]
    have y0 : 0 ≤ y := by omega
    have y1 : y ≤ 1073741823 := by omega
    rw [hx]
    clear hx
    obtain ⟨z, hz⟩ : ∃ z, (if q < 0 then 0 else q) = z := ⟨_, rfl⟩
    have hy : (if 1073741823 < z then 1073741823 else z) = y := by omega
    have h' : (decide (a < t) = true ∧ decide (b < t) = false) ∨ decide (a < t) = false := by
      by_cases h1 : a < t
      · exact .inl ⟨decide_eq_true h1, decide_eq_false (fun h2 => h ⟨h1, h2⟩)⟩
      · exact .inr (decide_eq_false h1)
    clear h
    rcases h' with ⟨d1, d2⟩ | d1
    all_goals
      cases s
      all_goals
        go_enter Try.func10, Try.ntmps10
        go_wp2_with (first
          | go_big_skip
          | (refine stc rfl _ _ rfl rfl _ 0 _ false _ rfl rfl HV.out.head ?_; intro w' hP hO; replace HV := Lib.hid (HV.out.old.trans (hO.below hn)); replace hP := Lib.hid hP; clear hO)
          | fail)
        refine bodyPost_ret (res_c rfl _ _ _ _ _ rfl hP.out) rfl ?_
        exact ⟨by first | rfl | simp, HV.out⟩
theorem step_v {t k q a b p : Int} {s r u : Bool} (h : Cu.cq t q a b = p) (hs : Cu.cs t k q s a b r = u) (w : World) :
    Calls Try.prog 12 #[.int .i64 t, .int .i64 k, .agg (cc q s), .int .i64 a, .int .i64 b, .bool r] w fun e w' => e = .returned (.agg (cc p u)) ∧ Below w.heap.size w w' := by
  subst h hs
  exact step_c t k q s a b r w
theorem rstep_v {t k q a b p : Int} {s r u : Bool} (h : Cu.cq t q a b = p) (hs : Cu.cs t k q s a b r = u) (w : World) :
    Calls Try.prog 10 #[.int .i64 t, .int .i64 k, .agg (cc q s), .int .i64 a, .int .i64 b, .bool r] w fun e w' => e = .returned (.agg (cc p u)) ∧ Below w.heap.size w w' := by
  subst h hs
  exact rstep_c t k q s a b r w
theorem most_v {t k r n : Int} (h : Cu.mo t k r = n) (w : World) : Calls Try.prog 11 #[.int .i64 t, .int .i64 k, .int .i64 r] w fun e w' => e = .returned (.int .i64 n) ∧ w = w' := h ▸ most_c t k r w
end Ow
end Go.Proofs.Ytdfihcbmojggoaa
