/- The document's answers of layer 6: Value, by halving; Step, by counting up. -/
import Derived.Test.YtildceoakohhmaaSensorRef
namespace Go.Proofs.Ytildceoakohhmaa
namespace Sw
open Go.RowKit

theorem rraw_at {g o l h v : Int} (k : Sn.Ok g o l h) (h1 : l ≤ v) (h2 : v ≤ h) (w : World) : Calls Try.prog 13 #[.agg (sc g o l h), .int .i64 v] w fun e w' => e = .returned (.int .i64 (Sn.cnt g o v)) ∧ Below w.heap.size w w' := by
  have := rraw_c g o l h v w
  rwa [Sn.raw_at k h1 h2] at this

/-- What halving keeps. -/
structure Hr (g o l h n x y : Int) : Prop where
  lo : l ≤ x
  lt : x < y
  hi : y ≤ h
  below : Sn.cnt g o x < n
  at_ : n ≤ Sn.cnt g o y
theorem Hr.done {g o l h n x y : Int} (hg : 1 ≤ g) (k : Hr g o l h n x y) (e : y - x ≤ 1) : Sn.IsV g o l h n y := by
  have h1 := k.lo
  have h2 := k.lt
  have h3 := k.below
  refine ⟨by omega, k.hi, fun v a b => ?_, fun _ => k.at_⟩
  have := Sn.cnt_mono (o := o) hg (by omega : v ≤ x)
  omega

set_option maxRecDepth 100000 in
set_option maxHeartbeats 4000000 in
theorem rvalue_c (g o l h n : Int) (w : World) : Calls Try.prog 15 #[.agg (sc g o l h), .int .i64 n] w fun e w' => e = .returned (.int .i64 (Sn.val g o l h n)) ∧ Below w.heap.size w w' := by
  have KP := Lib.hid (Kp.new w g o l h)
  by_cases k : Sn.Ok g o l h
  · have CK := Lib.hid (rcheck_ok k)
    have K := Lib.hid k
    obtain ⟨l1, l2, l3⟩ := ok_lh k
    have CL := Lib.hid (rraw_at k (Int.le_refl l) (by omega))
    have CH := Lib.hid (rraw_at k (by omega) (Int.le_refl h))
    clear k
    by_cases q1 : n ≤ Sn.cnt g o l
    · have E : Hid (Sn.val g o l h n = l) := Sn.val_of K.out ⟨Int.le_refl _, by omega, fun v a b => absurd b (by omega), fun _ => q1⟩
      generalize Sn.cnt g o l = a at *
      go_enter Try.func15, Try.ntmps15
      go_wp2_with (first | (refine ld_sc rfl _ rfl _ _ _ _ _ rfl KP.out.at_ ?_) | (go_at_call 11; (with_reducible refine (CK.out _).mono ?_); rintro e W1 ⟨rfl, hb⟩; replace KP := Lib.hid (KP.out.grow hb); clear hb CK; have f2 := KP.out.at_.fld.2.2.1) | (go_at_call 13; (with_reducible refine (CL.out _).mono ?_); rintro e W2 ⟨rfl, hb⟩; replace KP := Lib.hid (KP.out.grow hb); clear hb CL f2; have f2 := KP.out.at_.fld.2.2.1) | fail)
      go_ret
      exact ⟨FixC.ret_int E.out.symm, KP.out.old⟩
    · by_cases q2 : Sn.cnt g o h < n
      · have E : Hid (Sn.val g o l h n = h) := Sn.val_of K.out ⟨by omega, Int.le_refl _, fun v a b => by have := Sn.cnt_mono (o := o) K.out.1 (by omega : v ≤ h); omega, fun a => absurd a (by omega)⟩
        generalize Sn.cnt g o l = a at *
        generalize Sn.cnt g o h = b at *
        go_enter Try.func15, Try.ntmps15
        go_wp2_with (first | (refine ld_sc rfl _ rfl _ _ _ _ _ rfl KP.out.at_ ?_) | (go_at_call 11; (with_reducible refine (CK.out _).mono ?_); rintro e W1 ⟨rfl, hb⟩; replace KP := Lib.hid (KP.out.grow hb); clear hb CK; have f2 := KP.out.at_.fld.2.2.1) | (go_at_call 13; (with_reducible refine (CL.out _).mono ?_); rintro e W2 ⟨rfl, hb⟩; replace KP := Lib.hid (KP.out.grow hb); clear hb CL f2; have f3 := KP.out.at_.fld.2.2.2) | (go_at_call 13; (with_reducible refine (CH.out _).mono ?_); rintro e W3 ⟨rfl, hb⟩; replace KP := Lib.hid (KP.out.grow hb); clear hb CH f3; have f3 := KP.out.at_.fld.2.2.2) | fail)
        go_ret
        exact ⟨FixC.ret_int E.out.symm, KP.out.old⟩
      · have H0 : Hid (Hr g o l h n l h) := ⟨Int.le_refl _, l3, Int.le_refl _, by omega, by omega⟩
        have CM : Hid (∀ v, l ≤ v → v ≤ h → ∀ w, Calls Try.prog 13 #[.agg (sc g o l h), .int .i64 v] w fun e w' => e = .returned (.int .i64 (Sn.cnt g o v)) ∧ Below w.heap.size w w') := fun v a b w => rraw_at K.out a b w
        generalize Sn.cnt g o l = a at *
        generalize Sn.cnt g o h = b at *
        go_enter Try.func15, Try.ntmps15
        go_wp2_with (first | (refine ld_sc rfl _ rfl _ _ _ _ _ rfl KP.out.at_ ?_) | (go_at_call 11; (with_reducible refine (CK.out _).mono ?_); rintro e W1 ⟨rfl, hb⟩; replace KP := Lib.hid (KP.out.grow hb); clear hb CK; have f2 := KP.out.at_.fld.2.2.1) | (go_at_call 13; (with_reducible refine (CL.out _).mono ?_); rintro e W2 ⟨rfl, hb⟩; replace KP := Lib.hid (KP.out.grow hb); clear hb CL f2; have f3 := KP.out.at_.fld.2.2.2) | (go_at_call 13; (with_reducible refine (CH.out _).mono ?_); rintro e W3 ⟨rfl, hb⟩; replace KP := Lib.hid (KP.out.grow hb); clear hb CH f3; have f3 := KP.out.at_.fld.2.2.2; have f2 := KP.out.at_.fld.2.2.1) | fail)
        clear f2 f3 q1 q2
        go_loopw [5, 6] (fun x y W => ∃ p q : Int, x = .int .i64 p ∧ y = .int .i64 q ∧ Hr g o l h n p q ∧ Kp w W w.heap.size g o l h) (fun x y _ => (intOf y - intOf x).toNat)
        case atStart => exact ⟨l, h, rfl, rfl, H0.out, KP.out⟩
        case round =>
          obtain ⟨x, y, rfl, rfl, hr, hk⟩ := hrel
          clear KP
          have HR := Lib.hid hr
          have KP := Lib.hid hk
          have x1 := hr.lo
          have x2 := hr.lt
          have x3 := hr.hi
          clear hr hk H0
          by_cases q : 1 < y - x
          · obtain ⟨m, hm⟩ : ∃ m, x + (y - x) / 2 = m := ⟨_, rfl⟩
            have m1 : x < m := by omega
            have m2 : m < y := by omega
            have EM := Lib.hid hm
            clear hm
            go_wp2_with (first | (refine ld_sc rfl _ rfl _ _ _ _ _ rfl KP.out.at_ ?_) | fail)
            rw [EM.out]
            refine (CM.out m (by omega) (by omega) _).mono ?_
            rintro e W4 ⟨rfl, hb⟩
            replace KP := Lib.hid (KP.out.grow hb)
            by_cases r : n ≤ Sn.cnt g o m
            · have HN : Hid (Hr g o l h n x m) := ⟨x1, m1, by omega, HR.out.below, r⟩
              clear hb CM HR EM
              generalize Sn.cnt g o m = c at *
              go_wp2_with fail
              go_roundw
              case rel => exact ⟨x, m, rfl, rfl, HN.out, KP.out⟩
              case measure => simp [intOf]; omega
            · have HN : Hid (Hr g o l h n m y) := ⟨by omega, m2, x3, by omega, HR.out.at_⟩
              clear hb CM HR EM
              generalize Sn.cnt g o m = c at *
              go_wp2_with fail
              go_roundw
              case rel => exact ⟨m, y, rfl, rfl, HN.out, KP.out⟩
              case measure => simp [intOf]; omega
          · have E := Lib.hid (Sn.val_of K.out (HR.out.done K.out.1 (by omega)))
            go_wp2_with fail
            go_ret
            exact ⟨FixC.ret_int E.out.symm, KP.out.old⟩
  · have E : Hid (Sn.val g o l h n = 0) := Sn.val_no k
    have CK := Lib.hid (rcheck_no k)
    clear k
    go_enter Try.func15, Try.ntmps15
    go_wp2_with (first | (refine ld_sc rfl _ rfl _ _ _ _ _ rfl KP.out.at_ ?_) | (go_at_call 11; (with_reducible refine (CK.out _).mono ?_); rintro e W1 ⟨rfl, hb⟩; replace KP := Lib.hid (KP.out.grow hb); clear hb CK) | fail)
    go_ret
    exact ⟨FixC.ret_int E.out.symm, KP.out.old⟩

set_option maxRecDepth 100000 in
set_option maxHeartbeats 4000000 in
theorem rstep_c (g o l h : Int) (w : World) : Calls Try.prog 17 #[.agg (sc g o l h)] w fun e w' => e = .returned (.int .i64 (Sn.stp g o l h)) ∧ Below w.heap.size w w' := by
  have KP := Lib.hid (Kp.new w g o l h)
  by_cases k : Sn.Ok g o l h
  · have E : Hid (Sn.stp g o l h = Sn.step g l h) := Sn.stp_ok k
    have CK := Lib.hid (rcheck_ok k)
    obtain ⟨l1, l2, l3⟩ := ok_lh k
    obtain ⟨g1, g2⟩ := ok_g k
    clear k
    go_enter Try.func17, Try.ntmps17
    go_wp2_with (first | (refine ld_sc rfl _ rfl _ _ _ _ _ rfl KP.out.at_ ?_) | (go_at_call 11; (with_reducible refine (CK.out _).mono ?_); rintro e W1 ⟨rfl, hb⟩; replace KP := Lib.hid (KP.out.grow hb); clear hb CK; have f0 := KP.out.at_.fld.1; have f2 := KP.out.at_.fld.2.2.1; have f3 := KP.out.at_.fld.2.2.2) | fail)
    go_loop [3] (fun t => ∃ c : Nat, t = .int .i64 (c : Int) ∧ (c = 0 ∨ ((c : Int) - 1) * g < 65536)) (fun t => 65536 - (intOf t).toNat)
    case atStart => exact ⟨0, rfl, .inl rfl⟩
    case round =>
      obtain ⟨c, rfl, hc⟩ := hrel
      have hp : 0 ≤ (c : Int) * g ∧ (c : Int) * g < 1114112 ∧ (c : Int) ≤ (c : Int) * g := by
        have e : ((c : Int) - 1) * g = (c : Int) * g - g := by rw [Int.sub_mul, Int.one_mul]
        rw [e] at hc
        have : (c : Int) * 1 ≤ (c : Int) * g := Int.mul_le_mul_of_nonneg_left g1 (by omega)
        rcases hc with rfl | hc
        · simp
        · omega
      obtain ⟨p, hP⟩ : ∃ p, (c : Int) * g = p := ⟨_, rfl⟩
      rw [hP] at hp
      obtain ⟨p1, p2, p3⟩ := hp
      have hw : IntKind.i64.wrap ((c : Int) * g) = p := by rw [hP]; exact IntWalk.i64_in _ (by omega)
      by_cases q : p < 65536
      · have N : Hid ((((c + 1 : Nat) : Int) - 1) * g < 65536) := by show _ < _; rw [show ((c + 1 : Nat) : Int) - 1 = (c : Int) by omega, hP]; exact q
        clear hP hc
        go_wp2_with fail
        go_round
        case rel => exact ⟨c + 1, by go_num, .inr N.out⟩
        case measure => simp [intOf]; omega
      · have hc0 : c ≠ 0 := by rintro rfl; simp at hP; omega
        have C : Hid ((65536 + g - 1) / g = (c : Int)) := Sn.ceil_of g1 (by rw [hP]; omega) (by rcases hc with hc | hc <;> omega)
        clear hc
        have hc1 : 1 ≤ (c : Int) := by omega
        clear hP
        go_wp2_with fail
        all_goals
          go_ret
          refine ⟨FixC.ret_int ?_, KP.out.old⟩
          rw [E.out]
          unfold Sn.step
          rw [C.out]
          split <;> omega
  · have E : Hid (Sn.stp g o l h = 0) := Sn.stp_no k
    have CK := Lib.hid (rcheck_no k)
    clear k
    go_enter Try.func17, Try.ntmps17
    go_wp2_with (first | (refine ld_sc rfl _ rfl _ _ _ _ _ rfl KP.out.at_ ?_) | (go_at_call 11; (with_reducible refine (CK.out _).mono ?_); rintro e W1 ⟨rfl, hb⟩; replace KP := Lib.hid (KP.out.grow hb); clear hb CK) | fail)
    go_ret
    exact ⟨FixC.ret_int E.out.symm, KP.out.old⟩
end Sw
end Go.Proofs.Ytildceoakohhmaa
