/- The document's answers of layer 6: its count, Check, Raw. -/
import Derived.Test.YtildceoakohhmaaSensorValue
namespace Go.Proofs.Ytildceoakohhmaa
namespace Sw
open Go.RowKit

set_option maxRecDepth 100000 in
theorem rcount_c (g o l h v : Int) (h1 : -1048576 ≤ v ∧ v ≤ 1048576) (h2 : 1 ≤ g ∧ g ≤ 1048576) (w : World) :
    Calls Try.prog 20 #[.agg (sc g o l h), .int .i64 v] w fun e w' => e = .returned (.int .i64 (Sn.pr g v)) ∧ Below w.heap.size w w' := by
  have HM := Lib.hid (Sn.pr_in h1 h2).1
  have KP := Lib.hid (Kp.new w g o l h)
  clear h1 h2
  go_enter Try.func20, Try.ntmps20
  go_wp2_with (first | (go_at_call 26; refine (FixC.rmul_c _ _ _ _).mono ?_; rintro e w' ⟨rfl, rfl⟩; rw [HM.out]) | fail)
  go_ret
  exact ⟨rfl, KP.out.old⟩

set_option maxRecDepth 100000 in
set_option maxHeartbeats 4000000 in
theorem rcheck_c (g o l h : Int) (w : World) : Calls Try.prog 11 #[.agg (sc g o l h)] w fun e w' => e = .returned (.int .i64 (Sn.err g o l h)) ∧ Below w.heap.size w w' := by
  have KP := Lib.hid (Kp.new w g o l h)
  by_cases hk : 1 ≤ g ∧ g ≤ 1048576 ∧ 0 ≤ o ∧ o ≤ 65535 ∧ -1048576 ≤ l ∧ h ≤ 1048576 ∧ l < h
  · have CL := Lib.hid (rcount_c g o l h l ⟨by omega, by omega⟩ ⟨by omega, by omega⟩)
    have CH := Lib.hid (rcount_c g o l h h ⟨by omega, by omega⟩ ⟨by omega, by omega⟩)
    have PL := (Sn.pr_in (v := l) (g := g) ⟨by omega, by omega⟩ ⟨by omega, by omega⟩).2
    have PH := (Sn.pr_in (v := h) (g := g) ⟨by omega, by omega⟩ ⟨by omega, by omega⟩).2
    have EL := Sn.cnt_pr g o l
    have EH := Sn.cnt_pr g o h
    obtain ⟨h1, h2, h3, h4, h5, h6, h7⟩ := hk
    have E : Hid (0 ≤ o + Sn.pr g l → o + Sn.pr g h ≤ 65535 → Sn.err g o l h = 0) := fun h8 h9 => Sn.err_ok ⟨h1, h2, h3, h4, h5, h6, h7, by rw [EL]; exact h8, by rw [EH]; exact h9⟩
    have N : Hid (¬ (0 ≤ o + Sn.pr g l ∧ o + Sn.pr g h ≤ 65535) → Sn.err g o l h = 60) := fun q => Sn.err_no fun k => q ⟨by rw [← EL]; exact k.2.2.2.2.2.2.2.1, by rw [← EH]; exact k.2.2.2.2.2.2.2.2⟩
    clear EL EH
    generalize Sn.pr g l = a at *
    generalize Sn.pr g h = b at *
    obtain ⟨a1, a2⟩ := PL
    obtain ⟨b1, b2⟩ := PH
    have WA : IntKind.i64.wrap (o + a) = o + a := IntWalk.i64_in _ (by omega)
    have WB : IntKind.i64.wrap (o + b) = o + b := IntWalk.i64_in _ (by omega)
    rcases (by omega : o + a < 0 ∨ (0 ≤ o + a ∧ 65535 < o + b) ∨ (0 ≤ o + a ∧ o + b ≤ 65535)) with q | ⟨q, r⟩ | ⟨q, r⟩
    · have d1 : decide (o + a < 0) = true := decide_eq_true q
      replace N := Lib.hid (N.out (by omega))
      have SS : Hid (Scl (w.alloc (.cells (sc g o l h) 24)) w.heap.size 24 g o l h) := KP.out.at_
      clear E q CH
      go_enter Try.func11, Try.ntmps11
      go_wp2_with fail
      generalize World.alloc _ _ = W0 at *
      refine wp_region_held_drew (S := fun V => Scl V w.heap.size 24 g o l h ∧ Fld V w.heap.size g o l h) (by kernel_rfl) ⟨KP.out.drew.at_, KP.out.drew.at_.fld⟩ (fun hHeld => ?_)
      refine wpAnyH_take (i := 0) (v := ?_) rfl (by kernel_rfl) (by kernel_rfl) (by kernel_rfl) (fun _ _ _ h => h) (Or.inl ⟨by rfl, ?_⟩) hHeld ?_; rotate_left; (focus (intro w' hSw; obtain ⟨s0, s1, s2, s3, s4⟩ := hSw; go_simp; try with_reducible rfl)); simp only [Act.put, List.getElem_toArray, List.getElem_cons_zero, List.setIfInBounds_toArray, List.set_cons_zero, List.set_cons_succ]
      refine wpAnyH_take (i := 1) (v := ?_) rfl (by kernel_rfl) (by kernel_rfl) (by kernel_rfl) (fun _ _ _ h => h) (Or.inl ⟨by rfl, ?_⟩) hHeld ?_; rotate_left; (focus (intro w' hSw; obtain ⟨s0, s1, s2, s3, s4⟩ := hSw; go_simp; try with_reducible rfl)); simp only [Act.put, List.getElem_toArray, List.getElem_cons_succ, List.getElem_cons_zero, List.setIfInBounds_toArray, List.set_cons_zero, List.set_cons_succ]
      refine wpAnyH_take (i := 2) (v := ?_) rfl (by kernel_rfl) (by kernel_rfl) (by kernel_rfl) (fun _ _ _ h => h) (Or.inl ⟨by rfl, ?_⟩) hHeld ?_; rotate_left; (focus (intro w' hSw; obtain ⟨s0, s1, s2, s3, s4⟩ := hSw; go_simp; try with_reducible rfl)); simp only [Act.put, List.getElem_toArray, List.getElem_cons_succ, List.getElem_cons_zero, List.setIfInBounds_toArray, List.set_cons_zero, List.set_cons_succ]
      refine wpAnyH_take (i := 3) (v := ?_) rfl (by kernel_rfl) (by kernel_rfl) (by kernel_rfl) (fun _ _ _ h => h) (Or.inl ⟨by rfl, ?_⟩) hHeld ?_; rotate_left; (focus (intro w' hSw; obtain ⟨s0, s1, s2, s3, s4⟩ := hSw; go_simp; try with_reducible rfl)); simp only [Act.put, List.getElem_toArray, List.getElem_cons_succ, List.getElem_cons_zero, List.setIfInBounds_toArray, List.set_cons_zero, List.set_cons_succ]
      refine wpAnyH_take (i := 4) (v := ?_) rfl (by kernel_rfl) (by kernel_rfl) (by kernel_rfl) (fun _ _ _ h => h) (Or.inl ⟨by rfl, ?_⟩) hHeld ?_; rotate_left; (focus (intro w' hSw; obtain ⟨s0, s1, s2, s3, s4⟩ := hSw; go_simp; try with_reducible rfl)); simp only [Act.put, List.getElem_toArray, List.getElem_cons_succ, List.getElem_cons_zero, List.setIfInBounds_toArray, List.set_cons_zero, List.set_cons_succ]
      refine wpAnyH_ready (rs := [5]) (by kernel_rfl) (by simp) ?_
      refine AllReadyH.cons rfl (fun K hK => ?_) AllReadyH.nil
      go_simp
      (with_reducible refine (CL.out _).mono ?_)
      rintro e W1 ⟨rfl, hb⟩
      replace KP := Lib.hid (KP.out.drew.grow hb)
      clear hb CL hHeld
      try go_simp
      refine hK.out _ _ ⟨KP.out.at_, KP.out.at_.fld⟩ (fun hHeld => ?_)
      clear hK K
      try simp only [Act.put, List.getElem_toArray, List.getElem_cons_succ, List.getElem_cons_zero, List.setIfInBounds_toArray, List.set_cons_zero, List.set_cons_succ]
      refine wpAnyH_take (i := 6) (v := ?_) rfl (by kernel_rfl) (by kernel_rfl) (by kernel_rfl) (fun _ _ _ h => h) (Or.inl ⟨by rfl, ?_⟩) hHeld ?_; rotate_left; (focus (intro w' hSw; obtain ⟨s0, s1, s2, s3, s4⟩ := hSw; go_simp; try with_reducible rfl)); simp only [Act.put, List.getElem_toArray, List.getElem_cons_succ, List.getElem_cons_zero, List.setIfInBounds_toArray, List.set_cons_zero, List.set_cons_succ]
      refine wpAnyH_take (i := 7) (v := ?_) rfl (by kernel_rfl) (by kernel_rfl) (by kernel_rfl) (fun _ _ _ h => h) (Or.inl ⟨by rfl, ?_⟩) hHeld ?_; rotate_left; (focus (intro w' hSw; obtain ⟨s0, s1, s2, s3, s4⟩ := hSw; go_simp; try with_reducible rfl)); simp only [Act.put, List.getElem_toArray, List.getElem_cons_succ, List.getElem_cons_zero, List.setIfInBounds_toArray, List.set_cons_zero, List.set_cons_succ]
      refine wpAnyH_take (i := 8) (v := ?_) rfl (by kernel_rfl) (by kernel_rfl) (by kernel_rfl) (fun _ _ _ h => h) (Or.inl ⟨by rfl, ?_⟩) hHeld ?_; rotate_left; (focus (intro w' hSw; obtain ⟨s0, s1, s2, s3, s4⟩ := hSw; go_simp; try with_reducible rfl)); simp only [Act.put, List.getElem_toArray, List.getElem_cons_succ, List.getElem_cons_zero, List.setIfInBounds_toArray, List.set_cons_zero, List.set_cons_succ]
      refine wpAnyH_take (i := 9) (v := undef) rfl (by kernel_rfl) (by kernel_rfl) (by kernel_rfl) (fun _ _ _ h => h) (Or.inr ⟨by rfl, rfl⟩) hHeld ?_; simp only [Act.put, List.getElem_toArray, List.getElem_cons_succ, List.getElem_cons_zero, List.setIfInBounds_toArray, List.set_cons_zero, List.set_cons_succ]
      refine wpAnyH_take (i := 10) (v := undef) rfl (by kernel_rfl) (by kernel_rfl) (by kernel_rfl) (fun _ _ _ h => h) (Or.inr ⟨by rfl, rfl⟩) hHeld ?_; simp only [Act.put, List.getElem_toArray, List.getElem_cons_succ, List.getElem_cons_zero, List.setIfInBounds_toArray, List.set_cons_zero, List.set_cons_succ]
      refine wpAnyH_take (i := 11) (v := undef) rfl (by kernel_rfl) (by kernel_rfl) (by kernel_rfl) (fun _ _ _ h => h) (Or.inr ⟨by rfl, rfl⟩) hHeld ?_; simp only [Act.put, List.getElem_toArray, List.getElem_cons_succ, List.getElem_cons_zero, List.setIfInBounds_toArray, List.set_cons_zero, List.set_cons_succ]
      refine wpAnyH_take (i := 12) (v := undef) rfl (by kernel_rfl) (by kernel_rfl) (by kernel_rfl) (fun _ _ _ h => h) (Or.inr ⟨by rfl, rfl⟩) hHeld ?_; simp only [Act.put, List.getElem_toArray, List.getElem_cons_succ, List.getElem_cons_zero, List.setIfInBounds_toArray, List.set_cons_zero, List.set_cons_succ]
      refine wpAnyH_take (i := 13) (v := undef) rfl (by kernel_rfl) (by kernel_rfl) (by kernel_rfl) (fun _ _ _ h => h) (Or.inr ⟨by rfl, rfl⟩) hHeld ?_; simp only [Act.put, List.getElem_toArray, List.getElem_cons_succ, List.getElem_cons_zero, List.setIfInBounds_toArray, List.set_cons_zero, List.set_cons_succ]
      refine wpAnyH_take (i := 14) (v := undef) rfl (by kernel_rfl) (by kernel_rfl) (by kernel_rfl) (fun _ _ _ h => h) (Or.inr ⟨by rfl, rfl⟩) hHeld ?_; simp only [Act.put, List.getElem_toArray, List.getElem_cons_succ, List.getElem_cons_zero, List.setIfInBounds_toArray, List.set_cons_zero, List.set_cons_succ]
      refine wpAnyH_take (i := 15) (v := undef) rfl (by kernel_rfl) (by kernel_rfl) (by kernel_rfl) (fun _ _ _ h => h) (Or.inr ⟨by rfl, rfl⟩) hHeld ?_; simp only [Act.put, List.getElem_toArray, List.getElem_cons_succ, List.getElem_cons_zero, List.setIfInBounds_toArray, List.set_cons_zero, List.set_cons_succ]
      refine wpAnyH_take (i := 16) (v := undef) rfl (by kernel_rfl) (by kernel_rfl) (by kernel_rfl) (fun _ _ _ h => h) (Or.inr ⟨by rfl, rfl⟩) hHeld ?_; simp only [Act.put, List.getElem_toArray, List.getElem_cons_succ, List.getElem_cons_zero, List.setIfInBounds_toArray, List.set_cons_zero, List.set_cons_succ]
      refine wpAnyH_take (i := 17) (v := ?_) rfl (by kernel_rfl) (by kernel_rfl) (by kernel_rfl) (fun _ _ _ h => h) (Or.inl ⟨by rfl, ?_⟩) hHeld ?_; rotate_left; (focus (intro w' hSw; obtain ⟨s0, s1, s2, s3, s4⟩ := hSw; go_simp; try with_reducible rfl)); simp only [Act.put, List.getElem_toArray, List.getElem_cons_succ, List.getElem_cons_zero, List.setIfInBounds_toArray, List.set_cons_zero, List.set_cons_succ]
      refine wpAnyH_done (by kernel_rfl) ?_ _
      all_goals
        go_wp2_with fail
        go_ret
        exact ⟨FixC.ret_int N.out.symm, KP.out.old⟩
    · have d1 : decide (o + a < 0) = false := decide_eq_false (by omega)
      have d2 : decide (65535 < o + b) = true := decide_eq_true r
      replace N := Lib.hid (N.out (by omega))
      clear E q r
      go_enter Try.func11, Try.ntmps11
      go_wp2_with fail
      generalize World.alloc _ _ = W0 at *
      go_region_held3 (fun V => Scl V w.heap.size 24 g o l h ∧ Fld V w.heap.size g o l h) (first | exact ⟨KP.out.at_, KP.out.at_.fld⟩ | exact ⟨KP.out.drew.at_, KP.out.drew.at_.fld⟩ | fail)
        (first | (go_at_call 20; (with_reducible refine (CL.out _).mono ?_); rintro e W1 ⟨rfl, hb⟩; replace KP := Lib.hid (KP.out.drew.grow hb); clear hb CL) | (go_at_call 20; (with_reducible refine (CH.out _).mono ?_); rintro e W2 ⟨rfl, hb⟩; replace KP := Lib.hid (KP.out.grow hb); clear hb CH) | fail)
      all_goals
        go_wp2_with fail
        go_ret
        exact ⟨FixC.ret_int N.out.symm, KP.out.old⟩
    · have d1 : decide (o + a < 0) = false := decide_eq_false (by omega)
      have d2 : decide (65535 < o + b) = false := decide_eq_false (by omega)
      replace E := Lib.hid (E.out q r)
      clear N q r
      go_enter Try.func11, Try.ntmps11
      go_wp2_with fail
      generalize World.alloc _ _ = W0 at *
      go_region_held3 (fun V => Scl V w.heap.size 24 g o l h ∧ Fld V w.heap.size g o l h) (first | exact ⟨KP.out.at_, KP.out.at_.fld⟩ | exact ⟨KP.out.drew.at_, KP.out.drew.at_.fld⟩ | fail)
        (first | (go_at_call 20; (with_reducible refine (CL.out _).mono ?_); rintro e W1 ⟨rfl, hb⟩; replace KP := Lib.hid (KP.out.drew.grow hb); clear hb CL) | (go_at_call 20; (with_reducible refine (CH.out _).mono ?_); rintro e W2 ⟨rfl, hb⟩; replace KP := Lib.hid (KP.out.grow hb); clear hb CH) | fail)
      all_goals
        go_wp2_with fail
        go_ret
        exact ⟨FixC.ret_int E.out.symm, KP.out.old⟩
  · have N : Hid (Sn.err g o l h = 60) := Sn.err_no fun k => hk ⟨k.1, k.2.1, k.2.2.1, k.2.2.2.1, k.2.2.2.2.1, k.2.2.2.2.2.1, k.2.2.2.2.2.2.1⟩
    rcases (by omega : g < 1 ∨ (1 ≤ g ∧ 1048576 < g) ∨ (1 ≤ g ∧ g ≤ 1048576 ∧ o < 0) ∨ (1 ≤ g ∧ g ≤ 1048576 ∧ 0 ≤ o ∧ 65535 < o) ∨ (1 ≤ g ∧ g ≤ 1048576 ∧ 0 ≤ o ∧ o ≤ 65535 ∧ l < -1048576) ∨ (1 ≤ g ∧ g ≤ 1048576 ∧ 0 ≤ o ∧ o ≤ 65535 ∧ -1048576 ≤ l ∧ 1048576 < h) ∨ (1 ≤ g ∧ g ≤ 1048576 ∧ 0 ≤ o ∧ o ≤ 65535 ∧ -1048576 ≤ l ∧ h ≤ 1048576 ∧ h ≤ l)) with h1 | ⟨h1, h2⟩ | ⟨h1, h2, h3⟩ | ⟨h1, h2, h3, h4⟩ | ⟨h1, h2, h3, h4, h5⟩ | ⟨h1, h2, h3, h4, h5, h6⟩ | ⟨h1, h2, h3, h4, h5, h6, h7⟩
    all_goals
      clear hk
      go_enter Try.func11, Try.ntmps11
      go_wp2_with fail
      go_ret
      exact ⟨FixC.ret_int N.out.symm, KP.out.old⟩

theorem rcheck_ok {g o l h : Int} (k : Sn.Ok g o l h) (w : World) : Calls Try.prog 11 #[.agg (sc g o l h)] w fun e w' => e = .returned (.int .i64 0) ∧ Below w.heap.size w w' := by
  have := rcheck_c g o l h w
  rwa [Sn.err_ok k] at this
theorem rcheck_no {g o l h : Int} (k : ¬ Sn.Ok g o l h) (w : World) : Calls Try.prog 11 #[.agg (sc g o l h)] w fun e w' => e = .returned (.int .i64 60) ∧ Below w.heap.size w w' := by
  have := rcheck_c g o l h w
  rwa [Sn.err_no k] at this

set_option maxRecDepth 100000 in
set_option maxHeartbeats 4000000 in
theorem rraw_c (g o l h v : Int) (w : World) : Calls Try.prog 13 #[.agg (sc g o l h), .int .i64 v] w fun e w' => e = .returned (.int .i64 (Sn.raw g o l h v)) ∧ Below w.heap.size w w' := by
  have KP := Lib.hid (Kp.new w g o l h)
  by_cases k : Sn.Ok g o l h
  · have E : Hid (Sn.raw g o l h v = o + Sn.pr g (Sn.bd v l h)) := (Sn.raw_ok k).trans (Sn.cnt_pr _ _ _)
    have CK := Lib.hid (rcheck_ok k)
    have CC := Lib.hid (rcount_c g o l h (Sn.bd v l h) (ok_bd k v) (ok_g k))
    have EC : Hid (Fx.clamp v l h = Sn.bd v l h) := Sn.clamp_bd (ok_lh k).1 (ok_lh k).2.1 (ok_lh k).2.2
    have hp := (Sn.pr_in (ok_bd k v) (ok_g k)).2
    have ho := ok_o k
    clear k
    generalize Sn.bd v l h = u at *
    generalize Sn.pr g u = p at *
    have HW : Hid (IntKind.i64.wrap (o + p) = o + p) := IntWalk.i64_in _ (by omega)
    obtain ⟨p1, p2⟩ := hp
    obtain ⟨o1, o2⟩ := ho
    go_enter Try.func13, Try.ntmps13
    go_wp2_with (first | (refine ld_sc rfl _ rfl _ _ _ _ _ rfl KP.out.at_ ?_) | (go_at_call 11; (with_reducible refine (CK.out _).mono ?_); rintro e W1 ⟨rfl, hb⟩; replace KP := Lib.hid (KP.out.grow hb); clear hb CK) | fail)
    go_region_held3 (fun V => Scl V w.heap.size 24 g o l h ∧ Fld V w.heap.size g o l h) (first | exact ⟨KP.out.at_, KP.out.at_.fld⟩ | exact ⟨KP.out.drew.at_, KP.out.drew.at_.fld⟩ | fail)
      (first | (go_at_call 22; refine (FixC.rclamp_c _ _ _ _).mono ?_; rintro e w' ⟨rfl, rfl⟩; rw [EC.out]) | (go_at_call 20; (with_reducible refine (CC.out _).mono ?_); rintro e W2 ⟨rfl, hb⟩; replace KP := Lib.hid (KP.out.drew.grow hb); clear hb CC) | fail)
    all_goals
      go_wp2_with fail
      go_ret
      exact ⟨FixC.ret_int (by first | exact E.out.symm | (rw [HW.out]; exact E.out.symm)), KP.out.old⟩
  · have E : Hid (Sn.raw g o l h v = 0) := Sn.raw_no k
    have CK := Lib.hid (rcheck_no k)
    clear k
    go_enter Try.func13, Try.ntmps13
    go_wp2_with (first | (refine ld_sc rfl _ rfl _ _ _ _ _ rfl KP.out.at_ ?_) | (go_at_call 11; (with_reducible refine (CK.out _).mono ?_); rintro e W1 ⟨rfl, hb⟩; replace KP := Lib.hid (KP.out.grow hb); clear hb CK) | fail)
    go_ret
    exact ⟨FixC.ret_int E.out.symm, KP.out.old⟩
end Sw
end Go.Proofs.Ytildceoakohhmaa
