/- How often a signal is the same: check.same. -/
import Derived.Test.YtimflomgaknoaaaCheckCalls
import Derived.Test.YtimflomgaknoaaaGridKit
namespace Go.Proofs.Ytimflomgaknoaaa
namespace Cw
open Go.RowKit Ck Lk

set_option maxRecDepth 100000 in
set_option maxHeartbeats 4000000 in
theorem same_c (x : Wa) (v : Int) (w : World) : Calls Try.prog 17 #[.agg (wc x), .int .i64 v] w fun e w' => e = .returned (.int .i64 (Ck.same x v)) ∧ Below w.heap.size w w' := by
  have HV := Lib.hid ((Hv.nil w).made (wob x))
  obtain ⟨la, sm, wr, ri, lo, be⟩ := x
  cases be with
  | false =>
    have E : Hid (Ck.same ⟨la, sm, wr, ri, lo, false⟩ v = 0) := rfl
    go_enter Try.func17, Try.ntmps17
    go_wp2_with (first | (go_at_call 15; (with_reducible refine (counter_c _).mono ?_); rintro e W ⟨g, rfl, hg, hb⟩; replace HV := Lib.hid ((HV.out.grow hb).add (g, cob) hg); clear hb hg) | fail)
    have HS : Hid ((fun V : World => True ∧ V.cell? ⟨w.heap.size, 1, none⟩ = some (.int .i64 sm) ∧ V.cell? ⟨w.heap.size, 5, none⟩ = some (.bool false)) W.drew) := ⟨trivial, (wfld HV.out.drew.h2).2.1, (wfld HV.out.drew.h2).2.2.2.2.2⟩
    refine wp_region_noPanic (Lk.wp_region_lex 12 (fun V => True ∧ V.cell? ⟨w.heap.size, 1, none⟩ = some (.int .i64 sm) ∧ V.cell? ⟨w.heap.size, 5, none⟩ = some (.bool false)) (by kernel_rfl) (by kernel_rfl) (fun _ _ _ _ _ h => h) HS.out ?_)
    simp only [List.take_succ_cons, List.take_zero, List.drop_succ_cons, List.drop_zero]
    iterate 6 (refine Lk.wpHeldQ_step ?_ rfl ?_ ?_; rotate_left; (focus (intro w' hS; obtain ⟨_, h0, h1⟩ := hS; go_simp; try with_reducible rfl)); simp only [Act.put, List.setIfInBounds_toArray, List.set_cons_zero, List.set_cons_succ])
    iterate 5 (refine Lk.wpHeldQ_skip rfl ?_; simp only [Act.put, List.setIfInBounds_toArray, List.set_cons_zero, List.set_cons_succ])
    iterate 1 (refine Lk.wpHeldQ_step ?_ rfl ?_ ?_; rotate_left; (focus (intro w' hS; obtain ⟨_, h0, h1⟩ := hS; go_simp; try with_reducible rfl)); simp only [Act.put, List.setIfInBounds_toArray, List.set_cons_zero, List.set_cons_succ])
    show Lk.wpSeqH _ _ _ _ _ _ _
    refine Lk.wpSeqH_step rfl (fun K hK => ?_)
    have HKK := Lib.hid hK
    clear hK
    go_simp
    refine (count_f _ _ _).mono ?_
    rintro e w9 ⟨rfl, rfl⟩
    refine HKK.out _ _ HS.out ?_
    clear HKK K
    try simp only [Act.put, List.setIfInBounds_toArray, List.set_cons_zero, List.set_cons_succ]
    refine Lk.wpSeqH_step rfl (fun K hK => ?_)
    have HKK := Lib.hid hK
    clear hK
    go_simp
    refine HKK.out _ _ HS.out ?_
    clear HKK K
    refine Lk.wpSeqH_nil (NoPanic.normal ?_)
    go_wp2_with fail
    go_ret
    exact ⟨FixC.ret_int E.out.symm, HV.out.drew.old⟩
  | true =>
    obtain ⟨s, hs⟩ : ∃ s, Fx.sat v = s := ⟨_, rfl⟩
    have C : Hid (∀ W, Calls Try.prog 16 #[.int .i64 v] W fun e w' => e = .returned (.int .i64 s) ∧ W = w') := fun W => hs ▸ FixC.sat_c v W
    obtain ⟨b, eb⟩ : ∃ b, (la == s) = b := ⟨_, rfl⟩
    have E : Hid (Ck.same ⟨la, sm, wr, ri, lo, true⟩ v = cnt sm b) := by show cnt sm (true && (la == Fx.sat v)) = _; rw [hs, eb]; rfl
    clear hs
    go_enter Try.func17, Try.ntmps17
    go_wp2_with (first | (go_at_call 15; (with_reducible refine (counter_c _).mono ?_); rintro e W ⟨g, rfl, hg, hb⟩; replace HV := Lib.hid ((HV.out.grow hb).add (g, cob) hg); clear hb hg) | fail)
    go_region_held3 (fun V => V.cell? ⟨w.heap.size, 1, none⟩ = some (.int .i64 sm) ∧ V.cell? ⟨w.heap.size, 5, none⟩ = some (.bool true) ∧ V.cell? ⟨w.heap.size, 0, none⟩ = some (.int .i64 la)) (first | exact ⟨(wfld HV.out.h2).2.1, (wfld HV.out.h2).2.2.2.2.2, (wfld HV.out.h2).1⟩ | exact ⟨(wfld HV.out.drew.h2).2.1, (wfld HV.out.drew.h2).2.2.2.2.2, (wfld HV.out.drew.h2).1⟩ | fail)
      (first | (go_at_call 16; (with_reducible refine (C.out _).mono ?_); rintro e w' ⟨rfl, rfl⟩) | (go_at_call 23; (with_reducible refine (count_c _ _ _ _ HV.out.drew.head).mono ?_); rintro e w' ⟨rfl, rfl⟩) | fail)
    all_goals
      go_wp2_with fail
      go_ret
      exact ⟨FixC.ret_int E.out.symm, HV.out.drew.old⟩
end Cw
end Go.Proofs.Ytimflomgaknoaaa
