/- How a signal is behind one more value: check.Step, of limits that may be. -/
import Derived.Test.YtimflomgaknoaaaCheckStep
namespace Go.Proofs.Ytimflomgaknoaaa
namespace Cw
open Go.RowKit Ck Lk

set_option maxRecDepth 100000 in
set_option maxHeartbeats 16000000 in
theorem step_2 (l : Lm) (la sm wr ri : Int) (lo be : Bool) (v s r p q : Int) (b : Bool) (hk : Ok l) (hw : wrong l ⟨la, sm, wr, ri, lo, be⟩ v = b) (hs : Fx.sat v = s) (hr : Ck.same ⟨la, sm, wr, ri, lo, be⟩ v = r) (hp : cnt wr b = p) (hq : cnt ri (!b) = q) (z : Bool) (hz : (if l.fi ≤ q then false else if l.ba ≤ p then true else lo) = z) (w : World) :
    Calls Try.prog 8 #[.agg (lc l), .agg (wc ⟨la, sm, wr, ri, lo, be⟩), .int .i64 v] w fun e w' => e = .returned (.tuple #[.agg (wc ⟨s, r, p, q, z, true⟩), .bool (!b && !z)]) ∧ Below w.heap.size w w' := by
  have HV := Lib.hid (three w l ⟨la, sm, wr, ri, lo, be⟩)
  have CK := Lib.hid (check_ok hk)
  have CW := Lib.hid (wrong_v hw)
  have CS := Lib.hid (same_v hr)
  have CA : Hid (∀ W, Calls Try.prog 16 #[.int .i64 v] W fun e w' => e = .returned (.int .i64 s) ∧ W = w') := fun W => hs ▸ FixC.sat_c v W
  have CT : Hid (∀ g W, W.heap[g]? = some cob → Calls Try.prog 23 #[.int .i64 wr, .bool b, .pointer (some ⟨g, 0, none⟩)] W fun e w' => e = .returned (.int .i64 p) ∧ W = w') := fun g W h => hp ▸ count_c wr b g W h
  have CF : Hid (∀ g W, W.heap[g]? = some cob → Calls Try.prog 23 #[.int .i64 ri, .bool (!b), .pointer (some ⟨g, 0, none⟩)] W fun e w' => e = .returned (.int .i64 q) ∧ W = w') := fun g W h => hq ▸ count_c ri (!b) g W h
  have HZ := Lib.hid hz
  clear hk hw hs hr hp hq hz
  go_enter Try.func8, Try.ntmps8
  go_upto_region 4 with (first | (refine ldl rfl _ rfl _ _ rfl HV.out.h3 ?_) | (refine ldw rfl _ rfl _ _ rfl HV.out.h2 ?_) | (go_at_call 10; (with_reducible refine (CK.out _).mono ?_); rintro e W ⟨rfl, hb⟩; replace HV := Lib.hid (HV.out.grow hb); clear hb CK) | (go_at_call 12; (with_reducible refine (CW.out _).mono ?_); rintro e W ⟨rfl, hb⟩; replace HV := Lib.hid (HV.out.grow hb); clear hb CW) | (go_at_call 15; (with_reducible refine (counter_c _).mono ?_); rintro e W ⟨g, rfl, hg, hb⟩; replace HV := Lib.hid ((HV.out.grow hb).add (g, cob) hg); clear hb hg) | fail)
  have hL : w.heap.size + 2 < W.heap.size := HV.out.lt (e := (w.heap.size + 2, wob zw)) (by simp)
  go_cut [10] (fun t wx => ∃ m, t = .pointer (some ⟨m, 0, none⟩) ∧ w.heap.size + 2 < m ∧ Hv w wx [(m, wob ⟨s, r, p, q, lo, true⟩), (w.heap.size + 2, wob zw), (w.heap.size + 1, wob ⟨la, sm, wr, ri, lo, be⟩), (w.heap.size, lob l)])
  case first =>
    have HN : Hid (∀ e ∈ [(w.heap.size + 2, wob zw), (w.heap.size + 1, wob ⟨la, sm, wr, ri, lo, be⟩), (w.heap.size, lob l)], e.1 ≠ W.heap.size) := ne3 hL (by omega) (by omega)
    have HM : Hid (w.heap.size ≤ W.heap.size) := by show _ ≤ _; omega
    go_region_held3 (fun V => WFld V (w.heap.size + 1) ⟨la, sm, wr, ri, lo, be⟩) (first | (with_reducible exact wfld HV.out.h3) | (with_reducible exact wfld HV.out.drew.h3) | (with_reducible exact wfld (HV.out.alloc _).h3) | (with_reducible exact wfld (HV.out.alloc _).drew.h3) | (with_reducible exact wfld HV.out.h4) | (with_reducible exact wfld (HV.out.tail.made _).h3) | (with_reducible exact wfld (set6 (skip1 HV.out) HN.out HM.out _ _ _ _ _ _).h3) | fail)
      (first | (go_at_call 16; (with_reducible refine (CA.out _).mono ?_); rintro e w' ⟨rfl, rfl⟩) | (go_at_call 23; (with_reducible refine (CT.out _ _ (by first | exact HV.out.head | exact (HV.out.alloc _).head | exact (HV.out.alloc _).drew.head | exact HV.out.h2)).mono ?_); rintro e w' ⟨rfl, rfl⟩) | (go_at_call 23; (with_reducible refine (CF.out _ _ (by first | exact HV.out.head | exact (HV.out.alloc _).head | exact (HV.out.alloc _).drew.head | exact HV.out.h2)).mono ?_); rintro e w' ⟨rfl, rfl⟩) | (go_at_call 17; (with_reducible refine (CS.out _).mono ?_); rintro e Wn ⟨rfl, hb⟩; (first | replace HV := Lib.hid (HV.out.drew.grow hb) | (replace HV := Lib.hid (show Hv w Wn ((W.heap.size, wob zw) :: _) from (HV.out.made _).drew.grow hb); obtain ⟨z0, z1, z2, z3, z4, z5⟩ := wfld (x := zw) HV.out.head; have y0 := Joins.unfrozen_of_block HV.out.head 0; have y1 := Joins.unfrozen_of_block HV.out.head 1; have y2 := Joins.unfrozen_of_block HV.out.head 2; have y3 := Joins.unfrozen_of_block HV.out.head 3; have y4 := Joins.unfrozen_of_block HV.out.head 4; have y5 := Joins.unfrozen_of_block HV.out.head 5)); clear hb) | fail)
    all_goals
      go_wp2_with fail
      go_meet
      case rel =>
        first | exact ⟨_, rfl, HV.out.lt (e := (w.heap.size + 2, wob zw)) (by simp), HV.out.tail.made _⟩ | (with_reducible exact ⟨_, rfl, hL, set6 (skip1 HV.out) HN.out HM.out _ _ _ _ _ _⟩)
  case rest =>
    obtain ⟨m, rfl, hm, hv⟩ := hcut
    have HH := Lib.hid hv
    have HN : Hid (∀ e ∈ [(w.heap.size + 2, wob zw), (w.heap.size + 1, wob ⟨la, sm, wr, ri, lo, be⟩), (w.heap.size, lob l)], e.1 ≠ m) := ne3 hm (by omega) (by omega)
    have HM : Hid (w.heap.size ≤ m) := by show _ ≤ _; omega
    clear hv HV CS CA CT CF hL
    obtain ⟨k0, k1, k2, k3, k4, k5⟩ := wfld HH.out.head
    obtain ⟨x0, x1, x2, x3, x4, x5⟩ := lfld HH.out.h4
    have hz := HZ.out
    clear HZ
    by_cases d1 : l.ba ≤ p
    · have e1 : decide (l.ba ≤ p) = true := decide_eq_true d1
      by_cases d2 : l.fi ≤ q
      · have e2 : decide (l.fi ≤ q) = true := decide_eq_true d2
        rw [if_pos d2] at hz
        clear d1 d2
        subst hz
        go_wp2_with (first | (refine stb rfl _ _ rfl rfl _ ⟨s, r, p, q, lo, true⟩ true rfl rfl HH.out.head ?_; intro W6 h1 h2; replace HH := Lib.hid (HH.out.change h2 h1 HN.out HM.out); clear h1 h2 k0 k1 k2 k3 k4 k5 x0 x1 x2 x3 x4 x5; obtain ⟨k0, k1, k2, k3, k4, k5⟩ := wfld HH.out.head; obtain ⟨x0, x1, x2, x3, x4, x5⟩ := lfld HH.out.h4) | (refine stb rfl _ _ rfl rfl _ ⟨s, r, p, q, true, true⟩ false rfl rfl HH.out.head ?_; intro W6 h1 h2; replace HH := Lib.hid (HH.out.change h2 h1 HN.out HM.out); clear h1 h2 k0 k1 k2 k3 k4 k5 x0 x1 x2 x3 x4 x5; obtain ⟨k0, k1, k2, k3, k4, k5⟩ := wfld HH.out.head; obtain ⟨x0, x1, x2, x3, x4, x5⟩ := lfld HH.out.h4) | fail)
        clear k0 k1 k2 k3 k4 k5 x0 x1 x2 x3 x4 x5 e1 e2
        have HD := Lib.hid HH.out.drew
        have HA : Hid (∀ e ∈ [(m, wob ⟨s, r, p, q, false, true⟩)], e.1 ≠ w.heap.size + 2) := by show ∀ e ∈ _, _; simp; omega
        refine wp_region_noPanic (Lk.wp_region_lex 8 (fun V => True ∧ WFld V m ⟨s, r, p, q, false, true⟩) (by kernel_rfl) (by kernel_rfl) (fun _ _ _ _ _ h => h) ⟨trivial, wfld HD.out.head⟩ ?_)
        simp only [List.take_succ_cons, List.take_zero, List.drop_succ_cons, List.drop_zero]
        cases b with
        | true =>
          iterate 4 (refine Lk.wpHeldQ_step ?_ rfl ?_ ?_; rotate_left; (focus (intro w' hS; obtain ⟨_, h0, h1, h2, h3, h4, h5⟩ := hS; go_simp; try with_reducible rfl)); simp only [Act.put, List.setIfInBounds_toArray, List.set_cons_zero, List.set_cons_succ])
          iterate 3 (refine Lk.wpHeldQ_skip rfl ?_; simp only [Act.put, List.setIfInBounds_toArray, List.set_cons_zero, List.set_cons_succ])
          iterate 1 (refine Lk.wpHeldQ_step ?_ rfl ?_ ?_; rotate_left; (focus (intro w' hS; obtain ⟨_, h0, h1, h2, h3, h4, h5⟩ := hS; go_simp; try with_reducible rfl)); simp only [Act.put, List.setIfInBounds_toArray, List.set_cons_zero, List.set_cons_succ])
          show Lk.wpSeqH _ _ _ _ _ _ _
          refine Lk.wpSeqH_step rfl (fun K hK => ?_)
          refine wp_store_row 25 _ _ rfl _ (Cw.wc ⟨s, r, p, q, false, true⟩) rfl rfl 25 (Cw.wc zw) HD.out.h2 info_wc rfl (wc_one _) ?_
          have HR := Lib.hid (((HD.out.none.add _ HD.out.head).off (Off.row _ (w.heap.size + 2) (Cw.wc ⟨s, r, p, q, false, true⟩)) HA.out (by omega)).add (w.heap.size + 2, wob ⟨s, r, p, q, false, true⟩) (setRow_heap _ (w.heap.size + 2) (Cw.wc zw) (Cw.wc ⟨s, r, p, q, false, true⟩) 25 (0, 0) HD.out.h2))
          refine hK _ _ ⟨trivial, wfld HR.out.h2⟩ ?_
          clear hK K
          refine Lk.wpSeqH_step rfl (fun K hK => ?_)
          have HKK := Lib.hid hK
          clear hK
          go_simp
          refine HKK.out _ _ ⟨trivial, wfld HR.out.h2⟩ ?_
          clear HKK K
          refine Lk.wpSeqH_nil (NoPanic.normal ?_)
          go_wp2_with fail
          refine bodyPost_ret (res2 rfl _ _ _ _ rfl HR.out.head) rfl ?_
          exact ⟨rfl, HR.out.old⟩
        | false =>
          iterate 8 (refine Lk.wpHeldQ_step ?_ rfl ?_ ?_; rotate_left; (focus (intro w' hS; obtain ⟨_, h0, h1, h2, h3, h4, h5⟩ := hS; go_simp; try with_reducible rfl)); simp only [Act.put, List.setIfInBounds_toArray, List.set_cons_zero, List.set_cons_succ])
          show Lk.wpSeqH _ _ _ _ _ _ _
          refine Lk.wpSeqH_step rfl (fun K hK => ?_)
          refine wp_store_row 25 _ _ rfl _ (Cw.wc ⟨s, r, p, q, false, true⟩) rfl rfl 25 (Cw.wc zw) HD.out.h2 info_wc rfl (wc_one _) ?_
          have HR := Lib.hid (((HD.out.none.add _ HD.out.head).off (Off.row _ (w.heap.size + 2) (Cw.wc ⟨s, r, p, q, false, true⟩)) HA.out (by omega)).add (w.heap.size + 2, wob ⟨s, r, p, q, false, true⟩) (setRow_heap _ (w.heap.size + 2) (Cw.wc zw) (Cw.wc ⟨s, r, p, q, false, true⟩) 25 (0, 0) HD.out.h2))
          refine hK _ _ ⟨trivial, wfld HR.out.h2⟩ ?_
          clear hK K
          refine Lk.wpSeqH_step rfl (fun K hK => ?_)
          have HKK := Lib.hid hK
          clear hK
          go_simp
          refine HKK.out _ _ ⟨trivial, wfld HR.out.h2⟩ ?_
          clear HKK K
          refine Lk.wpSeqH_nil (NoPanic.normal ?_)
          go_wp2_with fail
          refine bodyPost_ret (res2 rfl _ _ _ _ rfl HR.out.head) rfl ?_
          exact ⟨rfl, HR.out.old⟩
      · have e2 : decide (l.fi ≤ q) = false := decide_eq_false d2
        rw [if_neg d2, if_pos d1] at hz
        clear d1 d2
        subst hz
        go_wp2_with (first | (refine stb rfl _ _ rfl rfl _ ⟨s, r, p, q, lo, true⟩ true rfl rfl HH.out.head ?_; intro W6 h1 h2; replace HH := Lib.hid (HH.out.change h2 h1 HN.out HM.out); clear h1 h2 k0 k1 k2 k3 k4 k5 x0 x1 x2 x3 x4 x5; obtain ⟨k0, k1, k2, k3, k4, k5⟩ := wfld HH.out.head; obtain ⟨x0, x1, x2, x3, x4, x5⟩ := lfld HH.out.h4) | fail)
        clear k0 k1 k2 k3 k4 k5 x0 x1 x2 x3 x4 x5 e1 e2
        have HD := Lib.hid HH.out.drew
        have HA : Hid (∀ e ∈ [(m, wob ⟨s, r, p, q, true, true⟩)], e.1 ≠ w.heap.size + 2) := by show ∀ e ∈ _, _; simp; omega
        refine wp_region_noPanic (Lk.wp_region_lex 8 (fun V => True ∧ WFld V m ⟨s, r, p, q, true, true⟩) (by kernel_rfl) (by kernel_rfl) (fun _ _ _ _ _ h => h) ⟨trivial, wfld HD.out.head⟩ ?_)
        simp only [List.take_succ_cons, List.take_zero, List.drop_succ_cons, List.drop_zero]
        cases b with
        | true =>
          iterate 4 (refine Lk.wpHeldQ_step ?_ rfl ?_ ?_; rotate_left; (focus (intro w' hS; obtain ⟨_, h0, h1, h2, h3, h4, h5⟩ := hS; go_simp; try with_reducible rfl)); simp only [Act.put, List.setIfInBounds_toArray, List.set_cons_zero, List.set_cons_succ])
          iterate 3 (refine Lk.wpHeldQ_skip rfl ?_; simp only [Act.put, List.setIfInBounds_toArray, List.set_cons_zero, List.set_cons_succ])
          iterate 1 (refine Lk.wpHeldQ_step ?_ rfl ?_ ?_; rotate_left; (focus (intro w' hS; obtain ⟨_, h0, h1, h2, h3, h4, h5⟩ := hS; go_simp; try with_reducible rfl)); simp only [Act.put, List.setIfInBounds_toArray, List.set_cons_zero, List.set_cons_succ])
          show Lk.wpSeqH _ _ _ _ _ _ _
          refine Lk.wpSeqH_step rfl (fun K hK => ?_)
          refine wp_store_row 25 _ _ rfl _ (Cw.wc ⟨s, r, p, q, true, true⟩) rfl rfl 25 (Cw.wc zw) HD.out.h2 info_wc rfl (wc_one _) ?_
          have HR := Lib.hid (((HD.out.none.add _ HD.out.head).off (Off.row _ (w.heap.size + 2) (Cw.wc ⟨s, r, p, q, true, true⟩)) HA.out (by omega)).add (w.heap.size + 2, wob ⟨s, r, p, q, true, true⟩) (setRow_heap _ (w.heap.size + 2) (Cw.wc zw) (Cw.wc ⟨s, r, p, q, true, true⟩) 25 (0, 0) HD.out.h2))
          refine hK _ _ ⟨trivial, wfld HR.out.h2⟩ ?_
          clear hK K
          refine Lk.wpSeqH_step rfl (fun K hK => ?_)
          have HKK := Lib.hid hK
          clear hK
          go_simp
          refine HKK.out _ _ ⟨trivial, wfld HR.out.h2⟩ ?_
          clear HKK K
          refine Lk.wpSeqH_nil (NoPanic.normal ?_)
          go_wp2_with fail
          refine bodyPost_ret (res2 rfl _ _ _ _ rfl HR.out.head) rfl ?_
          exact ⟨rfl, HR.out.old⟩
        | false =>
          iterate 8 (refine Lk.wpHeldQ_step ?_ rfl ?_ ?_; rotate_left; (focus (intro w' hS; obtain ⟨_, h0, h1, h2, h3, h4, h5⟩ := hS; go_simp; try with_reducible rfl)); simp only [Act.put, List.setIfInBounds_toArray, List.set_cons_zero, List.set_cons_succ])
          show Lk.wpSeqH _ _ _ _ _ _ _
          refine Lk.wpSeqH_step rfl (fun K hK => ?_)
          refine wp_store_row 25 _ _ rfl _ (Cw.wc ⟨s, r, p, q, true, true⟩) rfl rfl 25 (Cw.wc zw) HD.out.h2 info_wc rfl (wc_one _) ?_
          have HR := Lib.hid (((HD.out.none.add _ HD.out.head).off (Off.row _ (w.heap.size + 2) (Cw.wc ⟨s, r, p, q, true, true⟩)) HA.out (by omega)).add (w.heap.size + 2, wob ⟨s, r, p, q, true, true⟩) (setRow_heap _ (w.heap.size + 2) (Cw.wc zw) (Cw.wc ⟨s, r, p, q, true, true⟩) 25 (0, 0) HD.out.h2))
          refine hK _ _ ⟨trivial, wfld HR.out.h2⟩ ?_
          clear hK K
          refine Lk.wpSeqH_step rfl (fun K hK => ?_)
          have HKK := Lib.hid hK
          clear hK
          go_simp
          refine HKK.out _ _ ⟨trivial, wfld HR.out.h2⟩ ?_
          clear HKK K
          refine Lk.wpSeqH_nil (NoPanic.normal ?_)
          go_wp2_with fail
          refine bodyPost_ret (res2 rfl _ _ _ _ rfl HR.out.head) rfl ?_
          exact ⟨rfl, HR.out.old⟩
    · have e1 : decide (l.ba ≤ p) = false := decide_eq_false d1
      by_cases d2 : l.fi ≤ q
      · have e2 : decide (l.fi ≤ q) = true := decide_eq_true d2
        rw [if_pos d2] at hz
        clear d1 d2
        subst hz
        go_wp2_with (first | (refine stb rfl _ _ rfl rfl _ ⟨s, r, p, q, lo, true⟩ false rfl rfl HH.out.head ?_; intro W6 h1 h2; replace HH := Lib.hid (HH.out.change h2 h1 HN.out HM.out); clear h1 h2 k0 k1 k2 k3 k4 k5 x0 x1 x2 x3 x4 x5; obtain ⟨k0, k1, k2, k3, k4, k5⟩ := wfld HH.out.head; obtain ⟨x0, x1, x2, x3, x4, x5⟩ := lfld HH.out.h4) | fail)
        clear k0 k1 k2 k3 k4 k5 x0 x1 x2 x3 x4 x5 e1 e2
        have HD := Lib.hid HH.out.drew
        have HA : Hid (∀ e ∈ [(m, wob ⟨s, r, p, q, false, true⟩)], e.1 ≠ w.heap.size + 2) := by show ∀ e ∈ _, _; simp; omega
        refine wp_region_noPanic (Lk.wp_region_lex 8 (fun V => True ∧ WFld V m ⟨s, r, p, q, false, true⟩) (by kernel_rfl) (by kernel_rfl) (fun _ _ _ _ _ h => h) ⟨trivial, wfld HD.out.head⟩ ?_)
        simp only [List.take_succ_cons, List.take_zero, List.drop_succ_cons, List.drop_zero]
        cases b with
        | true =>
          iterate 4 (refine Lk.wpHeldQ_step ?_ rfl ?_ ?_; rotate_left; (focus (intro w' hS; obtain ⟨_, h0, h1, h2, h3, h4, h5⟩ := hS; go_simp; try with_reducible rfl)); simp only [Act.put, List.setIfInBounds_toArray, List.set_cons_zero, List.set_cons_succ])
          iterate 3 (refine Lk.wpHeldQ_skip rfl ?_; simp only [Act.put, List.setIfInBounds_toArray, List.set_cons_zero, List.set_cons_succ])
          iterate 1 (refine Lk.wpHeldQ_step ?_ rfl ?_ ?_; rotate_left; (focus (intro w' hS; obtain ⟨_, h0, h1, h2, h3, h4, h5⟩ := hS; go_simp; try with_reducible rfl)); simp only [Act.put, List.setIfInBounds_toArray, List.set_cons_zero, List.set_cons_succ])
          show Lk.wpSeqH _ _ _ _ _ _ _
          refine Lk.wpSeqH_step rfl (fun K hK => ?_)
          refine wp_store_row 25 _ _ rfl _ (Cw.wc ⟨s, r, p, q, false, true⟩) rfl rfl 25 (Cw.wc zw) HD.out.h2 info_wc rfl (wc_one _) ?_
          have HR := Lib.hid (((HD.out.none.add _ HD.out.head).off (Off.row _ (w.heap.size + 2) (Cw.wc ⟨s, r, p, q, false, true⟩)) HA.out (by omega)).add (w.heap.size + 2, wob ⟨s, r, p, q, false, true⟩) (setRow_heap _ (w.heap.size + 2) (Cw.wc zw) (Cw.wc ⟨s, r, p, q, false, true⟩) 25 (0, 0) HD.out.h2))
          refine hK _ _ ⟨trivial, wfld HR.out.h2⟩ ?_
          clear hK K
          refine Lk.wpSeqH_step rfl (fun K hK => ?_)
          have HKK := Lib.hid hK
          clear hK
          go_simp
          refine HKK.out _ _ ⟨trivial, wfld HR.out.h2⟩ ?_
          clear HKK K
          refine Lk.wpSeqH_nil (NoPanic.normal ?_)
          go_wp2_with fail
          refine bodyPost_ret (res2 rfl _ _ _ _ rfl HR.out.head) rfl ?_
          exact ⟨rfl, HR.out.old⟩
        | false =>
          iterate 8 (refine Lk.wpHeldQ_step ?_ rfl ?_ ?_; rotate_left; (focus (intro w' hS; obtain ⟨_, h0, h1, h2, h3, h4, h5⟩ := hS; go_simp; try with_reducible rfl)); simp only [Act.put, List.setIfInBounds_toArray, List.set_cons_zero, List.set_cons_succ])
          show Lk.wpSeqH _ _ _ _ _ _ _
          refine Lk.wpSeqH_step rfl (fun K hK => ?_)
          refine wp_store_row 25 _ _ rfl _ (Cw.wc ⟨s, r, p, q, false, true⟩) rfl rfl 25 (Cw.wc zw) HD.out.h2 info_wc rfl (wc_one _) ?_
          have HR := Lib.hid (((HD.out.none.add _ HD.out.head).off (Off.row _ (w.heap.size + 2) (Cw.wc ⟨s, r, p, q, false, true⟩)) HA.out (by omega)).add (w.heap.size + 2, wob ⟨s, r, p, q, false, true⟩) (setRow_heap _ (w.heap.size + 2) (Cw.wc zw) (Cw.wc ⟨s, r, p, q, false, true⟩) 25 (0, 0) HD.out.h2))
          refine hK _ _ ⟨trivial, wfld HR.out.h2⟩ ?_
          clear hK K
          refine Lk.wpSeqH_step rfl (fun K hK => ?_)
          have HKK := Lib.hid hK
          clear hK
          go_simp
          refine HKK.out _ _ ⟨trivial, wfld HR.out.h2⟩ ?_
          clear HKK K
          refine Lk.wpSeqH_nil (NoPanic.normal ?_)
          go_wp2_with fail
          refine bodyPost_ret (res2 rfl _ _ _ _ rfl HR.out.head) rfl ?_
          exact ⟨rfl, HR.out.old⟩
      · have e2 : decide (l.fi ≤ q) = false := decide_eq_false d2
        rw [if_neg d2, if_neg d1] at hz
        clear d1 d2
        subst hz
        go_wp2_with fail
        clear k0 k1 k2 k3 k4 k5 x0 x1 x2 x3 x4 x5 e1 e2
        have HD := Lib.hid HH.out.drew
        have HA : Hid (∀ e ∈ [(m, wob ⟨s, r, p, q, lo, true⟩)], e.1 ≠ w.heap.size + 2) := by show ∀ e ∈ _, _; simp; omega
        refine wp_region_noPanic (Lk.wp_region_lex 8 (fun V => True ∧ WFld V m ⟨s, r, p, q, lo, true⟩) (by kernel_rfl) (by kernel_rfl) (fun _ _ _ _ _ h => h) ⟨trivial, wfld HD.out.head⟩ ?_)
        simp only [List.take_succ_cons, List.take_zero, List.drop_succ_cons, List.drop_zero]
        cases b with
        | true =>
          iterate 4 (refine Lk.wpHeldQ_step ?_ rfl ?_ ?_; rotate_left; (focus (intro w' hS; obtain ⟨_, h0, h1, h2, h3, h4, h5⟩ := hS; go_simp; try with_reducible rfl)); simp only [Act.put, List.setIfInBounds_toArray, List.set_cons_zero, List.set_cons_succ])
          iterate 3 (refine Lk.wpHeldQ_skip rfl ?_; simp only [Act.put, List.setIfInBounds_toArray, List.set_cons_zero, List.set_cons_succ])
          iterate 1 (refine Lk.wpHeldQ_step ?_ rfl ?_ ?_; rotate_left; (focus (intro w' hS; obtain ⟨_, h0, h1, h2, h3, h4, h5⟩ := hS; go_simp; try with_reducible rfl)); simp only [Act.put, List.setIfInBounds_toArray, List.set_cons_zero, List.set_cons_succ])
          show Lk.wpSeqH _ _ _ _ _ _ _
          refine Lk.wpSeqH_step rfl (fun K hK => ?_)
          refine wp_store_row 25 _ _ rfl _ (Cw.wc ⟨s, r, p, q, lo, true⟩) rfl rfl 25 (Cw.wc zw) HD.out.h2 info_wc rfl (wc_one _) ?_
          have HR := Lib.hid (((HD.out.none.add _ HD.out.head).off (Off.row _ (w.heap.size + 2) (Cw.wc ⟨s, r, p, q, lo, true⟩)) HA.out (by omega)).add (w.heap.size + 2, wob ⟨s, r, p, q, lo, true⟩) (setRow_heap _ (w.heap.size + 2) (Cw.wc zw) (Cw.wc ⟨s, r, p, q, lo, true⟩) 25 (0, 0) HD.out.h2))
          refine hK _ _ ⟨trivial, wfld HR.out.h2⟩ ?_
          clear hK K
          refine Lk.wpSeqH_step rfl (fun K hK => ?_)
          have HKK := Lib.hid hK
          clear hK
          go_simp
          refine HKK.out _ _ ⟨trivial, wfld HR.out.h2⟩ ?_
          clear HKK K
          refine Lk.wpSeqH_nil (NoPanic.normal ?_)
          go_wp2_with fail
          refine bodyPost_ret (res2 rfl _ _ _ _ rfl HR.out.head) rfl ?_
          exact ⟨rfl, HR.out.old⟩
        | false =>
          iterate 8 (refine Lk.wpHeldQ_step ?_ rfl ?_ ?_; rotate_left; (focus (intro w' hS; obtain ⟨_, h0, h1, h2, h3, h4, h5⟩ := hS; go_simp; try with_reducible rfl)); simp only [Act.put, List.setIfInBounds_toArray, List.set_cons_zero, List.set_cons_succ])
          show Lk.wpSeqH _ _ _ _ _ _ _
          refine Lk.wpSeqH_step rfl (fun K hK => ?_)
          refine wp_store_row 25 _ _ rfl _ (Cw.wc ⟨s, r, p, q, lo, true⟩) rfl rfl 25 (Cw.wc zw) HD.out.h2 info_wc rfl (wc_one _) ?_
          have HR := Lib.hid (((HD.out.none.add _ HD.out.head).off (Off.row _ (w.heap.size + 2) (Cw.wc ⟨s, r, p, q, lo, true⟩)) HA.out (by omega)).add (w.heap.size + 2, wob ⟨s, r, p, q, lo, true⟩) (setRow_heap _ (w.heap.size + 2) (Cw.wc zw) (Cw.wc ⟨s, r, p, q, lo, true⟩) 25 (0, 0) HD.out.h2))
          refine hK _ _ ⟨trivial, wfld HR.out.h2⟩ ?_
          clear hK K
          refine Lk.wpSeqH_step rfl (fun K hK => ?_)
          have HKK := Lib.hid hK
          clear hK
          go_simp
          refine HKK.out _ _ ⟨trivial, wfld HR.out.h2⟩ ?_
          clear HKK K
          refine Lk.wpSeqH_nil (NoPanic.normal ?_)
          go_wp2_with fail
          refine bodyPost_ret (res2 rfl _ _ _ _ rfl HR.out.head) rfl ?_
          exact ⟨rfl, HR.out.old⟩
end Cw
end Go.Proofs.Ytimflomgaknoaaa
