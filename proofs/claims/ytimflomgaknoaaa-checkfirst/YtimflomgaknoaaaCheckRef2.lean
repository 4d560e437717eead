/- The document's Step. -/
import Derived.Test.YtimflomgaknoaaaCheckRef
import Derived.Test.YtimflomgaknoaaaCheckStep3
namespace Go.Proofs.Ytimflomgaknoaaa
namespace Cw
open Go.RowKit Ck Lk

/-- A counter, stored. -/
theorem sti {ops : Array Oper} {rest : List Oper} {op : Oper} {a : Act} {w : World} {Q : Exit → Act → World → Prop} (hgd : op.guard = none) (x y : Operand) (ho : op.op = .store 3 x y) (hd : op.dst = none)
    (g i : Nat) (q q' : Wa) (n u : Int) (hx : a.eval x = .pointer (some ⟨g, i, none⟩)) (hy : a.eval y = .int .i64 n) (hP : w.heap[g]? = some (wob q)) (hc : (wc q)[i]? = some (.int .i64 u)) (hq : (wc q).setIfInBounds i (.int .i64 n) = wc q')
    (h : ∀ w', w'.heap[g]? = some (wob q') → Off g w w' → wpList Try.prog ops Q rest a w') : wpList Try.prog ops Q (op :: rest) a w := by
  have c : w.cell? ⟨g, i, none⟩ = some (.int .i64 u) := (Joins.cell_of_block hP i).trans hc
  have f := Joins.unfrozen_of_block hP i
  refine wpList_plain hgd fun _ hK => ?_
  have hB := Joins.block_setCell hP (i := i) (.int .i64 n)
  rw [hq] at hB
  have H := hK _ _ (h _ hB ((Off.refl g w).set i (.int .i64 n)))
  unfold Oper.wp execOp
  simp only [ho, hx, hy, Instr.storeAt, Instr.sureAddr, Sem.run_bind, Sem.run_pure, Result.andThen_ok]
  simp [go_sem, c, f, hd]
  exact H

set_option maxRecDepth 100000 in
set_option maxHeartbeats 4000000 in
theorem rstep_1 (l : Lm) (x : Wa) (v : Int) (hk : ¬ Ok l) (w : World) : Calls Try.prog 9 #[.agg (lc l), .agg (wc x), .int .i64 v] w fun e w' => e = .returned (.tuple #[.agg (wc x), .bool false]) ∧ Below w.heap.size w w' := by
  have HV := Lib.hid (three w l x)
  have CK := Lib.hid (rcheck_no hk)
  clear hk
  go_enter Try.func9, Try.ntmps9
  go_wp2_with (first | (refine ldl rfl _ rfl _ _ rfl HV.out.h3 ?_) | (refine ldw rfl _ rfl _ _ rfl HV.out.h2 ?_) | (go_at_call 11; (with_reducible refine (CK.out _).mono ?_); rintro e W ⟨rfl, hb⟩; replace HV := Lib.hid (HV.out.grow hb); clear hb CK) | (refine stw rfl _ _ rfl rfl _ _ x rfl rfl HV.out.head ?_; intro W6 h1 h2; have HP := Lib.hid h1; replace HV := Lib.hid (HV.out.change h2 h1 (by simp) (by omega)); clear h1 h2) | fail)
  refine bodyPost_ret (res2 rfl _ _ _ _ rfl HP.out) rfl ?_
  exact ⟨rfl, HV.out.old⟩

set_option maxRecDepth 100000 in
set_option maxHeartbeats 8000000 in
theorem rstep_w1 (l : Lm) (la sm wr ri : Int) (lo : Bool) (v s r p q : Int) (hk : Ok l) (hw : wrong l ⟨la, sm, wr, ri, lo, false⟩ v = true) (hs : Fx.sat v = s) (hr : next sm = r) (hp : next wr = p) (hq : next ri = q) (h7 : l.ba ≤ p) (w : World) :
    Calls Try.prog 9 #[.agg (lc l), .agg (wc ⟨la, sm, wr, ri, lo, false⟩), .int .i64 v] w fun e w' => e = .returned (.tuple #[.agg (wc ⟨s, 0, p, 0, true, true⟩), .bool (!true && !true)]) ∧ Below w.heap.size w w' := by
  have HV := Lib.hid (three w l ⟨la, sm, wr, ri, lo, false⟩)
  have CK := Lib.hid (rcheck_ok hk)
  have CW := Lib.hid (rwrong_v hw)
  have CA := Lib.hid (fun W => rsat_v hs W)
  have CN := Lib.hid (fun W => next_v hr W)
  have CP := Lib.hid (fun W => next_v hp W)
  have CQ := Lib.hid (fun W => next_v hq W)
  have d7 : decide (l.ba ≤ p) = true := decide_eq_true h7
  have d8 : decide (l.fi ≤ 0) = false := decide_eq_false (by have := hk.2.2.2.2.2.1; omega)
  clear hk hw hs hr hp hq h7
  go_enter Try.func9, Try.ntmps9
  go_upto_region 4 with (first | (refine ldl rfl _ rfl _ _ rfl HV.out.h3 ?_) | (refine ldw rfl _ rfl _ _ rfl HV.out.h2 ?_) | (go_at_call 11; (with_reducible refine (CK.out _).mono ?_); rintro e W ⟨rfl, hb⟩; replace HV := Lib.hid (HV.out.grow hb); clear hb CK) | (go_at_call 13; (with_reducible refine (CW.out _).mono ?_); rintro e W ⟨rfl, hb⟩; replace HV := Lib.hid (HV.out.grow hb); clear hb CW) | fail)
  have hL : w.heap.size + 2 < W.heap.size := HV.out.lt (e := (w.heap.size + 2, wob zw)) (by simp)
  go_cut [9] (fun t wx => ∃ m, t = .pointer (some ⟨m, 0, none⟩) ∧ w.heap.size + 2 < m ∧ Hv w wx [(m, wob ⟨s, 0, 0, 0, lo, true⟩), (w.heap.size + 2, wob zw), (w.heap.size + 1, wob ⟨la, sm, wr, ri, lo, false⟩), (w.heap.size, lob l)])
  case first =>
    go_region_held3 (fun V => WFld V (w.heap.size + 1) ⟨la, sm, wr, ri, lo, false⟩) (first | (with_reducible exact wfld HV.out.h2) | (with_reducible exact wfld HV.out.drew.h2) | (with_reducible exact wfld (HV.out.alloc _).h2) | (with_reducible exact wfld (HV.out.alloc _).drew.h2) | (with_reducible exact wfld (HV.out.drew.alloc _).h2) | fail)
      (first | (go_at_call 18; (with_reducible refine (CA.out _).mono ?_); rintro e w' ⟨rfl, rfl⟩) | fail)
    all_goals
      go_wp2_with fail
      go_meet
      case rel => exact ⟨_, rfl, hL, (HV.out.made _).drew⟩
  case rest =>
    obtain ⟨m, rfl, hm, hv⟩ := hcut
    have HH := Lib.hid hv
    have HN : Hid (∀ e ∈ [(w.heap.size + 2, wob zw), (w.heap.size + 1, wob ⟨la, sm, wr, ri, lo, false⟩), (w.heap.size, lob l)], e.1 ≠ m) := ne3 hm (by omega) (by omega)
    have HM : Hid (w.heap.size ≤ m) := by show _ ≤ _; omega
    clear hv HV CA hL
    obtain ⟨k0, k1, k2, k3, k4, k5⟩ := wfld HH.out.head; obtain ⟨x0, x1, x2, x3, x4, x5⟩ := lfld HH.out.h4; obtain ⟨y0, y1, y2, y3, y4, y5⟩ := wfld HH.out.h3
    go_wp2_with (first | (go_at_call 19; (with_reducible refine (CP.out _).mono ?_); rintro e w' ⟨rfl, rfl⟩) | (refine sti rfl _ _ rfl rfl _ 2 ⟨s, 0, 0, 0, lo, true⟩ ⟨s, 0, p, 0, lo, true⟩ _ _ rfl rfl HH.out.head rfl rfl ?_; intro W6 h1 h2; replace HH := Lib.hid (HH.out.change h2 h1 HN.out HM.out); clear h1 h2 k0 k1 k2 k3 k4 k5 x0 x1 x2 x3 x4 x5 y0 y1 y2 y3 y4 y5; obtain ⟨k0, k1, k2, k3, k4, k5⟩ := wfld HH.out.head; obtain ⟨x0, x1, x2, x3, x4, x5⟩ := lfld HH.out.h4; obtain ⟨y0, y1, y2, y3, y4, y5⟩ := wfld HH.out.h3) | (refine stb rfl _ _ rfl rfl _ ⟨s, 0, p, 0, lo, true⟩ true rfl rfl HH.out.head ?_; intro W6 h1 h2; replace HH := Lib.hid (HH.out.change h2 h1 HN.out HM.out); clear h1 h2 k0 k1 k2 k3 k4 k5 x0 x1 x2 x3 x4 x5 y0 y1 y2 y3 y4 y5; obtain ⟨k0, k1, k2, k3, k4, k5⟩ := wfld HH.out.head; obtain ⟨x0, x1, x2, x3, x4, x5⟩ := lfld HH.out.h4; obtain ⟨y0, y1, y2, y3, y4, y5⟩ := wfld HH.out.h3) | fail)
    clear k0 k1 k2 k3 k4 k5 x0 x1 x2 x3 x4 x5 y0 y1 y2 y3 y4 y5
    have HD := Lib.hid HH.out.drew
    have HA : Hid (∀ e ∈ [(m, wob ⟨s, 0, p, 0, true, true⟩)], e.1 ≠ w.heap.size + 2) := by show ∀ e ∈ _, _; simp; omega
    refine wp_region_noPanic (Lk.wp_region_lex 8 (fun V => True ∧ WFld V m ⟨s, 0, p, 0, true, true⟩) (by kernel_rfl) (by kernel_rfl) (fun _ _ _ _ _ h => h) ⟨trivial, wfld HD.out.head⟩ ?_)
    simp only [List.take_succ_cons, List.take_zero, List.drop_succ_cons, List.drop_zero]
    iterate 4 (refine Lk.wpHeldQ_step ?_ rfl ?_ ?_; rotate_left; (focus (intro w' hS; obtain ⟨_, h0, h1, h2, h3, h4, h5⟩ := hS; go_simp; try with_reducible rfl)); simp only [Act.put, List.setIfInBounds_toArray, List.set_cons_zero, List.set_cons_succ])
    iterate 3 (refine Lk.wpHeldQ_skip rfl ?_; simp only [Act.put, List.setIfInBounds_toArray, List.set_cons_zero, List.set_cons_succ])
    iterate 1 (refine Lk.wpHeldQ_step ?_ rfl ?_ ?_; rotate_left; (focus (intro w' hS; obtain ⟨_, h0, h1, h2, h3, h4, h5⟩ := hS; go_simp; try with_reducible rfl)); simp only [Act.put, List.setIfInBounds_toArray, List.set_cons_zero, List.set_cons_succ])
    show Lk.wpSeqH _ _ _ _ _ _ _
    refine Lk.wpSeqH_step rfl (fun K hK => ?_)
    refine wp_store_row 25 _ _ rfl _ (Cw.wc ⟨s, 0, p, 0, true, true⟩) rfl rfl 25 (Cw.wc zw) HD.out.h2 info_wc rfl (wc_one _) ?_
    have HR := Lib.hid (((HD.out.none.add _ HD.out.head).off (Off.row _ (w.heap.size + 2) (Cw.wc ⟨s, 0, p, 0, true, true⟩)) HA.out (by omega)).add (w.heap.size + 2, wob ⟨s, 0, p, 0, true, true⟩) (setRow_heap _ (w.heap.size + 2) (Cw.wc zw) (Cw.wc ⟨s, 0, p, 0, true, true⟩) 25 (0, 0) HD.out.h2))
    refine hK _ _ ⟨trivial, wfld HR.out.h2⟩ ?_
    clear hK K
    refine Lk.wpSeqH_step rfl (fun K hK => ?_)
    have HKK := Lib.hid hK
    clear hK
    go_simp
    refine HKK.out _ _ ⟨trivial, wfld HR.out.h2⟩ ?_
    clear HKK K
    refine Lk.wpSeqH_nil (NoPanic.normal ?_)
    go_wp2_with fail
    refine bodyPost_ret (res2 rfl _ _ _ _ rfl HR.out.head) rfl ?_
    exact ⟨rfl, HR.out.old⟩

set_option maxRecDepth 100000 in
set_option maxHeartbeats 8000000 in
theorem rstep_w2 (l : Lm) (la sm wr ri : Int) (lo : Bool) (v s r p q : Int) (hk : Ok l) (hw : wrong l ⟨la, sm, wr, ri, lo, false⟩ v = true) (hs : Fx.sat v = s) (hr : next sm = r) (hp : next wr = p) (hq : next ri = q) (h7 : ¬ l.ba ≤ p) (w : World) :
    Calls Try.prog 9 #[.agg (lc l), .agg (wc ⟨la, sm, wr, ri, lo, false⟩), .int .i64 v] w fun e w' => e = .returned (.tuple #[.agg (wc ⟨s, 0, p, 0, lo, true⟩), .bool (!true && !lo)]) ∧ Below w.heap.size w w' := by
  have HV := Lib.hid (three w l ⟨la, sm, wr, ri, lo, false⟩)
  have CK := Lib.hid (rcheck_ok hk)
  have CW := Lib.hid (rwrong_v hw)
  have CA := Lib.hid (fun W => rsat_v hs W)
  have CN := Lib.hid (fun W => next_v hr W)
  have CP := Lib.hid (fun W => next_v hp W)
  have CQ := Lib.hid (fun W => next_v hq W)
  have d7 : decide (l.ba ≤ p) = false := decide_eq_false h7
  have d8 : decide (l.fi ≤ 0) = false := decide_eq_false (by have := hk.2.2.2.2.2.1; omega)
  clear hk hw hs hr hp hq h7
  go_enter Try.func9, Try.ntmps9
  go_upto_region 4 with (first | (refine ldl rfl _ rfl _ _ rfl HV.out.h3 ?_) | (refine ldw rfl _ rfl _ _ rfl HV.out.h2 ?_) | (go_at_call 11; (with_reducible refine (CK.out _).mono ?_); rintro e W ⟨rfl, hb⟩; replace HV := Lib.hid (HV.out.grow hb); clear hb CK) | (go_at_call 13; (with_reducible refine (CW.out _).mono ?_); rintro e W ⟨rfl, hb⟩; replace HV := Lib.hid (HV.out.grow hb); clear hb CW) | fail)
  have hL : w.heap.size + 2 < W.heap.size := HV.out.lt (e := (w.heap.size + 2, wob zw)) (by simp)
  go_cut [9] (fun t wx => ∃ m, t = .pointer (some ⟨m, 0, none⟩) ∧ w.heap.size + 2 < m ∧ Hv w wx [(m, wob ⟨s, 0, 0, 0, lo, true⟩), (w.heap.size + 2, wob zw), (w.heap.size + 1, wob ⟨la, sm, wr, ri, lo, false⟩), (w.heap.size, lob l)])
  case first =>
    go_region_held3 (fun V => WFld V (w.heap.size + 1) ⟨la, sm, wr, ri, lo, false⟩) (first | (with_reducible exact wfld HV.out.h2) | (with_reducible exact wfld HV.out.drew.h2) | (with_reducible exact wfld (HV.out.alloc _).h2) | (with_reducible exact wfld (HV.out.alloc _).drew.h2) | (with_reducible exact wfld (HV.out.drew.alloc _).h2) | fail)
      (first | (go_at_call 18; (with_reducible refine (CA.out _).mono ?_); rintro e w' ⟨rfl, rfl⟩) | fail)
    all_goals
      go_wp2_with fail
      go_meet
      case rel => exact ⟨_, rfl, hL, (HV.out.made _).drew⟩
  case rest =>
    obtain ⟨m, rfl, hm, hv⟩ := hcut
    have HH := Lib.hid hv
    have HN : Hid (∀ e ∈ [(w.heap.size + 2, wob zw), (w.heap.size + 1, wob ⟨la, sm, wr, ri, lo, false⟩), (w.heap.size, lob l)], e.1 ≠ m) := ne3 hm (by omega) (by omega)
    have HM : Hid (w.heap.size ≤ m) := by show _ ≤ _; omega
    clear hv HV CA hL
    obtain ⟨k0, k1, k2, k3, k4, k5⟩ := wfld HH.out.head; obtain ⟨x0, x1, x2, x3, x4, x5⟩ := lfld HH.out.h4; obtain ⟨y0, y1, y2, y3, y4, y5⟩ := wfld HH.out.h3
    go_wp2_with (first | (go_at_call 19; (with_reducible refine (CP.out _).mono ?_); rintro e w' ⟨rfl, rfl⟩) | (refine sti rfl _ _ rfl rfl _ 2 ⟨s, 0, 0, 0, lo, true⟩ ⟨s, 0, p, 0, lo, true⟩ _ _ rfl rfl HH.out.head rfl rfl ?_; intro W6 h1 h2; replace HH := Lib.hid (HH.out.change h2 h1 HN.out HM.out); clear h1 h2 k0 k1 k2 k3 k4 k5 x0 x1 x2 x3 x4 x5 y0 y1 y2 y3 y4 y5; obtain ⟨k0, k1, k2, k3, k4, k5⟩ := wfld HH.out.head; obtain ⟨x0, x1, x2, x3, x4, x5⟩ := lfld HH.out.h4; obtain ⟨y0, y1, y2, y3, y4, y5⟩ := wfld HH.out.h3) | fail)
    clear k0 k1 k2 k3 k4 k5 x0 x1 x2 x3 x4 x5 y0 y1 y2 y3 y4 y5
    have HD := Lib.hid HH.out.drew
    have HA : Hid (∀ e ∈ [(m, wob ⟨s, 0, p, 0, lo, true⟩)], e.1 ≠ w.heap.size + 2) := by show ∀ e ∈ _, _; simp; omega
    refine wp_region_noPanic (Lk.wp_region_lex 8 (fun V => True ∧ WFld V m ⟨s, 0, p, 0, lo, true⟩) (by kernel_rfl) (by kernel_rfl) (fun _ _ _ _ _ h => h) ⟨trivial, wfld HD.out.head⟩ ?_)
    simp only [List.take_succ_cons, List.take_zero, List.drop_succ_cons, List.drop_zero]
    iterate 4 (refine Lk.wpHeldQ_step ?_ rfl ?_ ?_; rotate_left; (focus (intro w' hS; obtain ⟨_, h0, h1, h2, h3, h4, h5⟩ := hS; go_simp; try with_reducible rfl)); simp only [Act.put, List.setIfInBounds_toArray, List.set_cons_zero, List.set_cons_succ])
    iterate 3 (refine Lk.wpHeldQ_skip rfl ?_; simp only [Act.put, List.setIfInBounds_toArray, List.set_cons_zero, List.set_cons_succ])
    iterate 1 (refine Lk.wpHeldQ_step ?_ rfl ?_ ?_; rotate_left; (focus (intro w' hS; obtain ⟨_, h0, h1, h2, h3, h4, h5⟩ := hS; go_simp; try with_reducible rfl)); simp only [Act.put, List.setIfInBounds_toArray, List.set_cons_zero, List.set_cons_succ])
    show Lk.wpSeqH _ _ _ _ _ _ _
    refine Lk.wpSeqH_step rfl (fun K hK => ?_)
    refine wp_store_row 25 _ _ rfl _ (Cw.wc ⟨s, 0, p, 0, lo, true⟩) rfl rfl 25 (Cw.wc zw) HD.out.h2 info_wc rfl (wc_one _) ?_
    have HR := Lib.hid (((HD.out.none.add _ HD.out.head).off (Off.row _ (w.heap.size + 2) (Cw.wc ⟨s, 0, p, 0, lo, true⟩)) HA.out (by omega)).add (w.heap.size + 2, wob ⟨s, 0, p, 0, lo, true⟩) (setRow_heap _ (w.heap.size + 2) (Cw.wc zw) (Cw.wc ⟨s, 0, p, 0, lo, true⟩) 25 (0, 0) HD.out.h2))
    refine hK _ _ ⟨trivial, wfld HR.out.h2⟩ ?_
    clear hK K
    refine Lk.wpSeqH_step rfl (fun K hK => ?_)
    have HKK := Lib.hid hK
    clear hK
    go_simp
    refine HKK.out _ _ ⟨trivial, wfld HR.out.h2⟩ ?_
    clear HKK K
    refine Lk.wpSeqH_nil (NoPanic.normal ?_)
    go_wp2_with fail
    refine bodyPost_ret (res2 rfl _ _ _ _ rfl HR.out.head) rfl ?_
    exact ⟨rfl, HR.out.old⟩

set_option maxRecDepth 100000 in
set_option maxHeartbeats 8000000 in
theorem rstep_w3 (l : Lm) (la sm wr ri : Int) (lo : Bool) (v s r p q : Int) (hk : Ok l) (hw : wrong l ⟨la, sm, wr, ri, lo, false⟩ v = false) (hs : Fx.sat v = s) (hr : next sm = r) (hp : next wr = p) (hq : next ri = q) (h7 : l.fi ≤ q) (w : World) :
    Calls Try.prog 9 #[.agg (lc l), .agg (wc ⟨la, sm, wr, ri, lo, false⟩), .int .i64 v] w fun e w' => e = .returned (.tuple #[.agg (wc ⟨s, 0, 0, q, false, true⟩), .bool (!false && !false)]) ∧ Below w.heap.size w w' := by
  have HV := Lib.hid (three w l ⟨la, sm, wr, ri, lo, false⟩)
  have CK := Lib.hid (rcheck_ok hk)
  have CW := Lib.hid (rwrong_v hw)
  have CA := Lib.hid (fun W => rsat_v hs W)
  have CN := Lib.hid (fun W => next_v hr W)
  have CP := Lib.hid (fun W => next_v hp W)
  have CQ := Lib.hid (fun W => next_v hq W)
  have d7 : decide (l.fi ≤ q) = true := decide_eq_true h7
  have d8 : decide (l.ba ≤ 0) = false := decide_eq_false (by have := hk.2.2.2.2.1.1; omega)
  clear hk hw hs hr hp hq h7
  go_enter Try.func9, Try.ntmps9
  go_upto_region 4 with (first | (refine ldl rfl _ rfl _ _ rfl HV.out.h3 ?_) | (refine ldw rfl _ rfl _ _ rfl HV.out.h2 ?_) | (go_at_call 11; (with_reducible refine (CK.out _).mono ?_); rintro e W ⟨rfl, hb⟩; replace HV := Lib.hid (HV.out.grow hb); clear hb CK) | (go_at_call 13; (with_reducible refine (CW.out _).mono ?_); rintro e W ⟨rfl, hb⟩; replace HV := Lib.hid (HV.out.grow hb); clear hb CW) | fail)
  have hL : w.heap.size + 2 < W.heap.size := HV.out.lt (e := (w.heap.size + 2, wob zw)) (by simp)
  go_cut [9] (fun t wx => ∃ m, t = .pointer (some ⟨m, 0, none⟩) ∧ w.heap.size + 2 < m ∧ Hv w wx [(m, wob ⟨s, 0, 0, 0, lo, true⟩), (w.heap.size + 2, wob zw), (w.heap.size + 1, wob ⟨la, sm, wr, ri, lo, false⟩), (w.heap.size, lob l)])
  case first =>
    go_region_held3 (fun V => WFld V (w.heap.size + 1) ⟨la, sm, wr, ri, lo, false⟩) (first | (with_reducible exact wfld HV.out.h2) | (with_reducible exact wfld HV.out.drew.h2) | (with_reducible exact wfld (HV.out.alloc _).h2) | (with_reducible exact wfld (HV.out.alloc _).drew.h2) | (with_reducible exact wfld (HV.out.drew.alloc _).h2) | fail)
      (first | (go_at_call 18; (with_reducible refine (CA.out _).mono ?_); rintro e w' ⟨rfl, rfl⟩) | fail)
    all_goals
      go_wp2_with fail
      go_meet
      case rel => exact ⟨_, rfl, hL, (HV.out.made _).drew⟩
  case rest =>
    obtain ⟨m, rfl, hm, hv⟩ := hcut
    have HH := Lib.hid hv
    have HN : Hid (∀ e ∈ [(w.heap.size + 2, wob zw), (w.heap.size + 1, wob ⟨la, sm, wr, ri, lo, false⟩), (w.heap.size, lob l)], e.1 ≠ m) := ne3 hm (by omega) (by omega)
    have HM : Hid (w.heap.size ≤ m) := by show _ ≤ _; omega
    clear hv HV CA hL
    obtain ⟨k0, k1, k2, k3, k4, k5⟩ := wfld HH.out.head; obtain ⟨x0, x1, x2, x3, x4, x5⟩ := lfld HH.out.h4; obtain ⟨y0, y1, y2, y3, y4, y5⟩ := wfld HH.out.h3
    go_wp2_with (first | (go_at_call 19; (with_reducible refine (CQ.out _).mono ?_); rintro e w' ⟨rfl, rfl⟩) | (refine sti rfl _ _ rfl rfl _ 3 ⟨s, 0, 0, 0, lo, true⟩ ⟨s, 0, 0, q, lo, true⟩ _ _ rfl rfl HH.out.head rfl rfl ?_; intro W6 h1 h2; replace HH := Lib.hid (HH.out.change h2 h1 HN.out HM.out); clear h1 h2 k0 k1 k2 k3 k4 k5 x0 x1 x2 x3 x4 x5 y0 y1 y2 y3 y4 y5; obtain ⟨k0, k1, k2, k3, k4, k5⟩ := wfld HH.out.head; obtain ⟨x0, x1, x2, x3, x4, x5⟩ := lfld HH.out.h4; obtain ⟨y0, y1, y2, y3, y4, y5⟩ := wfld HH.out.h3) | (refine stb rfl _ _ rfl rfl _ ⟨s, 0, 0, q, lo, true⟩ false rfl rfl HH.out.head ?_; intro W6 h1 h2; replace HH := Lib.hid (HH.out.change h2 h1 HN.out HM.out); clear h1 h2 k0 k1 k2 k3 k4 k5 x0 x1 x2 x3 x4 x5 y0 y1 y2 y3 y4 y5; obtain ⟨k0, k1, k2, k3, k4, k5⟩ := wfld HH.out.head; obtain ⟨x0, x1, x2, x3, x4, x5⟩ := lfld HH.out.h4; obtain ⟨y0, y1, y2, y3, y4, y5⟩ := wfld HH.out.h3) | fail)
    clear k0 k1 k2 k3 k4 k5 x0 x1 x2 x3 x4 x5 y0 y1 y2 y3 y4 y5
    have HD := Lib.hid HH.out.drew
    have HA : Hid (∀ e ∈ [(m, wob ⟨s, 0, 0, q, false, true⟩)], e.1 ≠ w.heap.size + 2) := by show ∀ e ∈ _, _; simp; omega
    refine wp_region_noPanic (Lk.wp_region_lex 8 (fun V => True ∧ WFld V m ⟨s, 0, 0, q, false, true⟩) (by kernel_rfl) (by kernel_rfl) (fun _ _ _ _ _ h => h) ⟨trivial, wfld HD.out.head⟩ ?_)
    simp only [List.take_succ_cons, List.take_zero, List.drop_succ_cons, List.drop_zero]
    iterate 8 (refine Lk.wpHeldQ_step ?_ rfl ?_ ?_; rotate_left; (focus (intro w' hS; obtain ⟨_, h0, h1, h2, h3, h4, h5⟩ := hS; go_simp; try with_reducible rfl)); simp only [Act.put, List.setIfInBounds_toArray, List.set_cons_zero, List.set_cons_succ])
    show Lk.wpSeqH _ _ _ _ _ _ _
    refine Lk.wpSeqH_step rfl (fun K hK => ?_)
    refine wp_store_row 25 _ _ rfl _ (Cw.wc ⟨s, 0, 0, q, false, true⟩) rfl rfl 25 (Cw.wc zw) HD.out.h2 info_wc rfl (wc_one _) ?_
    have HR := Lib.hid (((HD.out.none.add _ HD.out.head).off (Off.row _ (w.heap.size + 2) (Cw.wc ⟨s, 0, 0, q, false, true⟩)) HA.out (by omega)).add (w.heap.size + 2, wob ⟨s, 0, 0, q, false, true⟩) (setRow_heap _ (w.heap.size + 2) (Cw.wc zw) (Cw.wc ⟨s, 0, 0, q, false, true⟩) 25 (0, 0) HD.out.h2))
    refine hK _ _ ⟨trivial, wfld HR.out.h2⟩ ?_
    clear hK K
    refine Lk.wpSeqH_step rfl (fun K hK => ?_)
    have HKK := Lib.hid hK
    clear hK
    go_simp
    refine HKK.out _ _ ⟨trivial, wfld HR.out.h2⟩ ?_
    clear HKK K
    refine Lk.wpSeqH_nil (NoPanic.normal ?_)
    go_wp2_with fail
    refine bodyPost_ret (res2 rfl _ _ _ _ rfl HR.out.head) rfl ?_
    exact ⟨rfl, HR.out.old⟩

set_option maxRecDepth 100000 in
set_option maxHeartbeats 8000000 in
theorem rstep_w4 (l : Lm) (la sm wr ri : Int) (lo : Bool) (v s r p q : Int) (hk : Ok l) (hw : wrong l ⟨la, sm, wr, ri, lo, false⟩ v = false) (hs : Fx.sat v = s) (hr : next sm = r) (hp : next wr = p) (hq : next ri = q) (h7 : ¬ l.fi ≤ q) (w : World) :
    Calls Try.prog 9 #[.agg (lc l), .agg (wc ⟨la, sm, wr, ri, lo, false⟩), .int .i64 v] w fun e w' => e = .returned (.tuple #[.agg (wc ⟨s, 0, 0, q, lo, true⟩), .bool (!false && !lo)]) ∧ Below w.heap.size w w' := by
  have HV := Lib.hid (three w l ⟨la, sm, wr, ri, lo, false⟩)
  have CK := Lib.hid (rcheck_ok hk)
  have CW := Lib.hid (rwrong_v hw)
  have CA := Lib.hid (fun W => rsat_v hs W)
  have CN := Lib.hid (fun W => next_v hr W)
  have CP := Lib.hid (fun W => next_v hp W)
  have CQ := Lib.hid (fun W => next_v hq W)
  have d7 : decide (l.fi ≤ q) = false := decide_eq_false h7
  have d8 : decide (l.ba ≤ 0) = false := decide_eq_false (by have := hk.2.2.2.2.1.1; omega)
  clear hk hw hs hr hp hq h7
  go_enter Try.func9, Try.ntmps9
  go_upto_region 4 with (first | (refine ldl rfl _ rfl _ _ rfl HV.out.h3 ?_) | (refine ldw rfl _ rfl _ _ rfl HV.out.h2 ?_) | (go_at_call 11; (with_reducible refine (CK.out _).mono ?_); rintro e W ⟨rfl, hb⟩; replace HV := Lib.hid (HV.out.grow hb); clear hb CK) | (go_at_call 13; (with_reducible refine (CW.out _).mono ?_); rintro e W ⟨rfl, hb⟩; replace HV := Lib.hid (HV.out.grow hb); clear hb CW) | fail)
  have hL : w.heap.size + 2 < W.heap.size := HV.out.lt (e := (w.heap.size + 2, wob zw)) (by simp)
  go_cut [9] (fun t wx => ∃ m, t = .pointer (some ⟨m, 0, none⟩) ∧ w.heap.size + 2 < m ∧ Hv w wx [(m, wob ⟨s, 0, 0, 0, lo, true⟩), (w.heap.size + 2, wob zw), (w.heap.size + 1, wob ⟨la, sm, wr, ri, lo, false⟩), (w.heap.size, lob l)])
  case first =>
    go_region_held3 (fun V => WFld V (w.heap.size + 1) ⟨la, sm, wr, ri, lo, false⟩) (first | (with_reducible exact wfld HV.out.h2) | (with_reducible exact wfld HV.out.drew.h2) | (with_reducible exact wfld (HV.out.alloc _).h2) | (with_reducible exact wfld (HV.out.alloc _).drew.h2) | (with_reducible exact wfld (HV.out.drew.alloc _).h2) | fail)
      (first | (go_at_call 18; (with_reducible refine (CA.out _).mono ?_); rintro e w' ⟨rfl, rfl⟩) | fail)
    all_goals
      go_wp2_with fail
      go_meet
      case rel => exact ⟨_, rfl, hL, (HV.out.made _).drew⟩
  case rest =>
    obtain ⟨m, rfl, hm, hv⟩ := hcut
    have HH := Lib.hid hv
    have HN : Hid (∀ e ∈ [(w.heap.size + 2, wob zw), (w.heap.size + 1, wob ⟨la, sm, wr, ri, lo, false⟩), (w.heap.size, lob l)], e.1 ≠ m) := ne3 hm (by omega) (by omega)
    have HM : Hid (w.heap.size ≤ m) := by show _ ≤ _; omega
    clear hv HV CA hL
    obtain ⟨k0, k1, k2, k3, k4, k5⟩ := wfld HH.out.head; obtain ⟨x0, x1, x2, x3, x4, x5⟩ := lfld HH.out.h4; obtain ⟨y0, y1, y2, y3, y4, y5⟩ := wfld HH.out.h3
    go_wp2_with (first | (go_at_call 19; (with_reducible refine (CQ.out _).mono ?_); rintro e w' ⟨rfl, rfl⟩) | (refine sti rfl _ _ rfl rfl _ 3 ⟨s, 0, 0, 0, lo, true⟩ ⟨s, 0, 0, q, lo, true⟩ _ _ rfl rfl HH.out.head rfl rfl ?_; intro W6 h1 h2; replace HH := Lib.hid (HH.out.change h2 h1 HN.out HM.out); clear h1 h2 k0 k1 k2 k3 k4 k5 x0 x1 x2 x3 x4 x5 y0 y1 y2 y3 y4 y5; obtain ⟨k0, k1, k2, k3, k4, k5⟩ := wfld HH.out.head; obtain ⟨x0, x1, x2, x3, x4, x5⟩ := lfld HH.out.h4; obtain ⟨y0, y1, y2, y3, y4, y5⟩ := wfld HH.out.h3) | fail)
    clear k0 k1 k2 k3 k4 k5 x0 x1 x2 x3 x4 x5 y0 y1 y2 y3 y4 y5
    have HD := Lib.hid HH.out.drew
    have HA : Hid (∀ e ∈ [(m, wob ⟨s, 0, 0, q, lo, true⟩)], e.1 ≠ w.heap.size + 2) := by show ∀ e ∈ _, _; simp; omega
    refine wp_region_noPanic (Lk.wp_region_lex 8 (fun V => True ∧ WFld V m ⟨s, 0, 0, q, lo, true⟩) (by kernel_rfl) (by kernel_rfl) (fun _ _ _ _ _ h => h) ⟨trivial, wfld HD.out.head⟩ ?_)
    simp only [List.take_succ_cons, List.take_zero, List.drop_succ_cons, List.drop_zero]
    iterate 8 (refine Lk.wpHeldQ_step ?_ rfl ?_ ?_; rotate_left; (focus (intro w' hS; obtain ⟨_, h0, h1, h2, h3, h4, h5⟩ := hS; go_simp; try with_reducible rfl)); simp only [Act.put, List.setIfInBounds_toArray, List.set_cons_zero, List.set_cons_succ])
    show Lk.wpSeqH _ _ _ _ _ _ _
    refine Lk.wpSeqH_step rfl (fun K hK => ?_)
    refine wp_store_row 25 _ _ rfl _ (Cw.wc ⟨s, 0, 0, q, lo, true⟩) rfl rfl 25 (Cw.wc zw) HD.out.h2 info_wc rfl (wc_one _) ?_
    have HR := Lib.hid (((HD.out.none.add _ HD.out.head).off (Off.row _ (w.heap.size + 2) (Cw.wc ⟨s, 0, 0, q, lo, true⟩)) HA.out (by omega)).add (w.heap.size + 2, wob ⟨s, 0, 0, q, lo, true⟩) (setRow_heap _ (w.heap.size + 2) (Cw.wc zw) (Cw.wc ⟨s, 0, 0, q, lo, true⟩) 25 (0, 0) HD.out.h2))
    refine hK _ _ ⟨trivial, wfld HR.out.h2⟩ ?_
    clear hK K
    refine Lk.wpSeqH_step rfl (fun K hK => ?_)
    have HKK := Lib.hid hK
    clear hK
    go_simp
    refine HKK.out _ _ ⟨trivial, wfld HR.out.h2⟩ ?_
    clear HKK K
    refine Lk.wpSeqH_nil (NoPanic.normal ?_)
    go_wp2_with fail
    refine bodyPost_ret (res2 rfl _ _ _ _ rfl HR.out.head) rfl ?_
    exact ⟨rfl, HR.out.old⟩

set_option maxRecDepth 100000 in
set_option maxHeartbeats 8000000 in
theorem rstep_w5 (l : Lm) (la sm wr ri : Int) (lo : Bool) (v s r p q : Int) (hk : Ok l) (hw : wrong l ⟨la, sm, wr, ri, lo, true⟩ v = true) (hs : Fx.sat v = s) (hr : next sm = r) (hp : next wr = p) (hq : next ri = q) (h6 : la ≠ s) (h7 : l.ba ≤ p) (w : World) :
    Calls Try.prog 9 #[.agg (lc l), .agg (wc ⟨la, sm, wr, ri, lo, true⟩), .int .i64 v] w fun e w' => e = .returned (.tuple #[.agg (wc ⟨s, 0, p, 0, true, true⟩), .bool (!true && !true)]) ∧ Below w.heap.size w w' := by
  have HV := Lib.hid (three w l ⟨la, sm, wr, ri, lo, true⟩)
  have CK := Lib.hid (rcheck_ok hk)
  have CW := Lib.hid (rwrong_v hw)
  have CA := Lib.hid (fun W => rsat_v hs W)
  have CN := Lib.hid (fun W => next_v hr W)
  have CP := Lib.hid (fun W => next_v hp W)
  have CQ := Lib.hid (fun W => next_v hq W)
  have d6 : (la == s) = false := by simp [h6]
  have d7 : decide (l.ba ≤ p) = true := decide_eq_true h7
  have d8 : decide (l.fi ≤ 0) = false := decide_eq_false (by have := hk.2.2.2.2.2.1; omega)
  clear hk hw hs hr hp hq h6 h7
  go_enter Try.func9, Try.ntmps9
  go_upto_region 4 with (first | (refine ldl rfl _ rfl _ _ rfl HV.out.h3 ?_) | (refine ldw rfl _ rfl _ _ rfl HV.out.h2 ?_) | (go_at_call 11; (with_reducible refine (CK.out _).mono ?_); rintro e W ⟨rfl, hb⟩; replace HV := Lib.hid (HV.out.grow hb); clear hb CK) | (go_at_call 13; (with_reducible refine (CW.out _).mono ?_); rintro e W ⟨rfl, hb⟩; replace HV := Lib.hid (HV.out.grow hb); clear hb CW) | fail)
  have hL : w.heap.size + 2 < W.heap.size := HV.out.lt (e := (w.heap.size + 2, wob zw)) (by simp)
  go_cut [9] (fun t wx => ∃ m, t = .pointer (some ⟨m, 0, none⟩) ∧ w.heap.size + 2 < m ∧ Hv w wx [(m, wob ⟨s, 0, 0, 0, lo, true⟩), (w.heap.size + 2, wob zw), (w.heap.size + 1, wob ⟨la, sm, wr, ri, lo, true⟩), (w.heap.size, lob l)])
  case first =>
    go_region_held3 (fun V => WFld V (w.heap.size + 1) ⟨la, sm, wr, ri, lo, true⟩) (first | (with_reducible exact wfld HV.out.h2) | (with_reducible exact wfld HV.out.drew.h2) | (with_reducible exact wfld (HV.out.alloc _).h2) | (with_reducible exact wfld (HV.out.alloc _).drew.h2) | (with_reducible exact wfld (HV.out.drew.alloc _).h2) | fail)
      (first | (go_at_call 18; (with_reducible refine (CA.out _).mono ?_); rintro e w' ⟨rfl, rfl⟩) | fail)
    all_goals
      go_wp2_with fail
      go_meet
      case rel => exact ⟨_, rfl, hL, (HV.out.made _).drew⟩
  case rest =>
    obtain ⟨m, rfl, hm, hv⟩ := hcut
    have HH := Lib.hid hv
    have HN : Hid (∀ e ∈ [(w.heap.size + 2, wob zw), (w.heap.size + 1, wob ⟨la, sm, wr, ri, lo, true⟩), (w.heap.size, lob l)], e.1 ≠ m) := ne3 hm (by omega) (by omega)
    have HM : Hid (w.heap.size ≤ m) := by show _ ≤ _; omega
    clear hv HV CA hL
    obtain ⟨k0, k1, k2, k3, k4, k5⟩ := wfld HH.out.head; obtain ⟨x0, x1, x2, x3, x4, x5⟩ := lfld HH.out.h4; obtain ⟨y0, y1, y2, y3, y4, y5⟩ := wfld HH.out.h3
    go_wp2_with (first | (go_at_call 19; (with_reducible refine (CP.out _).mono ?_); rintro e w' ⟨rfl, rfl⟩) | (refine sti rfl _ _ rfl rfl _ 2 ⟨s, 0, 0, 0, lo, true⟩ ⟨s, 0, p, 0, lo, true⟩ _ _ rfl rfl HH.out.head rfl rfl ?_; intro W6 h1 h2; replace HH := Lib.hid (HH.out.change h2 h1 HN.out HM.out); clear h1 h2 k0 k1 k2 k3 k4 k5 x0 x1 x2 x3 x4 x5 y0 y1 y2 y3 y4 y5; obtain ⟨k0, k1, k2, k3, k4, k5⟩ := wfld HH.out.head; obtain ⟨x0, x1, x2, x3, x4, x5⟩ := lfld HH.out.h4; obtain ⟨y0, y1, y2, y3, y4, y5⟩ := wfld HH.out.h3) | (refine stb rfl _ _ rfl rfl _ ⟨s, 0, p, 0, lo, true⟩ true rfl rfl HH.out.head ?_; intro W6 h1 h2; replace HH := Lib.hid (HH.out.change h2 h1 HN.out HM.out); clear h1 h2 k0 k1 k2 k3 k4 k5 x0 x1 x2 x3 x4 x5 y0 y1 y2 y3 y4 y5; obtain ⟨k0, k1, k2, k3, k4, k5⟩ := wfld HH.out.head; obtain ⟨x0, x1, x2, x3, x4, x5⟩ := lfld HH.out.h4; obtain ⟨y0, y1, y2, y3, y4, y5⟩ := wfld HH.out.h3) | fail)
    clear k0 k1 k2 k3 k4 k5 x0 x1 x2 x3 x4 x5 y0 y1 y2 y3 y4 y5
    have HD := Lib.hid HH.out.drew
    have HA : Hid (∀ e ∈ [(m, wob ⟨s, 0, p, 0, true, true⟩)], e.1 ≠ w.heap.size + 2) := by show ∀ e ∈ _, _; simp; omega
    refine wp_region_noPanic (Lk.wp_region_lex 8 (fun V => True ∧ WFld V m ⟨s, 0, p, 0, true, true⟩) (by kernel_rfl) (by kernel_rfl) (fun _ _ _ _ _ h => h) ⟨trivial, wfld HD.out.head⟩ ?_)
    simp only [List.take_succ_cons, List.take_zero, List.drop_succ_cons, List.drop_zero]
    iterate 4 (refine Lk.wpHeldQ_step ?_ rfl ?_ ?_; rotate_left; (focus (intro w' hS; obtain ⟨_, h0, h1, h2, h3, h4, h5⟩ := hS; go_simp; try with_reducible rfl)); simp only [Act.put, List.setIfInBounds_toArray, List.set_cons_zero, List.set_cons_succ])
    iterate 3 (refine Lk.wpHeldQ_skip rfl ?_; simp only [Act.put, List.setIfInBounds_toArray, List.set_cons_zero, List.set_cons_succ])
    iterate 1 (refine Lk.wpHeldQ_step ?_ rfl ?_ ?_; rotate_left; (focus (intro w' hS; obtain ⟨_, h0, h1, h2, h3, h4, h5⟩ := hS; go_simp; try with_reducible rfl)); simp only [Act.put, List.setIfInBounds_toArray, List.set_cons_zero, List.set_cons_succ])
    show Lk.wpSeqH _ _ _ _ _ _ _
    refine Lk.wpSeqH_step rfl (fun K hK => ?_)
    refine wp_store_row 25 _ _ rfl _ (Cw.wc ⟨s, 0, p, 0, true, true⟩) rfl rfl 25 (Cw.wc zw) HD.out.h2 info_wc rfl (wc_one _) ?_
    have HR := Lib.hid (((HD.out.none.add _ HD.out.head).off (Off.row _ (w.heap.size + 2) (Cw.wc ⟨s, 0, p, 0, true, true⟩)) HA.out (by omega)).add (w.heap.size + 2, wob ⟨s, 0, p, 0, true, true⟩) (setRow_heap _ (w.heap.size + 2) (Cw.wc zw) (Cw.wc ⟨s, 0, p, 0, true, true⟩) 25 (0, 0) HD.out.h2))
    refine hK _ _ ⟨trivial, wfld HR.out.h2⟩ ?_
    clear hK K
    refine Lk.wpSeqH_step rfl (fun K hK => ?_)
    have HKK := Lib.hid hK
    clear hK
    go_simp
    refine HKK.out _ _ ⟨trivial, wfld HR.out.h2⟩ ?_
    clear HKK K
    refine Lk.wpSeqH_nil (NoPanic.normal ?_)
    go_wp2_with fail
    refine bodyPost_ret (res2 rfl _ _ _ _ rfl HR.out.head) rfl ?_
    exact ⟨rfl, HR.out.old⟩

set_option maxRecDepth 100000 in
set_option maxHeartbeats 8000000 in
theorem rstep_w6 (l : Lm) (la sm wr ri : Int) (lo : Bool) (v s r p q : Int) (hk : Ok l) (hw : wrong l ⟨la, sm, wr, ri, lo, true⟩ v = true) (hs : Fx.sat v = s) (hr : next sm = r) (hp : next wr = p) (hq : next ri = q) (h6 : la ≠ s) (h7 : ¬ l.ba ≤ p) (w : World) :
    Calls Try.prog 9 #[.agg (lc l), .agg (wc ⟨la, sm, wr, ri, lo, true⟩), .int .i64 v] w fun e w' => e = .returned (.tuple #[.agg (wc ⟨s, 0, p, 0, lo, true⟩), .bool (!true && !lo)]) ∧ Below w.heap.size w w' := by
  have HV := Lib.hid (three w l ⟨la, sm, wr, ri, lo, true⟩)
  have CK := Lib.hid (rcheck_ok hk)
  have CW := Lib.hid (rwrong_v hw)
  have CA := Lib.hid (fun W => rsat_v hs W)
  have CN := Lib.hid (fun W => next_v hr W)
  have CP := Lib.hid (fun W => next_v hp W)
  have CQ := Lib.hid (fun W => next_v hq W)
  have d6 : (la == s) = false := by simp [h6]
  have d7 : decide (l.ba ≤ p) = false := decide_eq_false h7
  have d8 : decide (l.fi ≤ 0) = false := decide_eq_false (by have := hk.2.2.2.2.2.1; omega)
  clear hk hw hs hr hp hq h6 h7
  go_enter Try.func9, Try.ntmps9
  go_upto_region 4 with (first | (refine ldl rfl _ rfl _ _ rfl HV.out.h3 ?_) | (refine ldw rfl _ rfl _ _ rfl HV.out.h2 ?_) | (go_at_call 11; (with_reducible refine (CK.out _).mono ?_); rintro e W ⟨rfl, hb⟩; replace HV := Lib.hid (HV.out.grow hb); clear hb CK) | (go_at_call 13; (with_reducible refine (CW.out _).mono ?_); rintro e W ⟨rfl, hb⟩; replace HV := Lib.hid (HV.out.grow hb); clear hb CW) | fail)
  have hL : w.heap.size + 2 < W.heap.size := HV.out.lt (e := (w.heap.size + 2, wob zw)) (by simp)
  go_cut [9] (fun t wx => ∃ m, t = .pointer (some ⟨m, 0, none⟩) ∧ w.heap.size + 2 < m ∧ Hv w wx [(m, wob ⟨s, 0, 0, 0, lo, true⟩), (w.heap.size + 2, wob zw), (w.heap.size + 1, wob ⟨la, sm, wr, ri, lo, true⟩), (w.heap.size, lob l)])
  case first =>
    go_region_held3 (fun V => WFld V (w.heap.size + 1) ⟨la, sm, wr, ri, lo, true⟩) (first | (with_reducible exact wfld HV.out.h2) | (with_reducible exact wfld HV.out.drew.h2) | (with_reducible exact wfld (HV.out.alloc _).h2) | (with_reducible exact wfld (HV.out.alloc _).drew.h2) | (with_reducible exact wfld (HV.out.drew.alloc _).h2) | fail)
      (first | (go_at_call 18; (with_reducible refine (CA.out _).mono ?_); rintro e w' ⟨rfl, rfl⟩) | fail)
    all_goals
      go_wp2_with fail
      go_meet
      case rel => exact ⟨_, rfl, hL, (HV.out.made _).drew⟩
  case rest =>
    obtain ⟨m, rfl, hm, hv⟩ := hcut
    have HH := Lib.hid hv
    have HN : Hid (∀ e ∈ [(w.heap.size + 2, wob zw), (w.heap.size + 1, wob ⟨la, sm, wr, ri, lo, true⟩), (w.heap.size, lob l)], e.1 ≠ m) := ne3 hm (by omega) (by omega)
    have HM : Hid (w.heap.size ≤ m) := by show _ ≤ _; omega
    clear hv HV CA hL
    obtain ⟨k0, k1, k2, k3, k4, k5⟩ := wfld HH.out.head; obtain ⟨x0, x1, x2, x3, x4, x5⟩ := lfld HH.out.h4; obtain ⟨y0, y1, y2, y3, y4, y5⟩ := wfld HH.out.h3
    go_wp2_with (first | (go_at_call 19; (with_reducible refine (CP.out _).mono ?_); rintro e w' ⟨rfl, rfl⟩) | (refine sti rfl _ _ rfl rfl _ 2 ⟨s, 0, 0, 0, lo, true⟩ ⟨s, 0, p, 0, lo, true⟩ _ _ rfl rfl HH.out.head rfl rfl ?_; intro W6 h1 h2; replace HH := Lib.hid (HH.out.change h2 h1 HN.out HM.out); clear h1 h2 k0 k1 k2 k3 k4 k5 x0 x1 x2 x3 x4 x5 y0 y1 y2 y3 y4 y5; obtain ⟨k0, k1, k2, k3, k4, k5⟩ := wfld HH.out.head; obtain ⟨x0, x1, x2, x3, x4, x5⟩ := lfld HH.out.h4; obtain ⟨y0, y1, y2, y3, y4, y5⟩ := wfld HH.out.h3) | fail)
    clear k0 k1 k2 k3 k4 k5 x0 x1 x2 x3 x4 x5 y0 y1 y2 y3 y4 y5
    have HD := Lib.hid HH.out.drew
    have HA : Hid (∀ e ∈ [(m, wob ⟨s, 0, p, 0, lo, true⟩)], e.1 ≠ w.heap.size + 2) := by show ∀ e ∈ _, _; simp; omega
    refine wp_region_noPanic (Lk.wp_region_lex 8 (fun V => True ∧ WFld V m ⟨s, 0, p, 0, lo, true⟩) (by kernel_rfl) (by kernel_rfl) (fun _ _ _ _ _ h => h) ⟨trivial, wfld HD.out.head⟩ ?_)
    simp only [List.take_succ_cons, List.take_zero, List.drop_succ_cons, List.drop_zero]
    iterate 4 (refine Lk.wpHeldQ_step ?_ rfl ?_ ?_; rotate_left; (focus (intro w' hS; obtain ⟨_, h0, h1, h2, h3, h4, h5⟩ := hS; go_simp; try with_reducible rfl)); simp only [Act.put, List.setIfInBounds_toArray, List.set_cons_zero, List.set_cons_succ])
    iterate 3 (refine Lk.wpHeldQ_skip rfl ?_; simp only [Act.put, List.setIfInBounds_toArray, List.set_cons_zero, List.set_cons_succ])
    iterate 1 (refine Lk.wpHeldQ_step ?_ rfl ?_ ?_; rotate_left; (focus (intro w' hS; obtain ⟨_, h0, h1, h2, h3, h4, h5⟩ := hS; go_simp; try with_reducible rfl)); simp only [Act.put, List.setIfInBounds_toArray, List.set_cons_zero, List.set_cons_succ])
    show Lk.wpSeqH _ _ _ _ _ _ _
    refine Lk.wpSeqH_step rfl (fun K hK => ?_)
    refine wp_store_row 25 _ _ rfl _ (Cw.wc ⟨s, 0, p, 0, lo, true⟩) rfl rfl 25 (Cw.wc zw) HD.out.h2 info_wc rfl (wc_one _) ?_
    have HR := Lib.hid (((HD.out.none.add _ HD.out.head).off (Off.row _ (w.heap.size + 2) (Cw.wc ⟨s, 0, p, 0, lo, true⟩)) HA.out (by omega)).add (w.heap.size + 2, wob ⟨s, 0, p, 0, lo, true⟩) (setRow_heap _ (w.heap.size + 2) (Cw.wc zw) (Cw.wc ⟨s, 0, p, 0, lo, true⟩) 25 (0, 0) HD.out.h2))
    refine hK _ _ ⟨trivial, wfld HR.out.h2⟩ ?_
    clear hK K
    refine Lk.wpSeqH_step rfl (fun K hK => ?_)
    have HKK := Lib.hid hK
    clear hK
    go_simp
    refine HKK.out _ _ ⟨trivial, wfld HR.out.h2⟩ ?_
    clear HKK K
    refine Lk.wpSeqH_nil (NoPanic.normal ?_)
    go_wp2_with fail
    refine bodyPost_ret (res2 rfl _ _ _ _ rfl HR.out.head) rfl ?_
    exact ⟨rfl, HR.out.old⟩

set_option maxRecDepth 100000 in
set_option maxHeartbeats 8000000 in
theorem rstep_w7 (l : Lm) (la sm wr ri : Int) (lo : Bool) (v s r p q : Int) (hk : Ok l) (hw : wrong l ⟨la, sm, wr, ri, lo, true⟩ v = false) (hs : Fx.sat v = s) (hr : next sm = r) (hp : next wr = p) (hq : next ri = q) (h6 : la ≠ s) (h7 : l.fi ≤ q) (w : World) :
    Calls Try.prog 9 #[.agg (lc l), .agg (wc ⟨la, sm, wr, ri, lo, true⟩), .int .i64 v] w fun e w' => e = .returned (.tuple #[.agg (wc ⟨s, 0, 0, q, false, true⟩), .bool (!false && !false)]) ∧ Below w.heap.size w w' := by
  have HV := Lib.hid (three w l ⟨la, sm, wr, ri, lo, true⟩)
  have CK := Lib.hid (rcheck_ok hk)
  have CW := Lib.hid (rwrong_v hw)
  have CA := Lib.hid (fun W => rsat_v hs W)
  have CN := Lib.hid (fun W => next_v hr W)
  have CP := Lib.hid (fun W => next_v hp W)
  have CQ := Lib.hid (fun W => next_v hq W)
  have d6 : (la == s) = false := by simp [h6]
  have d7 : decide (l.fi ≤ q) = true := decide_eq_true h7
  have d8 : decide (l.ba ≤ 0) = false := decide_eq_false (by have := hk.2.2.2.2.1.1; omega)
  clear hk hw hs hr hp hq h6 h7
  go_enter Try.func9, Try.ntmps9
  go_upto_region 4 with (first | (refine ldl rfl _ rfl _ _ rfl HV.out.h3 ?_) | (refine ldw rfl _ rfl _ _ rfl HV.out.h2 ?_) | (go_at_call 11; (with_reducible refine (CK.out _).mono ?_); rintro e W ⟨rfl, hb⟩; replace HV := Lib.hid (HV.out.grow hb); clear hb CK) | (go_at_call 13; (with_reducible refine (CW.out _).mono ?_); rintro e W ⟨rfl, hb⟩; replace HV := Lib.hid (HV.out.grow hb); clear hb CW) | fail)
  have hL : w.heap.size + 2 < W.heap.size := HV.out.lt (e := (w.heap.size + 2, wob zw)) (by simp)
  go_cut [9] (fun t wx => ∃ m, t = .pointer (some ⟨m, 0, none⟩) ∧ w.heap.size + 2 < m ∧ Hv w wx [(m, wob ⟨s, 0, 0, 0, lo, true⟩), (w.heap.size + 2, wob zw), (w.heap.size + 1, wob ⟨la, sm, wr, ri, lo, true⟩), (w.heap.size, lob l)])
  case first =>
    go_region_held3 (fun V => WFld V (w.heap.size + 1) ⟨la, sm, wr, ri, lo, true⟩) (first | (with_reducible exact wfld HV.out.h2) | (with_reducible exact wfld HV.out.drew.h2) | (with_reducible exact wfld (HV.out.alloc _).h2) | (with_reducible exact wfld (HV.out.alloc _).drew.h2) | (with_reducible exact wfld (HV.out.drew.alloc _).h2) | fail)
      (first | (go_at_call 18; (with_reducible refine (CA.out _).mono ?_); rintro e w' ⟨rfl, rfl⟩) | fail)
    all_goals
      go_wp2_with fail
      go_meet
      case rel => exact ⟨_, rfl, hL, (HV.out.made _).drew⟩
  case rest =>
    obtain ⟨m, rfl, hm, hv⟩ := hcut
    have HH := Lib.hid hv
    have HN : Hid (∀ e ∈ [(w.heap.size + 2, wob zw), (w.heap.size + 1, wob ⟨la, sm, wr, ri, lo, true⟩), (w.heap.size, lob l)], e.1 ≠ m) := ne3 hm (by omega) (by omega)
    have HM : Hid (w.heap.size ≤ m) := by show _ ≤ _; omega
    clear hv HV CA hL
    obtain ⟨k0, k1, k2, k3, k4, k5⟩ := wfld HH.out.head; obtain ⟨x0, x1, x2, x3, x4, x5⟩ := lfld HH.out.h4; obtain ⟨y0, y1, y2, y3, y4, y5⟩ := wfld HH.out.h3
    go_wp2_with (first | (go_at_call 19; (with_reducible refine (CQ.out _).mono ?_); rintro e w' ⟨rfl, rfl⟩) | (refine sti rfl _ _ rfl rfl _ 3 ⟨s, 0, 0, 0, lo, true⟩ ⟨s, 0, 0, q, lo, true⟩ _ _ rfl rfl HH.out.head rfl rfl ?_; intro W6 h1 h2; replace HH := Lib.hid (HH.out.change h2 h1 HN.out HM.out); clear h1 h2 k0 k1 k2 k3 k4 k5 x0 x1 x2 x3 x4 x5 y0 y1 y2 y3 y4 y5; obtain ⟨k0, k1, k2, k3, k4, k5⟩ := wfld HH.out.head; obtain ⟨x0, x1, x2, x3, x4, x5⟩ := lfld HH.out.h4; obtain ⟨y0, y1, y2, y3, y4, y5⟩ := wfld HH.out.h3) | (refine stb rfl _ _ rfl rfl _ ⟨s, 0, 0, q, lo, true⟩ false rfl rfl HH.out.head ?_; intro W6 h1 h2; replace HH := Lib.hid (HH.out.change h2 h1 HN.out HM.out); clear h1 h2 k0 k1 k2 k3 k4 k5 x0 x1 x2 x3 x4 x5 y0 y1 y2 y3 y4 y5; obtain ⟨k0, k1, k2, k3, k4, k5⟩ := wfld HH.out.head; obtain ⟨x0, x1, x2, x3, x4, x5⟩ := lfld HH.out.h4; obtain ⟨y0, y1, y2, y3, y4, y5⟩ := wfld HH.out.h3) | fail)
    clear k0 k1 k2 k3 k4 k5 x0 x1 x2 x3 x4 x5 y0 y1 y2 y3 y4 y5
    have HD := Lib.hid HH.out.drew
    have HA : Hid (∀ e ∈ [(m, wob ⟨s, 0, 0, q, false, true⟩)], e.1 ≠ w.heap.size + 2) := by show ∀ e ∈ _, _; simp; omega
    refine wp_region_noPanic (Lk.wp_region_lex 8 (fun V => True ∧ WFld V m ⟨s, 0, 0, q, false, true⟩) (by kernel_rfl) (by kernel_rfl) (fun _ _ _ _ _ h => h) ⟨trivial, wfld HD.out.head⟩ ?_)
    simp only [List.take_succ_cons, List.take_zero, List.drop_succ_cons, List.drop_zero]
    iterate 8 (refine Lk.wpHeldQ_step ?_ rfl ?_ ?_; rotate_left; (focus (intro w' hS; obtain ⟨_, h0, h1, h2, h3, h4, h5⟩ := hS; go_simp; try with_reducible rfl)); simp only [Act.put, List.setIfInBounds_toArray, List.set_cons_zero, List.set_cons_succ])
    show Lk.wpSeqH _ _ _ _ _ _ _
    refine Lk.wpSeqH_step rfl (fun K hK => ?_)
    refine wp_store_row 25 _ _ rfl _ (Cw.wc ⟨s, 0, 0, q, false, true⟩) rfl rfl 25 (Cw.wc zw) HD.out.h2 info_wc rfl (wc_one _) ?_
    have HR := Lib.hid (((HD.out.none.add _ HD.out.head).off (Off.row _ (w.heap.size + 2) (Cw.wc ⟨s, 0, 0, q, false, true⟩)) HA.out (by omega)).add (w.heap.size + 2, wob ⟨s, 0, 0, q, false, true⟩) (setRow_heap _ (w.heap.size + 2) (Cw.wc zw) (Cw.wc ⟨s, 0, 0, q, false, true⟩) 25 (0, 0) HD.out.h2))
    refine hK _ _ ⟨trivial, wfld HR.out.h2⟩ ?_
    clear hK K
    refine Lk.wpSeqH_step rfl (fun K hK => ?_)
    have HKK := Lib.hid hK
    clear hK
    go_simp
    refine HKK.out _ _ ⟨trivial, wfld HR.out.h2⟩ ?_
    clear HKK K
    refine Lk.wpSeqH_nil (NoPanic.normal ?_)
    go_wp2_with fail
    refine bodyPost_ret (res2 rfl _ _ _ _ rfl HR.out.head) rfl ?_
    exact ⟨rfl, HR.out.old⟩

set_option maxRecDepth 100000 in
set_option maxHeartbeats 8000000 in
theorem rstep_w8 (l : Lm) (la sm wr ri : Int) (lo : Bool) (v s r p q : Int) (hk : Ok l) (hw : wrong l ⟨la, sm, wr, ri, lo, true⟩ v = false) (hs : Fx.sat v = s) (hr : next sm = r) (hp : next wr = p) (hq : next ri = q) (h6 : la ≠ s) (h7 : ¬ l.fi ≤ q) (w : World) :
    Calls Try.prog 9 #[.agg (lc l), .agg (wc ⟨la, sm, wr, ri, lo, true⟩), .int .i64 v] w fun e w' => e = .returned (.tuple #[.agg (wc ⟨s, 0, 0, q, lo, true⟩), .bool (!false && !lo)]) ∧ Below w.heap.size w w' := by
  have HV := Lib.hid (three w l ⟨la, sm, wr, ri, lo, true⟩)
  have CK := Lib.hid (rcheck_ok hk)
  have CW := Lib.hid (rwrong_v hw)
  have CA := Lib.hid (fun W => rsat_v hs W)
  have CN := Lib.hid (fun W => next_v hr W)
  have CP := Lib.hid (fun W => next_v hp W)
  have CQ := Lib.hid (fun W => next_v hq W)
  have d6 : (la == s) = false := by simp [h6]
  have d7 : decide (l.fi ≤ q) = false := decide_eq_false h7
  have d8 : decide (l.ba ≤ 0) = false := decide_eq_false (by have := hk.2.2.2.2.1.1; omega)
  clear hk hw hs hr hp hq h6 h7
  go_enter Try.func9, Try.ntmps9
  go_upto_region 4 with (first | (refine ldl rfl _ rfl _ _ rfl HV.out.h3 ?_) | (refine ldw rfl _ rfl _ _ rfl HV.out.h2 ?_) | (go_at_call 11; (with_reducible refine (CK.out _).mono ?_); rintro e W ⟨rfl, hb⟩; replace HV := Lib.hid (HV.out.grow hb); clear hb CK) | (go_at_call 13; (with_reducible refine (CW.out _).mono ?_); rintro e W ⟨rfl, hb⟩; replace HV := Lib.hid (HV.out.grow hb); clear hb CW) | fail)
  have hL : w.heap.size + 2 < W.heap.size := HV.out.lt (e := (w.heap.size + 2, wob zw)) (by simp)
  go_cut [9] (fun t wx => ∃ m, t = .pointer (some ⟨m, 0, none⟩) ∧ w.heap.size + 2 < m ∧ Hv w wx [(m, wob ⟨s, 0, 0, 0, lo, true⟩), (w.heap.size + 2, wob zw), (w.heap.size + 1, wob ⟨la, sm, wr, ri, lo, true⟩), (w.heap.size, lob l)])
  case first =>
    go_region_held3 (fun V => WFld V (w.heap.size + 1) ⟨la, sm, wr, ri, lo, true⟩) (first | (with_reducible exact wfld HV.out.h2) | (with_reducible exact wfld HV.out.drew.h2) | (with_reducible exact wfld (HV.out.alloc _).h2) | (with_reducible exact wfld (HV.out.alloc _).drew.h2) | (with_reducible exact wfld (HV.out.drew.alloc _).h2) | fail)
      (first | (go_at_call 18; (with_reducible refine (CA.out _).mono ?_); rintro e w' ⟨rfl, rfl⟩) | fail)
    all_goals
      go_wp2_with fail
      go_meet
      case rel => exact ⟨_, rfl, hL, (HV.out.made _).drew⟩
  case rest =>
    obtain ⟨m, rfl, hm, hv⟩ := hcut
    have HH := Lib.hid hv
    have HN : Hid (∀ e ∈ [(w.heap.size + 2, wob zw), (w.heap.size + 1, wob ⟨la, sm, wr, ri, lo, true⟩), (w.heap.size, lob l)], e.1 ≠ m) := ne3 hm (by omega) (by omega)
    have HM : Hid (w.heap.size ≤ m) := by show _ ≤ _; omega
    clear hv HV CA hL
    obtain ⟨k0, k1, k2, k3, k4, k5⟩ := wfld HH.out.head; obtain ⟨x0, x1, x2, x3, x4, x5⟩ := lfld HH.out.h4; obtain ⟨y0, y1, y2, y3, y4, y5⟩ := wfld HH.out.h3
    go_wp2_with (first | (go_at_call 19; (with_reducible refine (CQ.out _).mono ?_); rintro e w' ⟨rfl, rfl⟩) | (refine sti rfl _ _ rfl rfl _ 3 ⟨s, 0, 0, 0, lo, true⟩ ⟨s, 0, 0, q, lo, true⟩ _ _ rfl rfl HH.out.head rfl rfl ?_; intro W6 h1 h2; replace HH := Lib.hid (HH.out.change h2 h1 HN.out HM.out); clear h1 h2 k0 k1 k2 k3 k4 k5 x0 x1 x2 x3 x4 x5 y0 y1 y2 y3 y4 y5; obtain ⟨k0, k1, k2, k3, k4, k5⟩ := wfld HH.out.head; obtain ⟨x0, x1, x2, x3, x4, x5⟩ := lfld HH.out.h4; obtain ⟨y0, y1, y2, y3, y4, y5⟩ := wfld HH.out.h3) | fail)
    clear k0 k1 k2 k3 k4 k5 x0 x1 x2 x3 x4 x5 y0 y1 y2 y3 y4 y5
    have HD := Lib.hid HH.out.drew
    have HA : Hid (∀ e ∈ [(m, wob ⟨s, 0, 0, q, lo, true⟩)], e.1 ≠ w.heap.size + 2) := by show ∀ e ∈ _, _; simp; omega
    refine wp_region_noPanic (Lk.wp_region_lex 8 (fun V => True ∧ WFld V m ⟨s, 0, 0, q, lo, true⟩) (by kernel_rfl) (by kernel_rfl) (fun _ _ _ _ _ h => h) ⟨trivial, wfld HD.out.head⟩ ?_)
    simp only [List.take_succ_cons, List.take_zero, List.drop_succ_cons, List.drop_zero]
    iterate 8 (refine Lk.wpHeldQ_step ?_ rfl ?_ ?_; rotate_left; (focus (intro w' hS; obtain ⟨_, h0, h1, h2, h3, h4, h5⟩ := hS; go_simp; try with_reducible rfl)); simp only [Act.put, List.setIfInBounds_toArray, List.set_cons_zero, List.set_cons_succ])
    show Lk.wpSeqH _ _ _ _ _ _ _
    refine Lk.wpSeqH_step rfl (fun K hK => ?_)
    refine wp_store_row 25 _ _ rfl _ (Cw.wc ⟨s, 0, 0, q, lo, true⟩) rfl rfl 25 (Cw.wc zw) HD.out.h2 info_wc rfl (wc_one _) ?_
    have HR := Lib.hid (((HD.out.none.add _ HD.out.head).off (Off.row _ (w.heap.size + 2) (Cw.wc ⟨s, 0, 0, q, lo, true⟩)) HA.out (by omega)).add (w.heap.size + 2, wob ⟨s, 0, 0, q, lo, true⟩) (setRow_heap _ (w.heap.size + 2) (Cw.wc zw) (Cw.wc ⟨s, 0, 0, q, lo, true⟩) 25 (0, 0) HD.out.h2))
    refine hK _ _ ⟨trivial, wfld HR.out.h2⟩ ?_
    clear hK K
    refine Lk.wpSeqH_step rfl (fun K hK => ?_)
    have HKK := Lib.hid hK
    clear hK
    go_simp
    refine HKK.out _ _ ⟨trivial, wfld HR.out.h2⟩ ?_
    clear HKK K
    refine Lk.wpSeqH_nil (NoPanic.normal ?_)
    go_wp2_with fail
    refine bodyPost_ret (res2 rfl _ _ _ _ rfl HR.out.head) rfl ?_
    exact ⟨rfl, HR.out.old⟩

set_option maxRecDepth 100000 in
set_option maxHeartbeats 8000000 in
theorem rstep_w9 (l : Lm) (la sm wr ri : Int) (lo : Bool) (v s r p q : Int) (hk : Ok l) (hw : wrong l ⟨la, sm, wr, ri, lo, true⟩ v = true) (hs : Fx.sat v = s) (hr : next sm = r) (hp : next wr = p) (hq : next ri = q) (h6 : la = s) (h7 : l.ba ≤ p) (w : World) :
    Calls Try.prog 9 #[.agg (lc l), .agg (wc ⟨la, sm, wr, ri, lo, true⟩), .int .i64 v] w fun e w' => e = .returned (.tuple #[.agg (wc ⟨s, r, p, 0, true, true⟩), .bool (!true && !true)]) ∧ Below w.heap.size w w' := by
  have HV := Lib.hid (three w l ⟨la, sm, wr, ri, lo, true⟩)
  have CK := Lib.hid (rcheck_ok hk)
  have CW := Lib.hid (rwrong_v hw)
  have CA := Lib.hid (fun W => rsat_v hs W)
  have CN := Lib.hid (fun W => next_v hr W)
  have CP := Lib.hid (fun W => next_v hp W)
  have CQ := Lib.hid (fun W => next_v hq W)
  have d6 : (la == s) = true := by simp [h6]
  have d7 : decide (l.ba ≤ p) = true := decide_eq_true h7
  have d8 : decide (l.fi ≤ 0) = false := decide_eq_false (by have := hk.2.2.2.2.2.1; omega)
  clear hk hw hs hr hp hq h6 h7
  go_enter Try.func9, Try.ntmps9
  go_upto_region 4 with (first | (refine ldl rfl _ rfl _ _ rfl HV.out.h3 ?_) | (refine ldw rfl _ rfl _ _ rfl HV.out.h2 ?_) | (go_at_call 11; (with_reducible refine (CK.out _).mono ?_); rintro e W ⟨rfl, hb⟩; replace HV := Lib.hid (HV.out.grow hb); clear hb CK) | (go_at_call 13; (with_reducible refine (CW.out _).mono ?_); rintro e W ⟨rfl, hb⟩; replace HV := Lib.hid (HV.out.grow hb); clear hb CW) | fail)
  have hL : w.heap.size + 2 < W.heap.size := HV.out.lt (e := (w.heap.size + 2, wob zw)) (by simp)
  go_cut [9] (fun t wx => ∃ m, t = .pointer (some ⟨m, 0, none⟩) ∧ w.heap.size + 2 < m ∧ Hv w wx [(m, wob ⟨s, 0, 0, 0, lo, true⟩), (w.heap.size + 2, wob zw), (w.heap.size + 1, wob ⟨la, sm, wr, ri, lo, true⟩), (w.heap.size, lob l)])
  case first =>
    go_region_held3 (fun V => WFld V (w.heap.size + 1) ⟨la, sm, wr, ri, lo, true⟩) (first | (with_reducible exact wfld HV.out.h2) | (with_reducible exact wfld HV.out.drew.h2) | (with_reducible exact wfld (HV.out.alloc _).h2) | (with_reducible exact wfld (HV.out.alloc _).drew.h2) | (with_reducible exact wfld (HV.out.drew.alloc _).h2) | fail)
      (first | (go_at_call 18; (with_reducible refine (CA.out _).mono ?_); rintro e w' ⟨rfl, rfl⟩) | fail)
    all_goals
      go_wp2_with fail
      go_meet
      case rel => exact ⟨_, rfl, hL, (HV.out.made _).drew⟩
  case rest =>
    obtain ⟨m, rfl, hm, hv⟩ := hcut
    have HH := Lib.hid hv
    have HN : Hid (∀ e ∈ [(w.heap.size + 2, wob zw), (w.heap.size + 1, wob ⟨la, sm, wr, ri, lo, true⟩), (w.heap.size, lob l)], e.1 ≠ m) := ne3 hm (by omega) (by omega)
    have HM : Hid (w.heap.size ≤ m) := by show _ ≤ _; omega
    clear hv HV CA hL
    obtain ⟨k0, k1, k2, k3, k4, k5⟩ := wfld HH.out.head; obtain ⟨x0, x1, x2, x3, x4, x5⟩ := lfld HH.out.h4; obtain ⟨y0, y1, y2, y3, y4, y5⟩ := wfld HH.out.h3
    go_wp2_with (first | (go_at_call 19; (with_reducible refine (CN.out _).mono ?_); rintro e w' ⟨rfl, rfl⟩) | (refine sti rfl _ _ rfl rfl _ 1 ⟨s, 0, 0, 0, lo, true⟩ ⟨s, r, 0, 0, lo, true⟩ _ _ rfl rfl HH.out.head rfl rfl ?_; intro W6 h1 h2; replace HH := Lib.hid (HH.out.change h2 h1 HN.out HM.out); clear h1 h2 k0 k1 k2 k3 k4 k5 x0 x1 x2 x3 x4 x5 y0 y1 y2 y3 y4 y5; obtain ⟨k0, k1, k2, k3, k4, k5⟩ := wfld HH.out.head; obtain ⟨x0, x1, x2, x3, x4, x5⟩ := lfld HH.out.h4; obtain ⟨y0, y1, y2, y3, y4, y5⟩ := wfld HH.out.h3) | (go_at_call 19; (with_reducible refine (CP.out _).mono ?_); rintro e w' ⟨rfl, rfl⟩) | (refine sti rfl _ _ rfl rfl _ 2 ⟨s, r, 0, 0, lo, true⟩ ⟨s, r, p, 0, lo, true⟩ _ _ rfl rfl HH.out.head rfl rfl ?_; intro W6 h1 h2; replace HH := Lib.hid (HH.out.change h2 h1 HN.out HM.out); clear h1 h2 k0 k1 k2 k3 k4 k5 x0 x1 x2 x3 x4 x5 y0 y1 y2 y3 y4 y5; obtain ⟨k0, k1, k2, k3, k4, k5⟩ := wfld HH.out.head; obtain ⟨x0, x1, x2, x3, x4, x5⟩ := lfld HH.out.h4; obtain ⟨y0, y1, y2, y3, y4, y5⟩ := wfld HH.out.h3) | (refine stb rfl _ _ rfl rfl _ ⟨s, r, p, 0, lo, true⟩ true rfl rfl HH.out.head ?_; intro W6 h1 h2; replace HH := Lib.hid (HH.out.change h2 h1 HN.out HM.out); clear h1 h2 k0 k1 k2 k3 k4 k5 x0 x1 x2 x3 x4 x5 y0 y1 y2 y3 y4 y5; obtain ⟨k0, k1, k2, k3, k4, k5⟩ := wfld HH.out.head; obtain ⟨x0, x1, x2, x3, x4, x5⟩ := lfld HH.out.h4; obtain ⟨y0, y1, y2, y3, y4, y5⟩ := wfld HH.out.h3) | fail)
    clear k0 k1 k2 k3 k4 k5 x0 x1 x2 x3 x4 x5 y0 y1 y2 y3 y4 y5
    have HD := Lib.hid HH.out.drew
    have HA : Hid (∀ e ∈ [(m, wob ⟨s, r, p, 0, true, true⟩)], e.1 ≠ w.heap.size + 2) := by show ∀ e ∈ _, _; simp; omega
    refine wp_region_noPanic (Lk.wp_region_lex 8 (fun V => True ∧ WFld V m ⟨s, r, p, 0, true, true⟩) (by kernel_rfl) (by kernel_rfl) (fun _ _ _ _ _ h => h) ⟨trivial, wfld HD.out.head⟩ ?_)
    simp only [List.take_succ_cons, List.take_zero, List.drop_succ_cons, List.drop_zero]
    iterate 4 (refine Lk.wpHeldQ_step ?_ rfl ?_ ?_; rotate_left; (focus (intro w' hS; obtain ⟨_, h0, h1, h2, h3, h4, h5⟩ := hS; go_simp; try with_reducible rfl)); simp only [Act.put, List.setIfInBounds_toArray, List.set_cons_zero, List.set_cons_succ])
    iterate 3 (refine Lk.wpHeldQ_skip rfl ?_; simp only [Act.put, List.setIfInBounds_toArray, List.set_cons_zero, List.set_cons_succ])
    iterate 1 (refine Lk.wpHeldQ_step ?_ rfl ?_ ?_; rotate_left; (focus (intro w' hS; obtain ⟨_, h0, h1, h2, h3, h4, h5⟩ := hS; go_simp; try with_reducible rfl)); simp only [Act.put, List.setIfInBounds_toArray, List.set_cons_zero, List.set_cons_succ])
    show Lk.wpSeqH _ _ _ _ _ _ _
    refine Lk.wpSeqH_step rfl (fun K hK => ?_)
    refine wp_store_row 25 _ _ rfl _ (Cw.wc ⟨s, r, p, 0, true, true⟩) rfl rfl 25 (Cw.wc zw) HD.out.h2 info_wc rfl (wc_one _) ?_
    have HR := Lib.hid (((HD.out.none.add _ HD.out.head).off (Off.row _ (w.heap.size + 2) (Cw.wc ⟨s, r, p, 0, true, true⟩)) HA.out (by omega)).add (w.heap.size + 2, wob ⟨s, r, p, 0, true, true⟩) (setRow_heap _ (w.heap.size + 2) (Cw.wc zw) (Cw.wc ⟨s, r, p, 0, true, true⟩) 25 (0, 0) HD.out.h2))
    refine hK _ _ ⟨trivial, wfld HR.out.h2⟩ ?_
    clear hK K
    refine Lk.wpSeqH_step rfl (fun K hK => ?_)
    have HKK := Lib.hid hK
    clear hK
    go_simp
    refine HKK.out _ _ ⟨trivial, wfld HR.out.h2⟩ ?_
    clear HKK K
    refine Lk.wpSeqH_nil (NoPanic.normal ?_)
    go_wp2_with fail
    refine bodyPost_ret (res2 rfl _ _ _ _ rfl HR.out.head) rfl ?_
    exact ⟨rfl, HR.out.old⟩

set_option maxRecDepth 100000 in
set_option maxHeartbeats 8000000 in
theorem rstep_w10 (l : Lm) (la sm wr ri : Int) (lo : Bool) (v s r p q : Int) (hk : Ok l) (hw : wrong l ⟨la, sm, wr, ri, lo, true⟩ v = true) (hs : Fx.sat v = s) (hr : next sm = r) (hp : next wr = p) (hq : next ri = q) (h6 : la = s) (h7 : ¬ l.ba ≤ p) (w : World) :
    Calls Try.prog 9 #[.agg (lc l), .agg (wc ⟨la, sm, wr, ri, lo, true⟩), .int .i64 v] w fun e w' => e = .returned (.tuple #[.agg (wc ⟨s, r, p, 0, lo, true⟩), .bool (!true && !lo)]) ∧ Below w.heap.size w w' := by
  have HV := Lib.hid (three w l ⟨la, sm, wr, ri, lo, true⟩)
  have CK := Lib.hid (rcheck_ok hk)
  have CW := Lib.hid (rwrong_v hw)
  have CA := Lib.hid (fun W => rsat_v hs W)
  have CN := Lib.hid (fun W => next_v hr W)
  have CP := Lib.hid (fun W => next_v hp W)
  have CQ := Lib.hid (fun W => next_v hq W)
  have d6 : (la == s) = true := by simp [h6]
  have d7 : decide (l.ba ≤ p) = false := decide_eq_false h7
  have d8 : decide (l.fi ≤ 0) = false := decide_eq_false (by have := hk.2.2.2.2.2.1; omega)
  clear hk hw hs hr hp hq h6 h7
  go_enter Try.func9, Try.ntmps9
  go_upto_region 4 with (first | (refine ldl rfl _ rfl _ _ rfl HV.out.h3 ?_) | (refine ldw rfl _ rfl _ _ rfl HV.out.h2 ?_) | (go_at_call 11; (with_reducible refine (CK.out _).mono ?_); rintro e W ⟨rfl, hb⟩; replace HV := Lib.hid (HV.out.grow hb); clear hb CK) | (go_at_call 13; (with_reducible refine (CW.out _).mono ?_); rintro e W ⟨rfl, hb⟩; replace HV := Lib.hid (HV.out.grow hb); clear hb CW) | fail)
  have hL : w.heap.size + 2 < W.heap.size := HV.out.lt (e := (w.heap.size + 2, wob zw)) (by simp)
  go_cut [9] (fun t wx => ∃ m, t = .pointer (some ⟨m, 0, none⟩) ∧ w.heap.size + 2 < m ∧ Hv w wx [(m, wob ⟨s, 0, 0, 0, lo, true⟩), (w.heap.size + 2, wob zw), (w.heap.size + 1, wob ⟨la, sm, wr, ri, lo, true⟩), (w.heap.size, lob l)])
  case first =>
    go_region_held3 (fun V => WFld V (w.heap.size + 1) ⟨la, sm, wr, ri, lo, true⟩) (first | (with_reducible exact wfld HV.out.h2) | (with_reducible exact wfld HV.out.drew.h2) | (with_reducible exact wfld (HV.out.alloc _).h2) | (with_reducible exact wfld (HV.out.alloc _).drew.h2) | (with_reducible exact wfld (HV.out.drew.alloc _).h2) | fail)
      (first | (go_at_call 18; (with_reducible refine (CA.out _).mono ?_); rintro e w' ⟨rfl, rfl⟩) | fail)
    all_goals
      go_wp2_with fail
      go_meet
      case rel => exact ⟨_, rfl, hL, (HV.out.made _).drew⟩
  case rest =>
    obtain ⟨m, rfl, hm, hv⟩ := hcut
    have HH := Lib.hid hv
    have HN : Hid (∀ e ∈ [(w.heap.size + 2, wob zw), (w.heap.size + 1, wob ⟨la, sm, wr, ri, lo, true⟩), (w.heap.size, lob l)], e.1 ≠ m) := ne3 hm (by omega) (by omega)
    have HM : Hid (w.heap.size ≤ m) := by show _ ≤ _; omega
    clear hv HV CA hL
    obtain ⟨k0, k1, k2, k3, k4, k5⟩ := wfld HH.out.head; obtain ⟨x0, x1, x2, x3, x4, x5⟩ := lfld HH.out.h4; obtain ⟨y0, y1, y2, y3, y4, y5⟩ := wfld HH.out.h3
    go_wp2_with (first | (go_at_call 19; (with_reducible refine (CN.out _).mono ?_); rintro e w' ⟨rfl, rfl⟩) | (refine sti rfl _ _ rfl rfl _ 1 ⟨s, 0, 0, 0, lo, true⟩ ⟨s, r, 0, 0, lo, true⟩ _ _ rfl rfl HH.out.head rfl rfl ?_; intro W6 h1 h2; replace HH := Lib.hid (HH.out.change h2 h1 HN.out HM.out); clear h1 h2 k0 k1 k2 k3 k4 k5 x0 x1 x2 x3 x4 x5 y0 y1 y2 y3 y4 y5; obtain ⟨k0, k1, k2, k3, k4, k5⟩ := wfld HH.out.head; obtain ⟨x0, x1, x2, x3, x4, x5⟩ := lfld HH.out.h4; obtain ⟨y0, y1, y2, y3, y4, y5⟩ := wfld HH.out.h3) | (go_at_call 19; (with_reducible refine (CP.out _).mono ?_); rintro e w' ⟨rfl, rfl⟩) | (refine sti rfl _ _ rfl rfl _ 2 ⟨s, r, 0, 0, lo, true⟩ ⟨s, r, p, 0, lo, true⟩ _ _ rfl rfl HH.out.head rfl rfl ?_; intro W6 h1 h2; replace HH := Lib.hid (HH.out.change h2 h1 HN.out HM.out); clear h1 h2 k0 k1 k2 k3 k4 k5 x0 x1 x2 x3 x4 x5 y0 y1 y2 y3 y4 y5; obtain ⟨k0, k1, k2, k3, k4, k5⟩ := wfld HH.out.head; obtain ⟨x0, x1, x2, x3, x4, x5⟩ := lfld HH.out.h4; obtain ⟨y0, y1, y2, y3, y4, y5⟩ := wfld HH.out.h3) | fail)
    clear k0 k1 k2 k3 k4 k5 x0 x1 x2 x3 x4 x5 y0 y1 y2 y3 y4 y5
    have HD := Lib.hid HH.out.drew
    have HA : Hid (∀ e ∈ [(m, wob ⟨s, r, p, 0, lo, true⟩)], e.1 ≠ w.heap.size + 2) := by show ∀ e ∈ _, _; simp; omega
    refine wp_region_noPanic (Lk.wp_region_lex 8 (fun V => True ∧ WFld V m ⟨s, r, p, 0, lo, true⟩) (by kernel_rfl) (by kernel_rfl) (fun _ _ _ _ _ h => h) ⟨trivial, wfld HD.out.head⟩ ?_)
    simp only [List.take_succ_cons, List.take_zero, List.drop_succ_cons, List.drop_zero]
    iterate 4 (refine Lk.wpHeldQ_step ?_ rfl ?_ ?_; rotate_left; (focus (intro w' hS; obtain ⟨_, h0, h1, h2, h3, h4, h5⟩ := hS; go_simp; try with_reducible rfl)); simp only [Act.put, List.setIfInBounds_toArray, List.set_cons_zero, List.set_cons_succ])
    iterate 3 (refine Lk.wpHeldQ_skip rfl ?_; simp only [Act.put, List.setIfInBounds_toArray, List.set_cons_zero, List.set_cons_succ])
    iterate 1 (refine Lk.wpHeldQ_step ?_ rfl ?_ ?_; rotate_left; (focus (intro w' hS; obtain ⟨_, h0, h1, h2, h3, h4, h5⟩ := hS; go_simp; try with_reducible rfl)); simp only [Act.put, List.setIfInBounds_toArray, List.set_cons_zero, List.set_cons_succ])
    show Lk.wpSeqH _ _ _ _ _ _ _
    refine Lk.wpSeqH_step rfl (fun K hK => ?_)
    refine wp_store_row 25 _ _ rfl _ (Cw.wc ⟨s, r, p, 0, lo, true⟩) rfl rfl 25 (Cw.wc zw) HD.out.h2 info_wc rfl (wc_one _) ?_
    have HR := Lib.hid (((HD.out.none.add _ HD.out.head).off (Off.row _ (w.heap.size + 2) (Cw.wc ⟨s, r, p, 0, lo, true⟩)) HA.out (by omega)).add (w.heap.size + 2, wob ⟨s, r, p, 0, lo, true⟩) (setRow_heap _ (w.heap.size + 2) (Cw.wc zw) (Cw.wc ⟨s, r, p, 0, lo, true⟩) 25 (0, 0) HD.out.h2))
    refine hK _ _ ⟨trivial, wfld HR.out.h2⟩ ?_
    clear hK K
    refine Lk.wpSeqH_step rfl (fun K hK => ?_)
    have HKK := Lib.hid hK
    clear hK
    go_simp
    refine HKK.out _ _ ⟨trivial, wfld HR.out.h2⟩ ?_
    clear HKK K
    refine Lk.wpSeqH_nil (NoPanic.normal ?_)
    go_wp2_with fail
    refine bodyPost_ret (res2 rfl _ _ _ _ rfl HR.out.head) rfl ?_
    exact ⟨rfl, HR.out.old⟩

set_option maxRecDepth 100000 in
set_option maxHeartbeats 8000000 in
theorem rstep_w11 (l : Lm) (la sm wr ri : Int) (lo : Bool) (v s r p q : Int) (hk : Ok l) (hw : wrong l ⟨la, sm, wr, ri, lo, true⟩ v = false) (hs : Fx.sat v = s) (hr : next sm = r) (hp : next wr = p) (hq : next ri = q) (h6 : la = s) (h7 : l.fi ≤ q) (w : World) :
    Calls Try.prog 9 #[.agg (lc l), .agg (wc ⟨la, sm, wr, ri, lo, true⟩), .int .i64 v] w fun e w' => e = .returned (.tuple #[.agg (wc ⟨s, r, 0, q, false, true⟩), .bool (!false && !false)]) ∧ Below w.heap.size w w' := by
  have HV := Lib.hid (three w l ⟨la, sm, wr, ri, lo, true⟩)
  have CK := Lib.hid (rcheck_ok hk)
  have CW := Lib.hid (rwrong_v hw)
  have CA := Lib.hid (fun W => rsat_v hs W)
  have CN := Lib.hid (fun W => next_v hr W)
  have CP := Lib.hid (fun W => next_v hp W)
  have CQ := Lib.hid (fun W => next_v hq W)
  have d6 : (la == s) = true := by simp [h6]
  have d7 : decide (l.fi ≤ q) = true := decide_eq_true h7
  have d8 : decide (l.ba ≤ 0) = false := decide_eq_false (by have := hk.2.2.2.2.1.1; omega)
  clear hk hw hs hr hp hq h6 h7
  go_enter Try.func9, Try.ntmps9
  go_upto_region 4 with (first | (refine ldl rfl _ rfl _ _ rfl HV.out.h3 ?_) | (refine ldw rfl _ rfl _ _ rfl HV.out.h2 ?_) | (go_at_call 11; (with_reducible refine (CK.out _).mono ?_); rintro e W ⟨rfl, hb⟩; replace HV := Lib.hid (HV.out.grow hb); clear hb CK) | (go_at_call 13; (with_reducible refine (CW.out _).mono ?_); rintro e W ⟨rfl, hb⟩; replace HV := Lib.hid (HV.out.grow hb); clear hb CW) | fail)
  have hL : w.heap.size + 2 < W.heap.size := HV.out.lt (e := (w.heap.size + 2, wob zw)) (by simp)
  go_cut [9] (fun t wx => ∃ m, t = .pointer (some ⟨m, 0, none⟩) ∧ w.heap.size + 2 < m ∧ Hv w wx [(m, wob ⟨s, 0, 0, 0, lo, true⟩), (w.heap.size + 2, wob zw), (w.heap.size + 1, wob ⟨la, sm, wr, ri, lo, true⟩), (w.heap.size, lob l)])
  case first =>
    go_region_held3 (fun V => WFld V (w.heap.size + 1) ⟨la, sm, wr, ri, lo, true⟩) (first | (with_reducible exact wfld HV.out.h2) | (with_reducible exact wfld HV.out.drew.h2) | (with_reducible exact wfld (HV.out.alloc _).h2) | (with_reducible exact wfld (HV.out.alloc _).drew.h2) | (with_reducible exact wfld (HV.out.drew.alloc _).h2) | fail)
      (first | (go_at_call 18; (with_reducible refine (CA.out _).mono ?_); rintro e w' ⟨rfl, rfl⟩) | fail)
    all_goals
      go_wp2_with fail
      go_meet
      case rel => exact ⟨_, rfl, hL, (HV.out.made _).drew⟩
  case rest =>
    obtain ⟨m, rfl, hm, hv⟩ := hcut
    have HH := Lib.hid hv
    have HN : Hid (∀ e ∈ [(w.heap.size + 2, wob zw), (w.heap.size + 1, wob ⟨la, sm, wr, ri, lo, true⟩), (w.heap.size, lob l)], e.1 ≠ m) := ne3 hm (by omega) (by omega)
    have HM : Hid (w.heap.size ≤ m) := by show _ ≤ _; omega
    clear hv HV CA hL
    obtain ⟨k0, k1, k2, k3, k4, k5⟩ := wfld HH.out.head; obtain ⟨x0, x1, x2, x3, x4, x5⟩ := lfld HH.out.h4; obtain ⟨y0, y1, y2, y3, y4, y5⟩ := wfld HH.out.h3
    go_wp2_with (first | (go_at_call 19; (with_reducible refine (CN.out _).mono ?_); rintro e w' ⟨rfl, rfl⟩) | (refine sti rfl _ _ rfl rfl _ 1 ⟨s, 0, 0, 0, lo, true⟩ ⟨s, r, 0, 0, lo, true⟩ _ _ rfl rfl HH.out.head rfl rfl ?_; intro W6 h1 h2; replace HH := Lib.hid (HH.out.change h2 h1 HN.out HM.out); clear h1 h2 k0 k1 k2 k3 k4 k5 x0 x1 x2 x3 x4 x5 y0 y1 y2 y3 y4 y5; obtain ⟨k0, k1, k2, k3, k4, k5⟩ := wfld HH.out.head; obtain ⟨x0, x1, x2, x3, x4, x5⟩ := lfld HH.out.h4; obtain ⟨y0, y1, y2, y3, y4, y5⟩ := wfld HH.out.h3) | (go_at_call 19; (with_reducible refine (CQ.out _).mono ?_); rintro e w' ⟨rfl, rfl⟩) | (refine sti rfl _ _ rfl rfl _ 3 ⟨s, r, 0, 0, lo, true⟩ ⟨s, r, 0, q, lo, true⟩ _ _ rfl rfl HH.out.head rfl rfl ?_; intro W6 h1 h2; replace HH := Lib.hid (HH.out.change h2 h1 HN.out HM.out); clear h1 h2 k0 k1 k2 k3 k4 k5 x0 x1 x2 x3 x4 x5 y0 y1 y2 y3 y4 y5; obtain ⟨k0, k1, k2, k3, k4, k5⟩ := wfld HH.out.head; obtain ⟨x0, x1, x2, x3, x4, x5⟩ := lfld HH.out.h4; obtain ⟨y0, y1, y2, y3, y4, y5⟩ := wfld HH.out.h3) | (refine stb rfl _ _ rfl rfl _ ⟨s, r, 0, q, lo, true⟩ false rfl rfl HH.out.head ?_; intro W6 h1 h2; replace HH := Lib.hid (HH.out.change h2 h1 HN.out HM.out); clear h1 h2 k0 k1 k2 k3 k4 k5 x0 x1 x2 x3 x4 x5 y0 y1 y2 y3 y4 y5; obtain ⟨k0, k1, k2, k3, k4, k5⟩ := wfld HH.out.head; obtain ⟨x0, x1, x2, x3, x4, x5⟩ := lfld HH.out.h4; obtain ⟨y0, y1, y2, y3, y4, y5⟩ := wfld HH.out.h3) | fail)
    clear k0 k1 k2 k3 k4 k5 x0 x1 x2 x3 x4 x5 y0 y1 y2 y3 y4 y5
    have HD := Lib.hid HH.out.drew
    have HA : Hid (∀ e ∈ [(m, wob ⟨s, r, 0, q, false, true⟩)], e.1 ≠ w.heap.size + 2) := by show ∀ e ∈ _, _; simp; omega
    refine wp_region_noPanic (Lk.wp_region_lex 8 (fun V => True ∧ WFld V m ⟨s, r, 0, q, false, true⟩) (by kernel_rfl) (by kernel_rfl) (fun _ _ _ _ _ h => h) ⟨trivial, wfld HD.out.head⟩ ?_)
    simp only [List.take_succ_cons, List.take_zero, List.drop_succ_cons, List.drop_zero]
    iterate 8 (refine Lk.wpHeldQ_step ?_ rfl ?_ ?_; rotate_left; (focus (intro w' hS; obtain ⟨_, h0, h1, h2, h3, h4, h5⟩ := hS; go_simp; try with_reducible rfl)); simp only [Act.put, List.setIfInBounds_toArray, List.set_cons_zero, List.set_cons_succ])
    show Lk.wpSeqH _ _ _ _ _ _ _
    refine Lk.wpSeqH_step rfl (fun K hK => ?_)
    refine wp_store_row 25 _ _ rfl _ (Cw.wc ⟨s, r, 0, q, false, true⟩) rfl rfl 25 (Cw.wc zw) HD.out.h2 info_wc rfl (wc_one _) ?_
    have HR := Lib.hid (((HD.out.none.add _ HD.out.head).off (Off.row _ (w.heap.size + 2) (Cw.wc ⟨s, r, 0, q, false, true⟩)) HA.out (by omega)).add (w.heap.size + 2, wob ⟨s, r, 0, q, false, true⟩) (setRow_heap _ (w.heap.size + 2) (Cw.wc zw) (Cw.wc ⟨s, r, 0, q, false, true⟩) 25 (0, 0) HD.out.h2))
    refine hK _ _ ⟨trivial, wfld HR.out.h2⟩ ?_
    clear hK K
    refine Lk.wpSeqH_step rfl (fun K hK => ?_)
    have HKK := Lib.hid hK
    clear hK
    go_simp
    refine HKK.out _ _ ⟨trivial, wfld HR.out.h2⟩ ?_
    clear HKK K
    refine Lk.wpSeqH_nil (NoPanic.normal ?_)
    go_wp2_with fail
    refine bodyPost_ret (res2 rfl _ _ _ _ rfl HR.out.head) rfl ?_
    exact ⟨rfl, HR.out.old⟩

set_option maxRecDepth 100000 in
set_option maxHeartbeats 8000000 in
theorem rstep_w12 (l : Lm) (la sm wr ri : Int) (lo : Bool) (v s r p q : Int) (hk : Ok l) (hw : wrong l ⟨la, sm, wr, ri, lo, true⟩ v = false) (hs : Fx.sat v = s) (hr : next sm = r) (hp : next wr = p) (hq : next ri = q) (h6 : la = s) (h7 : ¬ l.fi ≤ q) (w : World) :
    Calls Try.prog 9 #[.agg (lc l), .agg (wc ⟨la, sm, wr, ri, lo, true⟩), .int .i64 v] w fun e w' => e = .returned (.tuple #[.agg (wc ⟨s, r, 0, q, lo, true⟩), .bool (!false && !lo)]) ∧ Below w.heap.size w w' := by
  have HV := Lib.hid (three w l ⟨la, sm, wr, ri, lo, true⟩)
  have CK := Lib.hid (rcheck_ok hk)
  have CW := Lib.hid (rwrong_v hw)
  have CA := Lib.hid (fun W => rsat_v hs W)
  have CN := Lib.hid (fun W => next_v hr W)
  have CP := Lib.hid (fun W => next_v hp W)
  have CQ := Lib.hid (fun W => next_v hq W)
  have d6 : (la == s) = true := by simp [h6]
  have d7 : decide (l.fi ≤ q) = false := decide_eq_false h7
  have d8 : decide (l.ba ≤ 0) = false := decide_eq_false (by have := hk.2.2.2.2.1.1; omega)
  clear hk hw hs hr hp hq h6 h7
  go_enter Try.func9, Try.ntmps9
  go_upto_region 4 with (first | (refine ldl rfl _ rfl _ _ rfl HV.out.h3 ?_) | (refine ldw rfl _ rfl _ _ rfl HV.out.h2 ?_) | (go_at_call 11; (with_reducible refine (CK.out _).mono ?_); rintro e W ⟨rfl, hb⟩; replace HV := Lib.hid (HV.out.grow hb); clear hb CK) | (go_at_call 13; (with_reducible refine (CW.out _).mono ?_); rintro e W ⟨rfl, hb⟩; replace HV := Lib.hid (HV.out.grow hb); clear hb CW) | fail)
  have hL : w.heap.size + 2 < W.heap.size := HV.out.lt (e := (w.heap.size + 2, wob zw)) (by simp)
  go_cut [9] (fun t wx => ∃ m, t = .pointer (some ⟨m, 0, none⟩) ∧ w.heap.size + 2 < m ∧ Hv w wx [(m, wob ⟨s, 0, 0, 0, lo, true⟩), (w.heap.size + 2, wob zw), (w.heap.size + 1, wob ⟨la, sm, wr, ri, lo, true⟩), (w.heap.size, lob l)])
  case first =>
    go_region_held3 (fun V => WFld V (w.heap.size + 1) ⟨la, sm, wr, ri, lo, true⟩) (first | (with_reducible exact wfld HV.out.h2) | (with_reducible exact wfld HV.out.drew.h2) | (with_reducible exact wfld (HV.out.alloc _).h2) | (with_reducible exact wfld (HV.out.alloc _).drew.h2) | (with_reducible exact wfld (HV.out.drew.alloc _).h2) | fail)
      (first | (go_at_call 18; (with_reducible refine (CA.out _).mono ?_); rintro e w' ⟨rfl, rfl⟩) | fail)
    all_goals
      go_wp2_with fail
      go_meet
      case rel => exact ⟨_, rfl, hL, (HV.out.made _).drew⟩
  case rest =>
    obtain ⟨m, rfl, hm, hv⟩ := hcut
    have HH := Lib.hid hv
    have HN : Hid (∀ e ∈ [(w.heap.size + 2, wob zw), (w.heap.size + 1, wob ⟨la, sm, wr, ri, lo, true⟩), (w.heap.size, lob l)], e.1 ≠ m) := ne3 hm (by omega) (by omega)
    have HM : Hid (w.heap.size ≤ m) := by show _ ≤ _; omega
    clear hv HV CA hL
    obtain ⟨k0, k1, k2, k3, k4, k5⟩ := wfld HH.out.head; obtain ⟨x0, x1, x2, x3, x4, x5⟩ := lfld HH.out.h4; obtain ⟨y0, y1, y2, y3, y4, y5⟩ := wfld HH.out.h3
    go_wp2_with (first | (go_at_call 19; (with_reducible refine (CN.out _).mono ?_); rintro e w' ⟨rfl, rfl⟩) | (refine sti rfl _ _ rfl rfl _ 1 ⟨s, 0, 0, 0, lo, true⟩ ⟨s, r, 0, 0, lo, true⟩ _ _ rfl rfl HH.out.head rfl rfl ?_; intro W6 h1 h2; replace HH := Lib.hid (HH.out.change h2 h1 HN.out HM.out); clear h1 h2 k0 k1 k2 k3 k4 k5 x0 x1 x2 x3 x4 x5 y0 y1 y2 y3 y4 y5; obtain ⟨k0, k1, k2, k3, k4, k5⟩ := wfld HH.out.head; obtain ⟨x0, x1, x2, x3, x4, x5⟩ := lfld HH.out.h4; obtain ⟨y0, y1, y2, y3, y4, y5⟩ := wfld HH.out.h3) | (go_at_call 19; (with_reducible refine (CQ.out _).mono ?_); rintro e w' ⟨rfl, rfl⟩) | (refine sti rfl _ _ rfl rfl _ 3 ⟨s, r, 0, 0, lo, true⟩ ⟨s, r, 0, q, lo, true⟩ _ _ rfl rfl HH.out.head rfl rfl ?_; intro W6 h1 h2; replace HH := Lib.hid (HH.out.change h2 h1 HN.out HM.out); clear h1 h2 k0 k1 k2 k3 k4 k5 x0 x1 x2 x3 x4 x5 y0 y1 y2 y3 y4 y5; obtain ⟨k0, k1, k2, k3, k4, k5⟩ := wfld HH.out.head; obtain ⟨x0, x1, x2, x3, x4, x5⟩ := lfld HH.out.h4; obtain ⟨y0, y1, y2, y3, y4, y5⟩ := wfld HH.out.h3) | fail)
    clear k0 k1 k2 k3 k4 k5 x0 x1 x2 x3 x4 x5 y0 y1 y2 y3 y4 y5
    have HD := Lib.hid HH.out.drew
    have HA : Hid (∀ e ∈ [(m, wob ⟨s, r, 0, q, lo, true⟩)], e.1 ≠ w.heap.size + 2) := by show ∀ e ∈ _, _; simp; omega
    refine wp_region_noPanic (Lk.wp_region_lex 8 (fun V => True ∧ WFld V m ⟨s, r, 0, q, lo, true⟩) (by kernel_rfl) (by kernel_rfl) (fun _ _ _ _ _ h => h) ⟨trivial, wfld HD.out.head⟩ ?_)
    simp only [List.take_succ_cons, List.take_zero, List.drop_succ_cons, List.drop_zero]
    iterate 8 (refine Lk.wpHeldQ_step ?_ rfl ?_ ?_; rotate_left; (focus (intro w' hS; obtain ⟨_, h0, h1, h2, h3, h4, h5⟩ := hS; go_simp; try with_reducible rfl)); simp only [Act.put, List.setIfInBounds_toArray, List.set_cons_zero, List.set_cons_succ])
    show Lk.wpSeqH _ _ _ _ _ _ _
    refine Lk.wpSeqH_step rfl (fun K hK => ?_)
    refine wp_store_row 25 _ _ rfl _ (Cw.wc ⟨s, r, 0, q, lo, true⟩) rfl rfl 25 (Cw.wc zw) HD.out.h2 info_wc rfl (wc_one _) ?_
    have HR := Lib.hid (((HD.out.none.add _ HD.out.head).off (Off.row _ (w.heap.size + 2) (Cw.wc ⟨s, r, 0, q, lo, true⟩)) HA.out (by omega)).add (w.heap.size + 2, wob ⟨s, r, 0, q, lo, true⟩) (setRow_heap _ (w.heap.size + 2) (Cw.wc zw) (Cw.wc ⟨s, r, 0, q, lo, true⟩) 25 (0, 0) HD.out.h2))
    refine hK _ _ ⟨trivial, wfld HR.out.h2⟩ ?_
    clear hK K
    refine Lk.wpSeqH_step rfl (fun K hK => ?_)
    have HKK := Lib.hid hK
    clear hK
    go_simp
    refine HKK.out _ _ ⟨trivial, wfld HR.out.h2⟩ ?_
    clear HKK K
    refine Lk.wpSeqH_nil (NoPanic.normal ?_)
    go_wp2_with fail
    refine bodyPost_ret (res2 rfl _ _ _ _ rfl HR.out.head) rfl ?_
    exact ⟨rfl, HR.out.old⟩

theorem rstep_c (l : Lm) (x : Wa) (v : Int) (w : World) : Calls Try.prog 9 #[.agg (lc l), .agg (wc x), .int .i64 v] w fun e w' => e = .returned (.tuple #[.agg (wc (Ck.step l x v)), .bool (good l x v)]) ∧ Below w.heap.size w w' := by
  by_cases hk : Ok l
  · obtain ⟨b, hb⟩ : ∃ b, wrong l x v = b := ⟨_, rfl⟩
    rw [step_ok hk hb, good_ok hk hb]
    obtain ⟨la, sm, wr, ri, lo, be⟩ := x
    unfold Ck.go
    cases be with
    | false =>
      have hs : Ck.same ⟨la, sm, wr, ri, lo, false⟩ v = 0 := rfl
      rw [hs]
      cases b with
      | true =>
        rw [lost_w hk]
        by_cases h7 : l.ba ≤ next wr
        · rw [if_pos (show l.ba ≤ next wr from h7)]; exact rstep_w1 l la sm wr ri lo v _ _ _ _ hk hb rfl rfl rfl rfl h7 w
        · rw [if_neg (show ¬ l.ba ≤ next wr from h7)]; exact rstep_w2 l la sm wr ri lo v _ _ _ _ hk hb rfl rfl rfl rfl h7 w
      | false =>
        rw [lost_r hk]
        by_cases h7 : l.fi ≤ next ri
        · rw [if_pos (show l.fi ≤ next ri from h7)]; exact rstep_w3 l la sm wr ri lo v _ _ _ _ hk hb rfl rfl rfl rfl h7 w
        · rw [if_neg (show ¬ l.fi ≤ next ri from h7)]; exact rstep_w4 l la sm wr ri lo v _ _ _ _ hk hb rfl rfl rfl rfl h7 w
    | true =>
      by_cases h6 : la = Fx.sat v
      · have hs : Ck.same ⟨la, sm, wr, ri, lo, true⟩ v = next sm := by show cnt sm (true && (la == Fx.sat v)) = _; simp [h6, cnt]
        rw [hs]
        cases b with
        | true =>
          rw [lost_w hk]
          by_cases h7 : l.ba ≤ next wr
          · rw [if_pos (show l.ba ≤ next wr from h7)]; exact rstep_w9 l la sm wr ri lo v _ _ _ _ hk hb rfl rfl rfl rfl h6 h7 w
          · rw [if_neg (show ¬ l.ba ≤ next wr from h7)]; exact rstep_w10 l la sm wr ri lo v _ _ _ _ hk hb rfl rfl rfl rfl h6 h7 w
        | false =>
          rw [lost_r hk]
          by_cases h7 : l.fi ≤ next ri
          · rw [if_pos (show l.fi ≤ next ri from h7)]; exact rstep_w11 l la sm wr ri lo v _ _ _ _ hk hb rfl rfl rfl rfl h6 h7 w
          · rw [if_neg (show ¬ l.fi ≤ next ri from h7)]; exact rstep_w12 l la sm wr ri lo v _ _ _ _ hk hb rfl rfl rfl rfl h6 h7 w
      · have hs : Ck.same ⟨la, sm, wr, ri, lo, true⟩ v = 0 := by show cnt sm (true && (la == Fx.sat v)) = _; simp [h6, cnt]
        rw [hs]
        cases b with
        | true =>
          rw [lost_w hk]
          by_cases h7 : l.ba ≤ next wr
          · rw [if_pos (show l.ba ≤ next wr from h7)]; exact rstep_w5 l la sm wr ri lo v _ _ _ _ hk hb rfl rfl rfl rfl h6 h7 w
          · rw [if_neg (show ¬ l.ba ≤ next wr from h7)]; exact rstep_w6 l la sm wr ri lo v _ _ _ _ hk hb rfl rfl rfl rfl h6 h7 w
        | false =>
          rw [lost_r hk]
          by_cases h7 : l.fi ≤ next ri
          · rw [if_pos (show l.fi ≤ next ri from h7)]; exact rstep_w7 l la sm wr ri lo v _ _ _ _ hk hb rfl rfl rfl rfl h6 h7 w
          · rw [if_neg (show ¬ l.fi ≤ next ri from h7)]; exact rstep_w8 l la sm wr ri lo v _ _ _ _ hk hb rfl rfl rfl rfl h6 h7 w
  · rw [step_no hk, good_no hk]
    exact rstep_1 l x v hk w
theorem rstep_v {l : Lm} {x y : Wa} {v : Int} {b : Bool} (h : Ck.step l x v = y) (g : good l x v = b) (w : World) : Calls Try.prog 9 #[.agg (lc l), .agg (wc x), .int .i64 v] w fun e w' => e = .returned (.tuple #[.agg (wc y), .bool b]) ∧ Below w.heap.size w w' := h ▸ g ▸ rstep_c l x v w
end Cw
end Go.Proofs.Ytimflomgaknoaaa
