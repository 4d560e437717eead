/- fastest, end, Rise, Ends, Step. Printed by gen_step.py. -/
import Derived.Test.YtioiffhbbhlgeaaPlantSmall
import Derived.Test.YtioiffhbbhlgeaaSynthAwake
import Derived.Test.YtioiffhbbhlgeaaTreeKit
import Derived.Deep.DeepCutAuto
namespace Go.Proofs.Ytioiffhbbhlgeaa
namespace Plw
open Go.RowKit TabC Lk Ew

/-- The cells of an engine that are asked. -/
abbrev EC (V : World) (s : Nat) (e : Eg) : Prop := V.heap[s]? = some (eo e) ∧ EFld V s e
theorem ec_of {V : World} {s : Nat} {e : Eg} (h : V.heap[s]? = some (eo e)) : EC V s e := ⟨h, efld h⟩
theorem pk_of {xs ys : List Int} (h : Tb.Ok xs ys) : Tb.pk xs ys = Tb.mx ys := by simp [Tb.pk, (Tb.ok_iff xs ys).2 h]

theorem ord_fast : Lk.orderedB (Lk.opsOf Try.f26 1) [(0, false), (1, false), (3, false), (4, false), (2, true), (5, false), (6, false)] = true := by kernel_rfl
set_option maxRecDepth 100000 in
set_option maxHeartbeats 8000000 in
theorem fastest_c (e : Eg) (w : World) (hE : EngIn w e) (hk : Em.okB (en e) = true) : Calls Try.prog 26 #[.agg (ec e)] w fun r w' => r = .returned (.int .i64 (max (Tb.mx e.p.ys) e.starter)) ∧ Below w.heap.size w w' := by
  have HV := Lib.hid (one_e w e)
  have C := Lib.hid (fun W (hW : Below w.heap.size w W) => pk_of (Em.ok_of hk).p.ok ▸ peak_c e.p.A e.p.B e.p.ca e.p.cb e.p.xs e.p.ys W (hE.below hW).p)
  simp only [en] at C
  generalize Tb.mx e.p.ys = v at *
  clear hE hk
  go_enter Try.func26, Try.ntmps26
  go_wp2_with fail
  refine wp_region_noPanic (Lk.wp_region_ordered ord_fast (fun V => EC V w.heap.size e) (by kernel_rfl) (by kernel_rfl) (fun _ _ _ _ _ h => h) (by first | (with_reducible exact (ec_of HV.out.head)) | (with_reducible exact (ec_of HV.out.drew.head))) ?_)
  replace HV := Lib.hid HV.out.drew
  iterate 4 (refine Lk.ord_take ?_ rfl rfl ?_ ?_; rotate_left; (focus (intro w' hS; (try dsimp only at hS); first | (refine (rE hS.1 _ rfl rfl).trans ?_; with_reducible rfl) | (go_simp; try with_reducible rfl))); simp only [Act.put, List.setIfInBounds_toArray, List.set_cons_zero, List.set_cons_succ])
  refine Lk.ord_step rfl rfl (fun K hK => ?_)
  go_simp
  (with_reducible refine (C.out _ HV.out.old).mono ?_)
  rintro r W ⟨rfl, hb⟩
  replace HV := Lib.hid (HV.out.grow hb)
  clear hb
  refine hK.out _ _ (by first | (with_reducible exact (ec_of HV.out.head)) | (with_reducible exact (ec_of HV.out.drew.head))) ?_
  clear hK K
  try simp only [Act.put, List.setIfInBounds_toArray, List.set_cons_zero, List.set_cons_succ]
  iterate 2 (refine Lk.ord_take ?_ rfl rfl ?_ ?_; rotate_left; (focus (intro w' hS; (try dsimp only at hS); first | (refine (rE hS.1 _ rfl rfl).trans ?_; with_reducible rfl) | (go_simp; try with_reducible rfl))); simp only [Act.put, List.setIfInBounds_toArray, List.set_cons_zero, List.set_cons_succ])
  refine Lk.ord_nil (NoPanic.normal ?_)
  go_wp2_with fail
  go_ret
  exact ⟨rfl, HV.out.old⟩

theorem end_c (e : Eg) (k lag : Int) (w : World) (h0 : 0 ≤ e.disturb) (h1 : e.disturb ≤ 1048576) (k0 : 0 ≤ k) (k1 : k ≤ 1048576) (l0 : 1 ≤ lag) (l1 : lag ≤ 64) : Calls Try.prog 24 #[.agg (ec e), .int .i64 k, .int .i64 lag] w fun r w' => r = .returned (.int .i64 (Pl.num (k + lag * e.disturb))) ∧ Below w.heap.size w w' := by
  have HV := Lib.hid (one_e w e)
  have c0 := Joins.cell_of_block HV.out.head 15
  simp only [List.getElem?_toArray, List.getElem?_cons_zero, List.getElem?_cons_succ] at c0
  have HB := Lib.hid HV.out.old
  clear HV
  obtain ⟨z, hz⟩ : ∃ z, lag * e.disturb = z := ⟨_, rfl⟩
  have z0 : 0 ≤ z := by rw [← hz]; exact Int.mul_nonneg (by omega) h0
  have z1 : z ≤ 67108864 := by
    have a := Int.mul_le_mul_of_nonneg_right l1 h0
    have b := Int.mul_le_mul_of_nonneg_left h1 (show (0 : Int) ≤ 64 by omega)
    omega
  obtain ⟨v, hv⟩ : ∃ v, Pl.num (k + z) = v := ⟨_, rfl⟩
  have C : Hid (∀ W, Calls Try.prog 32 #[.int .i64 (k + z)] W fun r w' => r = .returned (.int .i64 v) ∧ W = w') := Lib.hid (fun W => hv ▸ number_c _ W)
  have m1 : IntKind.i64.wrap (lag * e.disturb) = z := by rw [hz]; exact IntWalk.i64_in _ (by omega)
  have m2 : IntKind.i64.wrap (k + z) = k + z := IntWalk.i64_in _ (by omega)
  rw [hz, hv]
  clear hz hv z0 z1 h0 h1 k0 k1 l0 l1
  go_enter Try.func24, Try.ntmps24
  go_wp2_with (first | (go_at_call 32; (with_reducible refine (C.out _).mono ?_); rintro r W ⟨rfl, rfl⟩) | fail)
  go_ret
  exact ⟨rfl, HB.out⟩

theorem rise_no (e : Eg) (w : World) (hE : EngIn w e) (h : Em.okB (en e) = false) : Calls Try.prog 15 #[.agg (ec e)] w fun r w' => r = .returned (.int .i64 0) ∧ Below w.heap.size w w' := by
  have HV := Lib.hid (one_e w e)
  have CK := Lib.hid (check_no e _ (hE.alloc (eo e)) h)
  clear hE h
  go_enter Try.func15, Try.ntmps15
  go_wp2_with (first | (refine lde rfl _ rfl _ _ rfl HV.out.head ?_) | (go_at_call 17; (with_reducible refine CK.out.mono ?_); rintro r W ⟨rfl, hb⟩; replace HV := Lib.hid (HV.out.grow hb); clear hb) | fail)
  go_ret
  exact ⟨rfl, HV.out.old⟩

theorem ord_rise : Lk.orderedB (Lk.opsOf Try.f15 3) [(0, false), (2, false), (3, false), (5, false), (6, false), (1, true), (4, false), (7, false), (8, false)] = true := by kernel_rfl
set_option maxRecDepth 100000 in
set_option maxHeartbeats 8000000 in
theorem rise_ok (e : Eg) (w : World) (hE : EngIn w e) (hk : Em.okB (en e) = true) : Calls Try.prog 15 #[.agg (ec e)] w fun r w' => r = .returned (.int .i64 (Pl.rise (en e))) ∧ Below w.heap.size w w' := by
  have HV := Lib.hid (one_e w e)
  have CK := Lib.hid (check_ok e _ (hE.alloc (eo e)) hk)
  have C := Lib.hid (fun W (hW : Below w.heap.size w W) => fastest_c e W (hE.below hW) hk)
  have F := Pl.fit hk
  obtain ⟨f, hf⟩ : ∃ f, max (Tb.mx e.p.ys) e.starter = f := ⟨_, rfl⟩
  obtain ⟨q, hq⟩ : ∃ q, f.tdiv e.lag2 = q := ⟨_, rfl⟩
  have er : Pl.rise (en e) = q + e.disturb := by show (max (Tb.mx e.p.ys) e.starter).tdiv e.lag2 + e.disturb = _; rw [hf, hq]
  have bf : 0 ≤ f ∧ f ≤ 1048576 := by
    have : 0 ≤ Tb.mx e.p.ys ∧ Tb.mx e.p.ys ≤ 1048576 := Tb.mx_bd F.ok.p.ok
    have : 0 ≤ e.starter ∧ e.starter ≤ 1048576 := F.st
    omega
  have hl : 1 ≤ e.lag2 := F.l2.1
  have bq := quo_in hl (show -1048576 ≤ f by omega) bf.2
  have hd : 0 ≤ e.disturb ∧ e.disturb ≤ 1048576 := F.di
  rw [hq] at bq
  rw [hf] at C
  have hz : ¬ e.lag2 = 0 := by omega
  have m1 : IntKind.i64.wrap (f.tdiv e.lag2) = q := by rw [hq]; exact IntWalk.i64_in _ (by omega)
  have m2 : IntKind.i64.wrap (q + e.disturb) = q + e.disturb := IntWalk.i64_in _ (by omega)
  rw [er]
  clear er hf hq bf bq hl hd F hE hk
  go_enter Try.func15, Try.ntmps15
  go_wp2_with (first | (refine lde rfl _ rfl _ _ rfl HV.out.head ?_) | (go_at_call 17; (with_reducible refine CK.out.mono ?_); rintro r W ⟨rfl, hb⟩; replace HV := Lib.hid (HV.out.grow hb); clear hb) | fail)
  refine wp_region_noPanic (Lk.wp_region_ordered ord_rise (fun V => EC V w.heap.size e) (by kernel_rfl) (by kernel_rfl) (fun _ _ _ _ _ h => h) (by first | (with_reducible exact (ec_of HV.out.head)) | (with_reducible exact (ec_of HV.out.drew.head))) ?_)
  replace HV := Lib.hid HV.out.drew
  iterate 5 (refine Lk.ord_take ?_ rfl rfl ?_ ?_; rotate_left; (focus (intro w' hS; (try dsimp only at hS); first | (refine (rE hS.1 _ rfl rfl).trans ?_; with_reducible rfl) | (refine (rQuo _ _ rfl rfl rfl hz m1).trans ?_; with_reducible rfl) | (go_simp; try with_reducible rfl))); simp only [Act.put, List.setIfInBounds_toArray, List.set_cons_zero, List.set_cons_succ])
  refine Lk.ord_step rfl rfl (fun K hK => ?_)
  go_simp
  (with_reducible refine (C.out _ HV.out.old).mono ?_)
  rintro r W ⟨rfl, hb⟩
  replace HV := Lib.hid (HV.out.grow hb)
  clear hb
  refine hK.out _ _ (by first | (with_reducible exact (ec_of HV.out.head)) | (with_reducible exact (ec_of HV.out.drew.head))) ?_
  clear hK K
  try simp only [Act.put, List.setIfInBounds_toArray, List.set_cons_zero, List.set_cons_succ]
  iterate 3 (refine Lk.ord_take ?_ rfl rfl ?_ ?_; rotate_left; (focus (intro w' hS; (try dsimp only at hS); first | (refine (rE hS.1 _ rfl rfl).trans ?_; with_reducible rfl) | (refine (rQuo _ _ rfl rfl rfl hz m1).trans ?_; with_reducible rfl) | (go_simp; try with_reducible rfl))); simp only [Act.put, List.setIfInBounds_toArray, List.set_cons_zero, List.set_cons_succ])
  refine Lk.ord_nil (NoPanic.normal ?_)
  go_wp2_with fail
  go_ret
  exact ⟨rfl, HV.out.old⟩

theorem ends_no (e : Eg) (w : World) (hE : EngIn w e) (h : Em.okB (en e) = false) : Calls Try.prog 11 #[.agg (ec e)] w fun r w' => r = .returned (.tuple #[.int .i64 0, .int .i64 0, .int .i64 0]) ∧ Below w.heap.size w w' := by
  have HV := Lib.hid (one_e w e)
  have CK := Lib.hid (check_no e _ (hE.alloc (eo e)) h)
  clear hE h
  go_enter Try.func11, Try.ntmps11
  go_wp2_with (first | (refine lde rfl _ rfl _ _ rfl HV.out.head ?_) | (go_at_call 17; (with_reducible refine CK.out.mono ?_); rintro r W ⟨rfl, hb⟩; replace HV := Lib.hid (HV.out.grow hb); clear hb) | fail)
  refine bodyPost_ret (results_tmp3 rfl _ _ _) rfl ?_
  exact ⟨rfl, HV.out.old⟩

theorem ord_ends : Lk.orderedB (Lk.opsOf Try.f11 3) [(0, false), (1, false), (2, false), (4, false), (5, false), (7, false), (8, false), (10, false), (11, false), (13, false), (14, false), (15, false), (17, false), (18, false), (3, true), (6, true), (9, true), (12, true), (16, true), (19, true), (20, false), (21, false), (22, false)] = true := by kernel_rfl
set_option maxRecDepth 100000 in
set_option maxHeartbeats 8000000 in
theorem ends_ok (e : Eg) (w : World) (hE : EngIn w e) (hk : Em.okB (en e) = true) : Calls Try.prog 11 #[.agg (ec e)] w fun r w' => r = .returned (.tuple #[.int .i64 (Pl.end1 (en e)), .int .i64 (Pl.end2 (en e)), .int .i64 (Pl.endH (en e))]) ∧ Below w.heap.size w w' := by
  have HV := Lib.hid (one_e w e)
  have CK := Lib.hid (check_ok e _ (hE.alloc (eo e)) hk)
  have F := Pl.fit hk
  have d0 : 0 ≤ e.disturb ∧ e.disturb ≤ 1048576 := F.di
  have l2 : 1 ≤ e.lag2 ∧ e.lag2 ≤ 64 := F.l2
  have l1 : 1 ≤ e.lag1 ∧ e.lag1 ≤ 64 := F.l1
  have lE : 1 ≤ e.lagE ∧ e.lagE ≤ 64 := F.lE
  have st : 0 ≤ e.starter ∧ e.starter ≤ 1048576 := F.st
  have bp : 0 ≤ Tb.mx e.p.ys ∧ Tb.mx e.p.ys ≤ 1048576 := Tb.mx_bd F.ok.p.ok
  have bq : 0 ≤ Tb.mx e.q.ys ∧ Tb.mx e.q.ys ≤ 1048576 := Tb.mx_bd F.ok.q.ok
  have bh : 0 ≤ Tb.mx e.h.ys ∧ Tb.mx e.h.ys ≤ 1048576 := Tb.mx_bd F.ok.h.ok
  have KQ : Tb.pk e.q.xs e.q.ys = Tb.mx e.q.ys := pk_of F.ok.q.ok
  have KH : Tb.pk e.h.xs e.h.ys = Tb.mx e.h.ys := pk_of F.ok.h.ok
  have CQ := Lib.hid (fun W (hW : Below w.heap.size w W) => KQ ▸ peak_c e.q.A e.q.B e.q.ca e.q.cb e.q.xs e.q.ys W (hE.below hW).q)
  have CH := Lib.hid (fun W (hW : Below w.heap.size w W) => KH ▸ peak_c e.h.A e.h.B e.h.ca e.h.cb e.h.xs e.h.ys W (hE.below hW).h)
  have CF := Lib.hid (fun W (hW : Below w.heap.size w W) => fastest_c e W (hE.below hW) hk)
  have E1 := Lib.hid (fun W => end_c e (Tb.mx e.q.ys) e.lag1 W d0.1 d0.2 bq.1 bq.2 l1.1 l1.2)
  have E2 := Lib.hid (fun W => end_c e (max (Tb.mx e.p.ys) e.starter) e.lag2 W d0.1 d0.2 (by omega) (by omega) l2.1 l2.2)
  have EH := Lib.hid (fun W => end_c e (Tb.mx e.h.ys) e.lagE W d0.1 d0.2 bh.1 bh.2 lE.1 lE.2)
  have x1 : Pl.end1 (en e) = Pl.num (Tb.mx e.q.ys + e.lag1 * e.disturb) := rfl
  have x2 : Pl.end2 (en e) = Pl.num (max (Tb.mx e.p.ys) e.starter + e.lag2 * e.disturb) := rfl
  have x3 : Pl.endH (en e) = Pl.num (Tb.mx e.h.ys + e.lagE * e.disturb) := rfl
  rw [x1, x2, x3]
  clear x1 x2 x3
  generalize Pl.num (Tb.mx e.q.ys + e.lag1 * e.disturb) = z1 at *
  generalize Pl.num (max (Tb.mx e.p.ys) e.starter + e.lag2 * e.disturb) = z2 at *
  generalize Pl.num (Tb.mx e.h.ys + e.lagE * e.disturb) = z3 at *
  generalize max (Tb.mx e.p.ys) e.starter = f at *
  generalize Tb.mx e.q.ys = mq at *
  generalize Tb.mx e.h.ys = mh at *
  clear F d0 l2 l1 lE st bp bq bh KQ KH hE hk
  go_enter Try.func11, Try.ntmps11
  go_wp2_with (first | (refine lde rfl _ rfl _ _ rfl HV.out.head ?_) | (go_at_call 17; (with_reducible refine CK.out.mono ?_); rintro r W ⟨rfl, hb⟩; replace HV := Lib.hid (HV.out.grow hb); clear hb) | fail)
  refine wp_region_noPanic (Lk.wp_region_ordered ord_ends (fun V => EC V w.heap.size e) (by kernel_rfl) (by kernel_rfl) (fun _ _ _ _ _ h => h) (by first | (with_reducible exact (ec_of HV.out.head)) | (with_reducible exact (ec_of HV.out.drew.head))) ?_)
  replace HV := Lib.hid HV.out.drew
  iterate 14 (refine Lk.ord_take ?_ rfl rfl ?_ ?_; rotate_left; (focus (intro w' hS; (try dsimp only at hS); first | (refine (rE hS.1 _ rfl rfl).trans ?_; with_reducible rfl) | (go_simp; try with_reducible rfl))); simp only [Act.put, List.setIfInBounds_toArray, List.set_cons_zero, List.set_cons_succ])
  refine Lk.ord_step rfl rfl (fun K hK => ?_)
  go_simp
  (with_reducible refine (CQ.out _ HV.out.old).mono ?_)
  rintro r W ⟨rfl, hb⟩
  replace HV := Lib.hid (HV.out.grow hb)
  clear hb
  refine hK.out _ _ (by first | (with_reducible exact (ec_of HV.out.head)) | (with_reducible exact (ec_of HV.out.drew.head))) ?_
  clear hK K
  try simp only [Act.put, List.setIfInBounds_toArray, List.set_cons_zero, List.set_cons_succ]
  refine Lk.ord_step rfl rfl (fun K hK => ?_)
  go_simp
  (with_reducible refine (E1.out _).mono ?_)
  rintro r W ⟨rfl, hb⟩
  replace HV := Lib.hid (HV.out.grow hb)
  clear hb
  refine hK.out _ _ (by first | (with_reducible exact (ec_of HV.out.head)) | (with_reducible exact (ec_of HV.out.drew.head))) ?_
  clear hK K
  try simp only [Act.put, List.setIfInBounds_toArray, List.set_cons_zero, List.set_cons_succ]
  refine Lk.ord_step rfl rfl (fun K hK => ?_)
  go_simp
  (with_reducible refine (CF.out _ HV.out.old).mono ?_)
  rintro r W ⟨rfl, hb⟩
  replace HV := Lib.hid (HV.out.grow hb)
  clear hb
  refine hK.out _ _ (by first | (with_reducible exact (ec_of HV.out.head)) | (with_reducible exact (ec_of HV.out.drew.head))) ?_
  clear hK K
  try simp only [Act.put, List.setIfInBounds_toArray, List.set_cons_zero, List.set_cons_succ]
  refine Lk.ord_step rfl rfl (fun K hK => ?_)
  go_simp
  (with_reducible refine (E2.out _).mono ?_)
  rintro r W ⟨rfl, hb⟩
  replace HV := Lib.hid (HV.out.grow hb)
  clear hb
  refine hK.out _ _ (by first | (with_reducible exact (ec_of HV.out.head)) | (with_reducible exact (ec_of HV.out.drew.head))) ?_
  clear hK K
  try simp only [Act.put, List.setIfInBounds_toArray, List.set_cons_zero, List.set_cons_succ]
  refine Lk.ord_step rfl rfl (fun K hK => ?_)
  go_simp
  (with_reducible refine (CH.out _ HV.out.old).mono ?_)
  rintro r W ⟨rfl, hb⟩
  replace HV := Lib.hid (HV.out.grow hb)
  clear hb
  refine hK.out _ _ (by first | (with_reducible exact (ec_of HV.out.head)) | (with_reducible exact (ec_of HV.out.drew.head))) ?_
  clear hK K
  try simp only [Act.put, List.setIfInBounds_toArray, List.set_cons_zero, List.set_cons_succ]
  refine Lk.ord_step rfl rfl (fun K hK => ?_)
  go_simp
  (with_reducible refine (EH.out _).mono ?_)
  rintro r W ⟨rfl, hb⟩
  replace HV := Lib.hid (HV.out.grow hb)
  clear hb
  refine hK.out _ _ (by first | (with_reducible exact (ec_of HV.out.head)) | (with_reducible exact (ec_of HV.out.drew.head))) ?_
  clear hK K
  try simp only [Act.put, List.setIfInBounds_toArray, List.set_cons_zero, List.set_cons_succ]
  iterate 3 (refine Lk.ord_take ?_ rfl rfl ?_ ?_; rotate_left; (focus (intro w' hS; (try dsimp only at hS); first | (refine (rE hS.1 _ rfl rfl).trans ?_; with_reducible rfl) | (go_simp; try with_reducible rfl))); simp only [Act.put, List.setIfInBounds_toArray, List.set_cons_zero, List.set_cons_succ])
  refine Lk.ord_nil (NoPanic.normal ?_)
  go_wp2_with fail
  refine bodyPost_ret (results_tmp3 rfl _ _ _) rfl ?_
  exact ⟨rfl, HV.out.old⟩


end Plw
end Go.Proofs.Ytioiffhbbhlgeaa
