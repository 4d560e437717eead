/- The document's answers: number, on, Rise, Ends, Step. Printed by gen_ref.py. -/
import Derived.Test.YtioiffhbbhlgeaaPlantRun
import Derived.Test.YtioiffhbbhlgeaaSynthRCheck
import Derived.Test.YtioiffhbbhlgeaaTabRef3
import Derived.Test.YtioiffhbbhlgeaaFixRef
namespace Go.Proofs.Ytioiffhbbhlgeaa
namespace Plw
open Go.RowKit TabC Lk Ew

theorem rnumber_c (n : Int) (w : World) : Calls Try.prog 28 #[.int .i64 n] w fun r w' => r = .returned (.int .i64 (Pl.num n)) ∧ w = w' := by
  unfold Pl.num
  go_enter Try.func28, Try.ntmps28
  go_wp2_with fail
  go_ret
  exact ⟨rfl, rfl⟩
set_option maxHeartbeats 1000000 in
theorem ron_c (e : Eg) (x t lag g : Int) (w : World) (h0 : 0 ≤ e.disturb) (h1 : e.disturb ≤ 1048576) (hl : 1 ≤ lag) (ht : 0 ≤ t) (ht1 : t ≤ 1048576) :
    Calls Try.prog 41 #[.agg (ec e), .int .i64 x, .int .i64 t, .int .i64 lag, .int .i64 g] w fun r w' => r = .returned (.int .i64 (Pl.on e.disturb lag x t g)) ∧ Below w.heap.size w w' := by
  have HV := Lib.hid (one_e w e)
  have c0 := Joins.cell_of_block HV.out.head 15
  simp only [List.getElem?_toArray, List.getElem?_cons_zero, List.getElem?_cons_succ] at c0
  have HB := Lib.hid HV.out.old
  clear HV
  obtain ⟨y, hy⟩ : ∃ y, Pl.num x = y := ⟨_, rfl⟩
  obtain ⟨q, hq⟩ : ∃ q, (t - y).tdiv lag = q := ⟨_, rfl⟩
  obtain ⟨u, hu⟩ : ∃ u, min (max g (-e.disturb)) e.disturb = u := ⟨_, rfl⟩
  obtain ⟨v, hv⟩ : ∃ v, Pl.num (y + q + u) = v := ⟨_, rfl⟩
  have by1 := Pl.num_in x
  rw [hy] at by1
  have bq := quo_in (d := t - y) hl (by omega) (by omega)
  rw [hq] at bq
  have bu : -e.disturb ≤ u ∧ u ≤ e.disturb := by omega
  have ev : Pl.on e.disturb lag x t g = v := by rw [Pl.on, hy, hq, Pl.gs, hu, hv]
  have CN : Hid (∀ W, Calls Try.prog 28 #[.int .i64 x] W fun r w' => r = .returned (.int .i64 y) ∧ W = w') := Lib.hid (fun W => hy ▸ rnumber_c x W)
  have CM : Hid (∀ W, Calls Try.prog 28 #[.int .i64 (y + q + u)] W fun r w' => r = .returned (.int .i64 v) ∧ W = w') := Lib.hid (fun W => hv ▸ rnumber_c _ W)
  have m1 : IntKind.i64.wrap (t - y) = t - y := IntWalk.i64_in _ (by omega)
  have m2 : IntKind.i64.wrap ((t - y).tdiv lag) = q := by rw [hq]; exact IntWalk.i64_in _ (by omega)
  have m3 : IntKind.i64.wrap (y + q) = y + q := IntWalk.i64_in _ (by omega)
  have m4 : IntKind.i64.wrap (-e.disturb) = -e.disturb := IntWalk.i64_in _ (by omega)
  have m5 : IntKind.i64.wrap (y + q + u) = y + q + u := IntWalk.i64_in _ (by omega)
  have hz : ¬ lag = 0 := by omega
  have hz' : (lag == 0) = false := by simp; omega
  rw [ev]
  clear h0 h1 hl ht ht1 hy hq hv by1 bq bu ev
  go_enter Try.func41, Try.ntmps41
  go_wp2_with (first | (go_at_call 28; first | (with_reducible refine (CN.out _).mono ?_; rintro r W ⟨rfl, rfl⟩) | (with_reducible refine (CM.out _).mono ?_; rintro r W ⟨rfl, rfl⟩)) | fail)
  go_ret
  exact ⟨rfl, HB.out⟩

theorem rrise_no (e : Eg) (w : World) (hE : EngIn w e) (h : Em.okB (en e) = false) : Calls Try.prog 16 #[.agg (ec e)] w fun r w' => r = .returned (.int .i64 0) ∧ Below w.heap.size w w' := by
  have HV := Lib.hid (one_e w e)
  have CK := Lib.hid (rcheck_no e _ (hE.alloc (eo e)) h)
  clear hE h
  go_enter Try.func16, Try.ntmps16
  go_wp2_with (first | (refine lde rfl _ rfl _ _ rfl HV.out.head ?_) | (go_at_call 27; (with_reducible refine CK.out.mono ?_); rintro r W ⟨rfl, hb⟩; replace HV := Lib.hid (HV.out.grow hb); clear hb) | fail)
  go_ret
  exact ⟨rfl, HV.out.old⟩

theorem ord_rrise : Lk.orderedB (Lk.opsOf Try.f16 3) [(0, false), (1, false), (3, false), (4, false), (6, false), (7, false), (9, false), (10, false), (2, true), (5, false), (8, false), (11, false), (12, false)] = true := by kernel_rfl
set_option maxRecDepth 100000 in
set_option maxHeartbeats 16000000 in
theorem rrise_ok (e : Eg) (w : World) (hE : EngIn w e) (hk : Em.okB (en e) = true) : Calls Try.prog 16 #[.agg (ec e)] w fun r w' => r = .returned (.int .i64 (Pl.rise (en e))) ∧ Below w.heap.size w w' := by
  have HV := Lib.hid (one_e w e)
  have CK := Lib.hid (rcheck_ok e _ (hE.alloc (eo e)) hk)
  have F := Pl.fit hk
  have C := Lib.hid (fun W (hW : Below w.heap.size w W) => pk_of (show Tb.Ok e.p.xs e.p.ys from F.ok.p.ok) ▸ rpeak_c e.p.A e.p.B e.p.ca e.p.cb e.p.xs e.p.ys W (hE.below hW).p)
  obtain ⟨f, hf⟩ : ∃ f, max (Tb.mx e.p.ys) e.starter = f := ⟨_, rfl⟩
  obtain ⟨q, hq⟩ : ∃ q, f.tdiv e.lag2 = q := ⟨_, rfl⟩
  have er : Pl.rise (en e) = q + e.disturb := by show (max (Tb.mx e.p.ys) e.starter).tdiv e.lag2 + e.disturb = _; rw [hf, hq]
  have bf : 0 ≤ f ∧ f ≤ 1048576 := by
    have : 0 ≤ Tb.mx e.p.ys ∧ Tb.mx e.p.ys ≤ 1048576 := Tb.mx_bd F.ok.p.ok
    have : 0 ≤ e.starter ∧ e.starter ≤ 1048576 := F.st
    omega
  have hl : 1 ≤ e.lag2 := F.l2.1
  have bq := quo_in hl (show -1048576 ≤ f by omega) bf.2
  have hd : 0 ≤ e.disturb ∧ e.disturb ≤ 1048576 := F.di
  rw [hq] at bq
  have hz : ¬ e.lag2 = 0 := by omega
  have m1 : IntKind.i64.wrap (f.tdiv e.lag2) = q := by rw [hq]; exact IntWalk.i64_in _ (by omega)
  have m2 : IntKind.i64.wrap (q + e.disturb) = q + e.disturb := IntWalk.i64_in _ (by omega)
  generalize Tb.mx e.p.ys = mp at *
  rw [er]
  clear er hq bf bq hl hd F hE hk
  go_enter Try.func16, Try.ntmps16
  go_wp2_with (first | (refine lde rfl _ rfl _ _ rfl HV.out.head ?_) | (go_at_call 27; (with_reducible refine CK.out.mono ?_); rintro r W ⟨rfl, hb⟩; replace HV := Lib.hid (HV.out.grow hb); clear hb) | fail)
  refine wp_region_noPanic (Lk.wp_region_ordered ord_rrise (fun V => EC V w.heap.size e) (by kernel_rfl) (by kernel_rfl) (fun _ _ _ _ _ h => h) (by first | (with_reducible exact (ec_of HV.out.head)) | (with_reducible exact (ec_of HV.out.drew.head))) ?_)
  replace HV := Lib.hid HV.out.drew
  iterate 8 (refine Lk.ord_take ?_ rfl rfl ?_ ?_; rotate_left; (focus (intro w' hS; (try dsimp only at hS); first | (refine (rE hS.1 _ rfl rfl).trans ?_; with_reducible rfl) | (refine (rQuo _ _ rfl rfl rfl hz m1).trans ?_; with_reducible rfl) | (go_simp; try with_reducible rfl))); simp only [Act.put, List.setIfInBounds_toArray, List.set_cons_zero, List.set_cons_succ])
  refine Lk.ord_step rfl rfl (fun K hK => ?_)
  go_simp
  (with_reducible refine (C.out _ HV.out.old).mono ?_)
  rintro r W ⟨rfl, hb⟩
  replace HV := Lib.hid (HV.out.grow hb)
  clear hb
  refine hK.out _ _ (by first | (with_reducible exact (ec_of HV.out.head)) | (with_reducible exact (ec_of HV.out.drew.head))) ?_
  clear hK K
  try simp only [Act.put, List.setIfInBounds_toArray, List.set_cons_zero, List.set_cons_succ]
  iterate 4 (refine Lk.ord_take ?_ rfl rfl ?_ ?_; rotate_left; (focus (intro w' hS; (try dsimp only at hS); first | (refine (rE hS.1 _ rfl rfl).trans ?_; with_reducible rfl) | (refine (rQuo _ _ rfl rfl rfl hz m1).trans ?_; with_reducible rfl) | (go_simp; try with_reducible rfl))); simp only [Act.put, List.setIfInBounds_toArray, List.set_cons_zero, List.set_cons_succ])
  refine Lk.ord_nil (NoPanic.normal ?_)
  go_wp2_with fail
  go_ret
  exact ⟨rfl, HV.out.old⟩

theorem rends_no (e : Eg) (w : World) (hE : EngIn w e) (h : Em.okB (en e) = false) : Calls Try.prog 12 #[.agg (ec e)] w fun r w' => r = .returned (.tuple #[.int .i64 0, .int .i64 0, .int .i64 0]) ∧ Below w.heap.size w w' := by
  have HV := Lib.hid (one_e w e)
  have CK := Lib.hid (rcheck_no e _ (hE.alloc (eo e)) h)
  clear hE h
  go_enter Try.func12, Try.ntmps12
  go_wp2_with (first | (refine lde rfl _ rfl _ _ rfl HV.out.head ?_) | (go_at_call 27; (with_reducible refine CK.out.mono ?_); rintro r W ⟨rfl, hb⟩; replace HV := Lib.hid (HV.out.grow hb); clear hb) | fail)
  refine bodyPost_ret (results_tmp3 rfl _ _ _) rfl ?_
  exact ⟨rfl, HV.out.old⟩

theorem ord_rends : Lk.orderedB (Lk.opsOf Try.f12 3) [(0, false), (1, false), (3, false), (4, false), (5, false), (6, false), (7, false), (10, false), (11, false), (13, false), (14, false), (16, false), (17, false), (18, false), (19, false), (20, false), (23, false), (24, false), (26, false), (27, false), (28, false), (29, false), (30, false), (2, true), (8, false), (9, true), (12, true), (15, false), (21, false), (22, true), (25, true), (31, false), (32, true), (33, false), (34, false), (35, false)] = true := by kernel_rfl
theorem prod_in {l d : Int} (h0 : 0 ≤ d) (h1 : d ≤ 1048576) (l0 : 1 ≤ l) (l1 : l ≤ 64) : 0 ≤ l * d ∧ l * d ≤ 67108864 := by
  have a := Int.mul_le_mul_of_nonneg_right l1 h0
  have b := Int.mul_le_mul_of_nonneg_left h1 (show (0 : Int) ≤ 64 by omega)
  exact ⟨Int.mul_nonneg (by omega) h0, by omega⟩

set_option maxRecDepth 100000 in
set_option maxHeartbeats 16000000 in
theorem rends_ok (e : Eg) (w : World) (hE : EngIn w e) (hk : Em.okB (en e) = true) : Calls Try.prog 12 #[.agg (ec e)] w fun r w' => r = .returned (.tuple #[.int .i64 (Pl.end1 (en e)), .int .i64 (Pl.end2 (en e)), .int .i64 (Pl.endH (en e))]) ∧ Below w.heap.size w w' := by
  have HV := Lib.hid (one_e w e)
  have CK := Lib.hid (rcheck_ok e _ (hE.alloc (eo e)) hk)
  have F := Pl.fit hk
  have d0 : 0 ≤ e.disturb ∧ e.disturb ≤ 1048576 := F.di
  have l2 : 1 ≤ e.lag2 ∧ e.lag2 ≤ 64 := F.l2
  have l1 : 1 ≤ e.lag1 ∧ e.lag1 ≤ 64 := F.l1
  have lE : 1 ≤ e.lagE ∧ e.lagE ≤ 64 := F.lE
  have st : 0 ≤ e.starter ∧ e.starter ≤ 1048576 := F.st
  have bp : 0 ≤ Tb.mx e.p.ys ∧ Tb.mx e.p.ys ≤ 1048576 := Tb.mx_bd F.ok.p.ok
  have bq : 0 ≤ Tb.mx e.q.ys ∧ Tb.mx e.q.ys ≤ 1048576 := Tb.mx_bd F.ok.q.ok
  have bh : 0 ≤ Tb.mx e.h.ys ∧ Tb.mx e.h.ys ≤ 1048576 := Tb.mx_bd F.ok.h.ok
  have KP : Tb.pk e.p.xs e.p.ys = Tb.mx e.p.ys := pk_of F.ok.p.ok
  have KQ : Tb.pk e.q.xs e.q.ys = Tb.mx e.q.ys := pk_of F.ok.q.ok
  have KH : Tb.pk e.h.xs e.h.ys = Tb.mx e.h.ys := pk_of F.ok.h.ok
  have CP := Lib.hid (fun W (hW : Below w.heap.size w W) => KP ▸ rpeak_c e.p.A e.p.B e.p.ca e.p.cb e.p.xs e.p.ys W (hE.below hW).p)
  have CQ := Lib.hid (fun W (hW : Below w.heap.size w W) => KQ ▸ rpeak_c e.q.A e.q.B e.q.ca e.q.cb e.q.xs e.q.ys W (hE.below hW).q)
  have CH := Lib.hid (fun W (hW : Below w.heap.size w W) => KH ▸ rpeak_c e.h.A e.h.B e.h.ca e.h.cb e.h.xs e.h.ys W (hE.below hW).h)
  obtain ⟨f, hf⟩ : ∃ f, max (Tb.mx e.p.ys) e.starter = f := ⟨_, rfl⟩
  obtain ⟨x1, hx1⟩ : ∃ x, e.lag1 * e.disturb = x := ⟨_, rfl⟩
  obtain ⟨x2, hx2⟩ : ∃ x, e.lag2 * e.disturb = x := ⟨_, rfl⟩
  obtain ⟨x3, hx3⟩ : ∃ x, e.lagE * e.disturb = x := ⟨_, rfl⟩
  have b1 := prod_in d0.1 d0.2 l1.1 l1.2
  have b2 := prod_in d0.1 d0.2 l2.1 l2.2
  have b3 := prod_in d0.1 d0.2 lE.1 lE.2
  rw [hx1] at b1
  rw [hx2] at b2
  rw [hx3] at b3
  have E1 := Lib.hid (fun W => rnumber_c (Tb.mx e.q.ys + x1) W)
  have E2 := Lib.hid (fun W => rnumber_c (f + x2) W)
  have EH := Lib.hid (fun W => rnumber_c (Tb.mx e.h.ys + x3) W)
  have z1 : Pl.end1 (en e) = Pl.num (Tb.mx e.q.ys + x1) := by rw [← hx1]; rfl
  have z2 : Pl.end2 (en e) = Pl.num (f + x2) := by rw [← hx2, ← hf]; rfl
  have z3 : Pl.endH (en e) = Pl.num (Tb.mx e.h.ys + x3) := by rw [← hx3]; rfl
  have m1 : IntKind.i64.wrap (e.lag1 * e.disturb) = x1 := by rw [hx1]; exact IntWalk.i64_in _ (by omega)
  have m2 : IntKind.i64.wrap (e.lag2 * e.disturb) = x2 := by rw [hx2]; exact IntWalk.i64_in _ (by omega)
  have m3 : IntKind.i64.wrap (e.lagE * e.disturb) = x3 := by rw [hx3]; exact IntWalk.i64_in _ (by omega)
  have m4 : IntKind.i64.wrap (Tb.mx e.q.ys + x1) = Tb.mx e.q.ys + x1 := IntWalk.i64_in _ (by omega)
  have m5 : IntKind.i64.wrap (f + x2) = f + x2 := IntWalk.i64_in _ (by omega)
  have m6 : IntKind.i64.wrap (Tb.mx e.h.ys + x3) = Tb.mx e.h.ys + x3 := IntWalk.i64_in _ (by omega)
  rw [z1, z2, z3]
  clear z1 z2 z3
  generalize Pl.num (Tb.mx e.q.ys + x1) = z1 at *
  generalize Pl.num (f + x2) = z2 at *
  generalize Pl.num (Tb.mx e.h.ys + x3) = z3 at *
  generalize Tb.mx e.q.ys = mq at *
  generalize Tb.mx e.h.ys = mh at *
  generalize Tb.mx e.p.ys = mp at *
  clear F d0 l2 l1 lE st bp bq bh b1 b2 b3 KP KQ KH hE hk hx1 hx2 hx3
  go_enter Try.func12, Try.ntmps12
  go_wp2_with (first | (refine lde rfl _ rfl _ _ rfl HV.out.head ?_) | (go_at_call 27; (with_reducible refine CK.out.mono ?_); rintro r W ⟨rfl, hb⟩; replace HV := Lib.hid (HV.out.grow hb); clear hb) | fail)
  refine wp_region_noPanic (Lk.wp_region_ordered ord_rends (fun V => EC V w.heap.size e) (by kernel_rfl) (by kernel_rfl) (fun _ _ _ _ _ h => h) (by first | (with_reducible exact (ec_of HV.out.head)) | (with_reducible exact (ec_of HV.out.drew.head))) ?_)
  replace HV := Lib.hid HV.out.drew
  iterate 23 (refine Lk.ord_take ?_ rfl rfl ?_ ?_; rotate_left; (focus (intro w' hS; (try dsimp only at hS); first | (refine (rE hS.1 _ rfl rfl).trans ?_; with_reducible rfl) | (go_simp; try with_reducible rfl))); simp only [Act.put, List.setIfInBounds_toArray, List.set_cons_zero, List.set_cons_succ])
  refine Lk.ord_step rfl rfl (fun K hK => ?_)
  go_simp
  (with_reducible refine (CQ.out _ HV.out.old).mono ?_)
  rintro r W ⟨rfl, hb⟩
  replace HV := Lib.hid (HV.out.grow hb)
  clear hb
  refine hK.out _ _ (by first | (with_reducible exact (ec_of HV.out.head)) | (with_reducible exact (ec_of HV.out.drew.head))) ?_
  clear hK K
  try simp only [Act.put, List.setIfInBounds_toArray, List.set_cons_zero, List.set_cons_succ]
  iterate 1 (refine Lk.ord_take ?_ rfl rfl ?_ ?_; rotate_left; (focus (intro w' hS; (try dsimp only at hS); first | (refine (rE hS.1 _ rfl rfl).trans ?_; with_reducible rfl) | (go_simp; try with_reducible rfl))); simp only [Act.put, List.setIfInBounds_toArray, List.set_cons_zero, List.set_cons_succ])
  refine Lk.ord_step rfl rfl (fun K hK => ?_)
  go_simp
  (with_reducible refine (E1.out _).mono ?_)
  rintro r W ⟨rfl, rfl⟩
  refine hK.out _ _ (by first | (with_reducible exact (ec_of HV.out.head)) | (with_reducible exact (ec_of HV.out.drew.head))) ?_
  clear hK K
  try simp only [Act.put, List.setIfInBounds_toArray, List.set_cons_zero, List.set_cons_succ]
  refine Lk.ord_step rfl rfl (fun K hK => ?_)
  go_simp
  (with_reducible refine (CP.out _ HV.out.old).mono ?_)
  rintro r W ⟨rfl, hb⟩
  replace HV := Lib.hid (HV.out.grow hb)
  clear hb
  refine hK.out _ _ (by first | (with_reducible exact (ec_of HV.out.head)) | (with_reducible exact (ec_of HV.out.drew.head))) ?_
  clear hK K
  try simp only [Act.put, List.setIfInBounds_toArray, List.set_cons_zero, List.set_cons_succ]
  iterate 2 (refine Lk.ord_take ?_ rfl rfl ?_ ?_; rotate_left; (focus (intro w' hS; (try dsimp only at hS); first | (refine (rE hS.1 _ rfl rfl).trans ?_; with_reducible rfl) | (go_simp; try with_reducible rfl))); simp only [Act.put, List.setIfInBounds_toArray, List.set_cons_zero, List.set_cons_succ])
  refine Lk.ord_step rfl rfl (fun K hK => ?_)
  go_simp
  (with_reducible refine (E2.out _).mono ?_)
  rintro r W ⟨rfl, rfl⟩
  refine hK.out _ _ (by first | (with_reducible exact (ec_of HV.out.head)) | (with_reducible exact (ec_of HV.out.drew.head))) ?_
  clear hK K
  try simp only [Act.put, List.setIfInBounds_toArray, List.set_cons_zero, List.set_cons_succ]
  refine Lk.ord_step rfl rfl (fun K hK => ?_)
  go_simp
  (with_reducible refine (CH.out _ HV.out.old).mono ?_)
  rintro r W ⟨rfl, hb⟩
  replace HV := Lib.hid (HV.out.grow hb)
  clear hb
  refine hK.out _ _ (by first | (with_reducible exact (ec_of HV.out.head)) | (with_reducible exact (ec_of HV.out.drew.head))) ?_
  clear hK K
  try simp only [Act.put, List.setIfInBounds_toArray, List.set_cons_zero, List.set_cons_succ]
  iterate 1 (refine Lk.ord_take ?_ rfl rfl ?_ ?_; rotate_left; (focus (intro w' hS; (try dsimp only at hS); first | (refine (rE hS.1 _ rfl rfl).trans ?_; with_reducible rfl) | (go_simp; try with_reducible rfl))); simp only [Act.put, List.setIfInBounds_toArray, List.set_cons_zero, List.set_cons_succ])
  refine Lk.ord_step rfl rfl (fun K hK => ?_)
  go_simp
  (with_reducible refine (EH.out _).mono ?_)
  rintro r W ⟨rfl, rfl⟩
  refine hK.out _ _ (by first | (with_reducible exact (ec_of HV.out.head)) | (with_reducible exact (ec_of HV.out.drew.head))) ?_
  clear hK K
  try simp only [Act.put, List.setIfInBounds_toArray, List.set_cons_zero, List.set_cons_succ]
  iterate 3 (refine Lk.ord_take ?_ rfl rfl ?_ ?_; rotate_left; (focus (intro w' hS; (try dsimp only at hS); first | (refine (rE hS.1 _ rfl rfl).trans ?_; with_reducible rfl) | (go_simp; try with_reducible rfl))); simp only [Act.put, List.setIfInBounds_toArray, List.set_cons_zero, List.set_cons_succ])
  refine Lk.ord_nil (NoPanic.normal ?_)
  go_wp2_with fail
  refine bodyPost_ret (results_tmp3 rfl _ _ _) rfl ?_
  exact ⟨rfl, HV.out.old⟩


end Plw
end Go.Proofs.Ytioiffhbbhlgeaa
