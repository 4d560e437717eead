/- The walk of SynthFinds. -/
import Derived.Test.YtnaiphhadfolpaaSynthLaw3
namespace Go.Proofs.Ytnaiphhadfolpaa
namespace Ew
open Go.RowKit TabC Lk

theorem model_v {e : Eg} (hk : Em.okB (en e) = true) {w : World} (hE : EngIn w e) {F a b c m1 m4 : Int} (h1 : Tb.atO e.q.xs e.q.ys a = b) (h2 : Tb.bkO e.q.xs e.q.ys b = m1) (h3 : Tb.atO e.h.xs e.h.ys F = c) (h4 : Tb.bkO e.p.xs e.p.ys a = m4) {W : World} (hW : Below w.heap.size w W) : Calls Try.prog 14 #[.agg (ec e), .agg (r5 b a 0 3 F)] W fun r w' => r = .returned (.agg (r5 b m1 c 3 m4)) ∧ Below W.heap.size W w' := by
  have := model_ok e (fun k => [b, a, 0, 3, F].getD k 0) W (hE.below hW) hk
  subst h2 h3 h4
  rw [show r5 b (Tb.bkO e.q.xs e.q.ys b) (Tb.atO e.h.xs e.h.ys F) 3 (Tb.bkO e.p.xs e.p.ys a) = r5 (Tb.atO e.q.xs e.q.ys a) (Tb.bkO e.q.xs e.q.ys b) (Tb.atO e.h.xs e.h.ys F) 3 (Tb.bkO e.p.xs e.p.ys a) from by rw [h1]]
  exact this
theorem ord_finds : Lk.mixedB (Lk.opsOf Try.f6 10) [false, false, false, false, false, false, false, false, false, false, false] = true := by kernel_rfl

set_option maxRecDepth 100000 in
set_option maxHeartbeats 4000000 in
theorem SynthFinds_go (e : Eg) (m : Int) (w : World) (hE : EngIn w e) (h : fewE e = true) (hk : Em.okB (en e) = true) (h0 : 0 ≤ m) (h1 : m ≤ 4294967295) : Calls Try.prog 6 #[.agg (ec e), .int .u32 m] w fun r w' => r = .returned (.bool true) ∧ Below w.heap.size w w' := by
  have K := Em.ok_of hk
  have kp : Tb.Ok e.p.xs e.p.ys := K.p.ok
  have kq : Tb.Ok e.q.xs e.q.ys := K.q.ok
  have rp : Em.Ri e.p.xs e.p.ys := K.p
  have t1 := kp.two
  have t2 := kq.two
  have t3 := kp.most
  have t4 := kq.most
  obtain ⟨bp, op, ep, pl, p0⟩ := ends hE.p.xa (by omega)
  obtain ⟨bq, oq, eq, _, q0⟩ := ends hE.q.xa (by omega)
  have xb0 := kp.xb 0 (by omega)
  have xbl := kp.xb (e.p.xs.length - 1) (by omega)
  have hup := Tb.up_lt kp (j := 0) (k := e.p.xs.length - 1) (by omega) (by omega)
  obtain ⟨D, eD⟩ : ∃ D, Tb.g e.p.xs (e.p.xs.length - 1) - Tb.g e.p.xs 0 + 1 = D := ⟨_, rfl⟩
  obtain ⟨t, et⟩ : ∃ t, m.tmod D = t := ⟨_, rfl⟩
  have tb : 0 ≤ t ∧ t < D := by
    rw [Int.tmod_eq_emod_of_nonneg h0] at et
    exact ⟨et ▸ Int.emod_nonneg _ (by omega), et ▸ Int.emod_lt_of_pos _ (by omega)⟩
  obtain ⟨F, eF⟩ : ∃ F, Tb.g e.p.xs 0 + t = F := ⟨_, rfl⟩
  obtain ⟨a, ha⟩ : ∃ a, Em.n2 (en e) F = a := ⟨_, rfl⟩
  obtain ⟨b, hb⟩ : ∃ a, Em.n1 (en e) F = a := ⟨_, rfl⟩
  obtain ⟨c, hc⟩ : ∃ a, Em.ht (en e) F = a := ⟨_, rfl⟩
  obtain ⟨m1, hm1⟩ : ∃ x, Tb.bkO e.q.xs e.q.ys b = x := ⟨_, rfl⟩
  obtain ⟨m4, hm4⟩ : ∃ x, Tb.bkO e.p.xs e.p.ys a = x := ⟨_, rfl⟩
  have hab : Tb.atO e.q.xs e.q.ys a = b := by rw [← ha]; exact hb
  have hpa : Tb.atO e.p.xs e.p.ys F = a := ha
  have d1 : decide (m4 ≤ F) = true := decide_eq_true (by rw [← hm4, ← hpa]; exact Em.bk_le kp (by omega))
  have d2 : decide (m1 ≤ max a (Tb.g e.q.xs 0)) = true := decide_eq_true (by rw [← hm1, ← hab]; exact Em.bk_le_max kq a)
  have hag : Em.n2 (en e) m4 = a := by
    show Tb.atO e.p.xs e.p.ys m4 = a
    rw [← hm4, ← hpa]
    exact Em.at_bk rp (by omega)
  obtain ⟨b5, hb5⟩ : ∃ x, Em.n1 (en e) m4 = x := ⟨_, rfl⟩
  obtain ⟨c5, hc5⟩ : ∃ x, Em.ht (en e) m4 = x := ⟨_, rfl⟩
  have C1 := Lib.hid (few_v h)
  have C2 := Lib.hid (fun W (hW : Below w.heap.size w W) => check_ok e W (hE.below hW) hk)
  have C3 := Lib.hid (fun W (hW : Below w.heap.size w W) => rest_v hk hE ha hb hc hW)
  have C4 := Lib.hid (fun W (hW : Below w.heap.size w W) => model_v hk hE hab hm1 (show Tb.atO e.h.xs e.h.ys F = c from hc) hm4 hW)
  have C5 := Lib.hid (fun W (hW : Below w.heap.size w W) => rest_v hk hE hag hb5 hc5 hW)
  clear hE hk h K ha hb hc hm1 hm4 hab hpa hag hb5 hc5 kp kq rp
  obtain ⟨tf, ⟨pA, pB, pca, pcb, pxs, pys⟩, ⟨qA, qB, qca, qcb, qxs, qys⟩, th, l2, l1, lE, sl, st, li, le, di⟩ := e
  simp only at ep eq pl p0 q0 eD eF t1 t2 t3 t4 xb0 xbl hup d2
  subst ep eq
  have HV := Lib.hid (one_e w ⟨tf, ⟨some ⟨bp, op, none⟩, pB, pca, pcb, pxs, pys⟩, ⟨some ⟨bq, oq, none⟩, qB, qca, qcb, qxs, qys⟩, th, l2, l1, lE, sl, st, li, le, di⟩)
  generalize Tb.g pxs (pxs.length - 1) = XL at pl eD xbl hup
  generalize Tb.g pxs 0 = X0 at p0 eD eF xb0 hup
  generalize Tb.g qxs 0 = Q0 at q0 d2
  have HP : Hid (∀ V L, Hv w V L → V.cell? ⟨bp, op + (pxs.length - 1), none⟩ = some (.int .i64 XL) ∧ V.cell? ⟨bp, op, none⟩ = some (.int .i64 X0)) := fun V L h => ⟨(h.old.cell (World.block_lt_of_cell? _ _ pl)).trans pl, (h.old.cell (World.block_lt_of_cell? _ _ p0)).trans p0⟩
  have HQ : Hid (∀ V L, Hv w V L → V.cell? ⟨bq, oq, none⟩ = some (.int .i64 Q0)) := fun V L h => (h.old.cell (World.block_lt_of_cell? _ _ q0)).trans q0
  clear pl p0 q0
  have v1 : IntKind.i64.wrap m = m := IntWalk.i64_in _ (by omega)
  have v2 : IntKind.i64.wrap (XL - X0) = XL - X0 := IntWalk.i64_in _ (by omega)
  have v3 : IntKind.i64.wrap (XL - X0 + 1) = D := by rw [eD]; exact IntWalk.i64_in _ (by omega)
  have v4 : IntKind.i64.wrap t = t := IntWalk.i64_in _ (by omega)
  have v5 : IntKind.i64.wrap (X0 + t) = F := by rw [eF]; exact IntWalk.i64_in _ (by omega)
  have n1 : (D == 0) = false := by simp; omega
  have n2 : D ≠ 0 := by omega
  have e2 : 0 ≤ (pxs.length : Int) - 1 := by omega
  have e1 : (pxs.length : Int) - 1 < (pxs.length : Int) := by omega
  have e3 : ((pxs.length : Int) - 1).toNat = pxs.length - 1 := by omega
  have e5 : (1 : Int) ≤ (pxs.length : Int) := by omega
  have e6 : 1 ≤ pxs.length := by omega
  have e7 : 0 < pxs.length := by omega
  have e4 : IntKind.i64.wrap ((pxs.length : Int) - 1) = (pxs.length : Int) - 1 := IntWalk.i64_in _ (by omega)
  have g7 : 0 < qxs.length := by omega
  clear t1 t2 t3 t4 xb0 xbl hup eD eF tb h0 h1
  obtain ⟨c0, c1, c2, c3, c4, c5, c6, c7, c8, c9, c10, c11, c12, c13, c14, c15⟩ := efld HV.out.head
  have k1 := HP.out _ _ HV.out
  have k2 := HQ.out _ _ HV.out
  go_enter Try.func6, Try.ntmps6
  go_upto_region 10 with (first | (refine lde rfl _ rfl _ _ rfl HV.out.head ?_) | (refine lde rfl _ rfl _ _ rfl HV.out.h2 ?_) | (go_at_call 8; (with_reducible refine (awake_c _).mono ?_); rintro r W ⟨rfl, hb⟩; replace HV := Lib.hid (HV.out.grow hb); clear hb c0 c1 c2 c3 c4 c5 c6 c7 c8 c9 c10 c11 c12 c13 c14 c15 k1 k2; obtain ⟨c0, c1, c2, c3, c4, c5, c6, c7, c8, c9, c10, c11, c12, c13, c14, c15⟩ := efld HV.out.head; have k1 := HP.out _ _ HV.out; have k2 := HQ.out _ _ HV.out) | (go_at_call 9; (with_reducible refine (C1.out _).mono ?_); rintro r W ⟨rfl, hb⟩; replace HV := Lib.hid (HV.out.grow hb); clear hb c0 c1 c2 c3 c4 c5 c6 c7 c8 c9 c10 c11 c12 c13 c14 c15 k1 k2; obtain ⟨c0, c1, c2, c3, c4, c5, c6, c7, c8, c9, c10, c11, c12, c13, c14, c15⟩ := efld HV.out.head; have k1 := HP.out _ _ HV.out; have k2 := HQ.out _ _ HV.out) | (go_at_call 12; (with_reducible refine (C2.out _ HV.out.old).mono ?_); rintro r W ⟨rfl, hb⟩; replace HV := Lib.hid (HV.out.grow hb); clear hb c0 c1 c2 c3 c4 c5 c6 c7 c8 c9 c10 c11 c12 c13 c14 c15 k1 k2; obtain ⟨c0, c1, c2, c3, c4, c5, c6, c7, c8, c9, c10, c11, c12, c13, c14, c15⟩ := efld HV.out.head; have k1 := HP.out _ _ HV.out; have k2 := HQ.out _ _ HV.out) | (go_at_call 10; (with_reducible refine (C3.out _ HV.out.old).mono ?_); rintro r W ⟨rfl, hb⟩; replace HV := Lib.hid (HV.out.grow hb); clear hb c0 c1 c2 c3 c4 c5 c6 c7 c8 c9 c10 c11 c12 c13 c14 c15 k1 k2; obtain ⟨c0, c1, c2, c3, c4, c5, c6, c7, c8, c9, c10, c11, c12, c13, c14, c15⟩ := efld HV.out.head; have k1 := HP.out _ _ HV.out; have k2 := HQ.out _ _ HV.out) | (go_at_call 14; (with_reducible refine (C4.out _ HV.out.old).mono ?_); rintro r Wm ⟨rfl, hb⟩; replace HV := Lib.hid ((HV.out.grow hb).made (ob5 b m1 c 3 m4)); clear hb c0 c1 c2 c3 c4 c5 c6 c7 c8 c9 c10 c11 c12 c13 c14 c15 k1 k2; obtain ⟨c0, c1, c2, c3, c4, c5, c6, c7, c8, c9, c10, c11, c12, c13, c14, c15⟩ := efld HV.out.h2; have z0 := Joins.cell_of_block HV.out.head 0; have z1 := Joins.cell_of_block HV.out.head 1; have z2 := Joins.cell_of_block HV.out.head 2; have z3 := Joins.cell_of_block HV.out.head 3; have z4 := Joins.cell_of_block HV.out.head 4; simp only [List.getElem?_toArray, List.getElem?_cons_zero, List.getElem?_cons_succ] at z0 z1 z2 z3 z4; have k1 := HP.out _ _ HV.out; have k2 := HQ.out _ _ HV.out) | (go_at_call 10; (with_reducible refine (C5.out _ HV.out.old).mono ?_); rintro r W ⟨rfl, hb⟩; replace HV := Lib.hid (HV.out.grow hb); clear hb c0 c1 c2 c3 c4 c5 c6 c7 c8 c9 c10 c11 c12 c13 c14 c15 k1 k2 z0 z1 z2 z3 z4; obtain ⟨c0, c1, c2, c3, c4, c5, c6, c7, c8, c9, c10, c11, c12, c13, c14, c15⟩ := efld HV.out.h2; have z0 := Joins.cell_of_block HV.out.head 0; have z1 := Joins.cell_of_block HV.out.head 1; have z2 := Joins.cell_of_block HV.out.head 2; have z3 := Joins.cell_of_block HV.out.head 3; have z4 := Joins.cell_of_block HV.out.head 4; simp only [List.getElem?_toArray, List.getElem?_cons_zero, List.getElem?_cons_succ] at z0 z1 z2 z3 z4; have k1 := HP.out _ _ HV.out; have k2 := HQ.out _ _ HV.out) | fail)
  refine wp_region_noPanic (Lk.wp_region_mix ord_finds (fun V => EFld V w.heap.size ⟨tf, ⟨some ⟨bp, op, none⟩, pB, pca, pcb, pxs, pys⟩, ⟨some ⟨bq, oq, none⟩, qB, qca, qcb, qxs, qys⟩, th, l2, l1, lE, sl, st, li, le, di⟩ ∧ V.cell? ⟨bq, oq, none⟩ = some (.int .i64 Q0) ∧ V.cell? ⟨Wm.heap.size, 1, none⟩ = some (.int .i64 m1)) (by kernel_rfl) (by kernel_rfl) (fun _ _ _ _ _ h => h) ⟨efld HV.out.drew.h2, HQ.out _ _ HV.out.drew, Joins.cell_of_block HV.out.drew.head 1⟩ ?_)
  replace HV := Lib.hid HV.out.drew
  iterate 11 (refine Lk.mix_take ?_ rfl ?_ ?_; rotate_left; (focus (intro w' hS; (try dsimp only at hS); go_simp; try with_reducible rfl)); simp only [Act.put, List.setIfInBounds_toArray, List.set_cons_zero, List.set_cons_succ])
  refine Lk.mix_nil (NoPanic.normal ?_)
  clear c0 c1 c2 c3 c4 c5 c6 c7 c8 c9 c10 c11 c12 c13 c14 c15 k1 k2 z0 z1 z2 z3 z4
  obtain ⟨c0, c1, c2, c3, c4, c5, c6, c7, c8, c9, c10, c11, c12, c13, c14, c15⟩ := efld HV.out.h2
  have z0 := Joins.cell_of_block HV.out.head 0
  have z1 := Joins.cell_of_block HV.out.head 1
  have z2 := Joins.cell_of_block HV.out.head 2
  have z3 := Joins.cell_of_block HV.out.head 3
  have z4 := Joins.cell_of_block HV.out.head 4
  simp only [List.getElem?_toArray, List.getElem?_cons_zero, List.getElem?_cons_succ] at z0 z1 z2 z3 z4
  go_wp2_with fail
  go_ret
  exact ⟨rfl, HV.out.old⟩

theorem SynthFinds_walk (e : Eg) (m : Int) (lm : 0 ≤ m ∧ m ≤ 4294967295) (w : World) (hE : EngIn w e) : Calls Try.prog 6 #[.agg (ec e), .int .u32 m] w fun r w' => r = .returned (.bool true) ∧ Below w.heap.size w w' := by
  cases h : fewE e with
  | false => exact SynthFinds_few e m w h
  | true =>
    cases hk : Em.okB (en e) with
    | false => exact SynthFinds_no e m w hE h hk
    | true => exact SynthFinds_go e m w hE h hk lm.1 lm.2
end Ew
end Go.Proofs.Ytnaiphhadfolpaa
