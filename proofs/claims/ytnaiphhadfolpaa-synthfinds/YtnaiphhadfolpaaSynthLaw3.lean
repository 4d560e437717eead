/- The walk of SynthCaps. -/
import Derived.Test.YtnaiphhadfolpaaSynthLaw2
namespace Go.Proofs.Ytnaiphhadfolpaa
namespace Ew
open Go.RowKit TabC Lk

/-- What the two tables that fuel asks hold, at their ends. -/
structure Ends (w : World) (e : Eg) (bp op bh oh : Nat) : Prop where
  ep : e.p.A = some ⟨bp, op, none⟩
  eh : e.h.A = some ⟨bh, oh, none⟩
  pl : w.cell? ⟨bp, op + (e.p.xs.length - 1), none⟩ = some (.int .i64 (Tb.g e.p.xs (e.p.xs.length - 1)))
  p0 : w.cell? ⟨bp, op, none⟩ = some (.int .i64 (Tb.g e.p.xs 0))
  hl : w.cell? ⟨bh, oh + (e.h.xs.length - 1), none⟩ = some (.int .i64 (Tb.g e.h.xs (e.h.xs.length - 1)))
  h0 : w.cell? ⟨bh, oh, none⟩ = some (.int .i64 (Tb.g e.h.xs 0))
theorem ends {A : Option Addr} {w : World} {xs : List Int} (h : Lk.IntsAt w .i64 A xs) (h1 : 0 < xs.length) : ∃ b o, A = some ⟨b, o, none⟩ ∧ w.cell? ⟨b, o + (xs.length - 1), none⟩ = some (.int .i64 (Tb.g xs (xs.length - 1))) ∧ w.cell? ⟨b, o, none⟩ = some (.int .i64 (Tb.g xs 0)) := by
  obtain ⟨b, o, e1, c1⟩ := cellG h (i := xs.length - 1) (by omega)
  obtain ⟨b', o', e2, c2⟩ := cellG h h1
  rw [e1] at e2
  simp only [Option.some.injEq, Addr.mk.injEq, and_true] at e2
  obtain ⟨rfl, rfl⟩ := e2
  exact ⟨b, o, e1, c1, c2⟩
theorem ends_of {w : World} {e : Eg} (hE : EngIn w e) (K : Em.Ok (en e)) : ∃ bp op bh oh, Ends w e bp op bh oh := by
  have kp : Tb.Ok e.p.xs e.p.ys := K.p.ok
  have kh : Tb.Ok e.h.xs e.h.ys := K.h.ok
  have := kp.two
  have := kh.two
  obtain ⟨bp, op, a1, a2, a3⟩ := ends hE.p.xa (by omega)
  obtain ⟨bh, oh, b1, b2, b3⟩ := ends hE.h.xa (by omega)
  exact ⟨bp, op, bh, oh, a1, b1, a2, a3, b2, b3⟩

theorem ord_caps4 : Lk.mixedB (Lk.opsOf Try.f7 4) [false, false, false, false, false, false, false, false, false, false, false, false, false, false, false, false, false, false, false, false, false, false] = true := by kernel_rfl
theorem ord_caps5 : Lk.mixedB (Lk.opsOf Try.f7 5) [false, false, false, false, false, false, false, false, false, false, false, false] = true := by kernel_rfl

set_option maxRecDepth 100000 in
set_option maxHeartbeats 4000000 in
theorem SynthCaps_go (e : Eg) (m : Int) (w : World) (hE : EngIn w e) (h : fewE e = true) (hk : Em.okB (en e) = true) (h0 : 0 ≤ m) (h1 : m ≤ 65535) : Calls Try.prog 7 #[.agg (ec e), .int .u16 m] w fun r w' => r = .returned (.bool true) ∧ Below w.heap.size w w' := by
  have K := Em.ok_of hk
  obtain ⟨bp, op, bh, oh, en0⟩ := ends_of hE K
  have kp : Tb.Ok e.p.xs e.p.ys := K.p.ok
  have kh : Tb.Ok e.h.xs e.h.ys := K.h.ok
  have xb0 := kp.xb 0 (by have := kp.two; omega)
  have xbl := kp.xb (e.p.xs.length - 1) (by have := kp.two; omega)
  have hb0 := kh.xb 0 (by have := kh.two; omega)
  have hbl := kh.xb (e.h.xs.length - 1) (by have := kh.two; omega)
  have t1 := kp.two
  have t2 := kh.two
  have t3 := kp.most
  have t4 := kh.most
  obtain ⟨LA, eLA⟩ : ∃ a, max (Tb.g e.p.xs (e.p.xs.length - 1)) (Tb.g e.h.xs (e.h.xs.length - 1)) = a := ⟨_, rfl⟩
  obtain ⟨FI, eFI⟩ : ∃ a, min (Tb.g e.p.xs 0) (Tb.g e.h.xs 0) = a := ⟨_, rfl⟩
  obtain ⟨a, ha⟩ : ∃ a, Em.n2 (en e) LA = a := ⟨_, rfl⟩
  obtain ⟨b, hb⟩ : ∃ a, Em.n1 (en e) LA = a := ⟨_, rfl⟩
  obtain ⟨c, hc⟩ : ∃ a, Em.ht (en e) LA = a := ⟨_, rfl⟩
  obtain ⟨x, hx⟩ : ∃ a, Em.n2 (en e) FI = a := ⟨_, rfl⟩
  obtain ⟨y, hy⟩ : ∃ a, Em.n1 (en e) FI = a := ⟨_, rfl⟩
  obtain ⟨z, hz⟩ : ∃ a, Em.ht (en e) FI = a := ⟨_, rfl⟩
  have a2 : Em.n2 (en e) (LA + m) = a := by rw [← ha]; exact Em.n2_hi K (by show Tb.g e.p.xs (e.p.xs.length - 1) ≤ LA; omega) (by omega)
  have c2 : Em.ht (en e) (LA + m) = c := by rw [← hc]; exact Em.ht_hi K (by show Tb.g e.h.xs (e.h.xs.length - 1) ≤ LA; omega) (by omega)
  have b2 : Em.n1 (en e) (LA + m) = b := by rw [← hb]; exact Em.n1_of (by rw [a2, ha])
  have x2 : Em.n2 (en e) (FI - m) = x := by rw [← hx]; exact Em.n2_lo K (by show FI ≤ Tb.g e.p.xs 0; omega) (by omega)
  have z2 : Em.ht (en e) (FI - m) = z := by rw [← hz]; exact Em.ht_lo K (by show FI ≤ Tb.g e.h.xs 0; omega) (by omega)
  have y2 : Em.n1 (en e) (FI - m) = y := by rw [← hy]; exact Em.n1_of (by rw [x2, hx])
  have w1 : IntKind.i64.wrap m = m := IntWalk.i64_in _ (by omega)
  have w2 : IntKind.i64.wrap (LA + m) = LA + m := IntWalk.i64_in _ (by omega)
  have w3 : IntKind.i64.wrap (FI - m) = FI - m := IntWalk.i64_in _ (by omega)
  have C1 := Lib.hid (few_v h)
  have C2 := Lib.hid (fun W (hW : Below w.heap.size w W) => check_ok e W (hE.below hW) hk)
  have C3 := Lib.hid (fun W (hW : Below w.heap.size w W) => rest_v hk hE ha hb hc hW)
  have C4 := Lib.hid (fun W (hW : Below w.heap.size w W) => rest_v hk hE a2 b2 c2 hW)
  have C5 := Lib.hid (fun W (hW : Below w.heap.size w W) => rest_v hk hE hx hy hz hW)
  have C6 := Lib.hid (fun W (hW : Below w.heap.size w W) => rest_v hk hE x2 y2 z2 hW)
  obtain ⟨ep, eh, pl, p0, hl, hh0⟩ := en0
  clear hE hk h K ha hb hc hx hy hz a2 b2 c2 x2 y2 z2 kp kh
  obtain ⟨tf, ⟨pA, pB, pca, pcb, pxs, pys⟩, tq, ⟨hA, hB, hca, hcb, hxs, hys⟩, l2, l1, lE, sl, st, li, le, di⟩ := e
  simp only at ep eh pl p0 hl hh0 eLA eFI t1 t2 t3 t4 xb0 xbl hb0 hbl
  subst ep eh
  have HV := Lib.hid (one_e w ⟨tf, ⟨some ⟨bp, op, none⟩, pB, pca, pcb, pxs, pys⟩, tq, ⟨some ⟨bh, oh, none⟩, hB, hca, hcb, hxs, hys⟩, l2, l1, lE, sl, st, li, le, di⟩)
  generalize Tb.g pxs (pxs.length - 1) = XL at pl eLA xbl
  generalize Tb.g pxs 0 = X0 at p0 eFI xb0
  generalize Tb.g hxs (hxs.length - 1) = HL at hl eLA hbl
  generalize Tb.g hxs 0 = H0 at hh0 eFI hb0
  have KP : Hid (∀ V L, Hv w V ((w.heap.size, eo ⟨tf, ⟨some ⟨bp, op, none⟩, pB, pca, pcb, pxs, pys⟩, tq, ⟨some ⟨bh, oh, none⟩, hB, hca, hcb, hxs, hys⟩, l2, l1, lE, sl, st, li, le, di⟩) :: L) → (fun V => EFld V w.heap.size ⟨tf, ⟨some ⟨bp, op, none⟩, pB, pca, pcb, pxs, pys⟩, tq, ⟨some ⟨bh, oh, none⟩, hB, hca, hcb, hxs, hys⟩, l2, l1, lE, sl, st, li, le, di⟩ ∧ V.cell? ⟨bp, op + (pxs.length - 1), none⟩ = some (.int .i64 XL) ∧ V.cell? ⟨bp, op, none⟩ = some (.int .i64 X0) ∧ V.cell? ⟨bh, oh + (hxs.length - 1), none⟩ = some (.int .i64 HL) ∧ V.cell? ⟨bh, oh, none⟩ = some (.int .i64 H0)) V) := fun V L h => ⟨efld h.head, (h.old.cell (World.block_lt_of_cell? _ _ pl)).trans pl, (h.old.cell (World.block_lt_of_cell? _ _ p0)).trans p0, (h.old.cell (World.block_lt_of_cell? _ _ hl)).trans hl, (h.old.cell (World.block_lt_of_cell? _ _ hh0)).trans hh0⟩
  clear pl p0 hl hh0
  have e2 : 0 ≤ (pxs.length : Int) - 1 := by omega
  have e1 : (pxs.length : Int) - 1 < (pxs.length : Int) := by omega
  have e3 : ((pxs.length : Int) - 1).toNat = pxs.length - 1 := by omega
  have e5 : (1 : Int) ≤ (pxs.length : Int) := by omega
  have e6 : 1 ≤ pxs.length := by omega
  have e7 : 0 < pxs.length := by omega
  have e4 : IntKind.i64.wrap ((pxs.length : Int) - 1) = (pxs.length : Int) - 1 := IntWalk.i64_in _ (by omega)
  have g2 : 0 ≤ (hxs.length : Int) - 1 := by omega
  have g1 : (hxs.length : Int) - 1 < (hxs.length : Int) := by omega
  have g3 : ((hxs.length : Int) - 1).toNat = hxs.length - 1 := by omega
  have g5 : (1 : Int) ≤ (hxs.length : Int) := by omega
  have g6 : 1 ≤ hxs.length := by omega
  have g7 : 0 < hxs.length := by omega
  have g4 : IntKind.i64.wrap ((hxs.length : Int) - 1) = (hxs.length : Int) - 1 := IntWalk.i64_in _ (by omega)
  clear t1 t2 t3 t4 xb0 xbl hb0 hbl h0 h1
  obtain ⟨c0, c1, c2, c3, c4, c5, c6, c7, c8, c9, c10, c11, c12, c13, c14, c15⟩ := efld HV.out.head
  go_enter Try.func7, Try.ntmps7
  go_upto_region 4 with (first | (refine lde rfl _ rfl _ _ rfl HV.out.head ?_) | (go_at_call 8; (with_reducible refine (awake_c _).mono ?_); rintro r W ⟨rfl, hb⟩; replace HV := Lib.hid (HV.out.grow hb); clear hb c0 c1 c2 c3 c4 c5 c6 c7 c8 c9 c10 c11 c12 c13 c14 c15; obtain ⟨c0, c1, c2, c3, c4, c5, c6, c7, c8, c9, c10, c11, c12, c13, c14, c15⟩ := efld HV.out.head) | (go_at_call 9; (with_reducible refine (C1.out _).mono ?_); rintro r W ⟨rfl, hb⟩; replace HV := Lib.hid (HV.out.grow hb); clear hb c0 c1 c2 c3 c4 c5 c6 c7 c8 c9 c10 c11 c12 c13 c14 c15; obtain ⟨c0, c1, c2, c3, c4, c5, c6, c7, c8, c9, c10, c11, c12, c13, c14, c15⟩ := efld HV.out.head) | (go_at_call 12; (with_reducible refine (C2.out _ HV.out.old).mono ?_); rintro r W ⟨rfl, hb⟩; replace HV := Lib.hid (HV.out.grow hb); clear hb c0 c1 c2 c3 c4 c5 c6 c7 c8 c9 c10 c11 c12 c13 c14 c15; obtain ⟨c0, c1, c2, c3, c4, c5, c6, c7, c8, c9, c10, c11, c12, c13, c14, c15⟩ := efld HV.out.head) | fail)
  refine wp_region_noPanic (Lk.wp_region_mix ord_caps4 (fun V => EFld V w.heap.size ⟨tf, ⟨some ⟨bp, op, none⟩, pB, pca, pcb, pxs, pys⟩, tq, ⟨some ⟨bh, oh, none⟩, hB, hca, hcb, hxs, hys⟩, l2, l1, lE, sl, st, li, le, di⟩ ∧ V.cell? ⟨bp, op + (pxs.length - 1), none⟩ = some (.int .i64 XL) ∧ V.cell? ⟨bp, op, none⟩ = some (.int .i64 X0) ∧ V.cell? ⟨bh, oh + (hxs.length - 1), none⟩ = some (.int .i64 HL) ∧ V.cell? ⟨bh, oh, none⟩ = some (.int .i64 H0)) (by kernel_rfl) (by kernel_rfl) (fun _ _ _ _ _ h => h) (KP.out _ _ HV.out.drew) ?_)
  replace HV := Lib.hid HV.out.drew
  iterate 22 (refine Lk.mix_take ?_ rfl ?_ ?_; rotate_left; (focus (intro w' hS; (try dsimp only at hS); go_simp; try with_reducible rfl)); simp only [Act.put, List.setIfInBounds_toArray, List.set_cons_zero, List.set_cons_succ])
  refine Lk.mix_nil (NoPanic.normal ?_)
  go_upto_region 5 with fail
  refine wp_region_noPanic (Lk.wp_region_mix ord_caps5 (fun V => EFld V w.heap.size ⟨tf, ⟨some ⟨bp, op, none⟩, pB, pca, pcb, pxs, pys⟩, tq, ⟨some ⟨bh, oh, none⟩, hB, hca, hcb, hxs, hys⟩, l2, l1, lE, sl, st, li, le, di⟩ ∧ V.cell? ⟨bp, op + (pxs.length - 1), none⟩ = some (.int .i64 XL) ∧ V.cell? ⟨bp, op, none⟩ = some (.int .i64 X0) ∧ V.cell? ⟨bh, oh + (hxs.length - 1), none⟩ = some (.int .i64 HL) ∧ V.cell? ⟨bh, oh, none⟩ = some (.int .i64 H0)) (by kernel_rfl) (by kernel_rfl) (fun _ _ _ _ _ h => h) (KP.out _ _ HV.out.drew) ?_)
  replace HV := Lib.hid HV.out.drew
  iterate 12 (refine Lk.mix_take ?_ rfl ?_ ?_; rotate_left; (focus (intro w' hS; (try dsimp only at hS); go_simp; try with_reducible rfl)); simp only [Act.put, List.setIfInBounds_toArray, List.set_cons_zero, List.set_cons_succ])
  refine Lk.mix_nil (NoPanic.normal ?_)
  clear c0 c1 c2 c3 c4 c5 c6 c7 c8 c9 c10 c11 c12 c13 c14 c15
  obtain ⟨c0, c1, c2, c3, c4, c5, c6, c7, c8, c9, c10, c11, c12, c13, c14, c15⟩ := efld HV.out.head
  go_wp2_with (first | (refine lde rfl _ rfl _ _ rfl HV.out.head ?_) | (go_at_call 10; (with_reducible refine (C3.out _ HV.out.old).mono ?_); rintro r W ⟨rfl, hb⟩; replace HV := Lib.hid (HV.out.grow hb); clear hb c0 c1 c2 c3 c4 c5 c6 c7 c8 c9 c10 c11 c12 c13 c14 c15; obtain ⟨c0, c1, c2, c3, c4, c5, c6, c7, c8, c9, c10, c11, c12, c13, c14, c15⟩ := efld HV.out.head) | (go_at_call 10; (with_reducible refine (C4.out _ HV.out.old).mono ?_); rintro r W ⟨rfl, hb⟩; replace HV := Lib.hid (HV.out.grow hb); clear hb c0 c1 c2 c3 c4 c5 c6 c7 c8 c9 c10 c11 c12 c13 c14 c15; obtain ⟨c0, c1, c2, c3, c4, c5, c6, c7, c8, c9, c10, c11, c12, c13, c14, c15⟩ := efld HV.out.head) | (go_at_call 10; (with_reducible refine (C5.out _ HV.out.old).mono ?_); rintro r W ⟨rfl, hb⟩; replace HV := Lib.hid (HV.out.grow hb); clear hb c0 c1 c2 c3 c4 c5 c6 c7 c8 c9 c10 c11 c12 c13 c14 c15; obtain ⟨c0, c1, c2, c3, c4, c5, c6, c7, c8, c9, c10, c11, c12, c13, c14, c15⟩ := efld HV.out.head) | (go_at_call 10; (with_reducible refine (C6.out _ HV.out.old).mono ?_); rintro r W ⟨rfl, hb⟩; replace HV := Lib.hid (HV.out.grow hb); clear hb c0 c1 c2 c3 c4 c5 c6 c7 c8 c9 c10 c11 c12 c13 c14 c15; obtain ⟨c0, c1, c2, c3, c4, c5, c6, c7, c8, c9, c10, c11, c12, c13, c14, c15⟩ := efld HV.out.head) | fail)
  go_ret
  exact ⟨rfl, HV.out.old⟩

theorem SynthCaps_walk (e : Eg) (m : Int) (lm : 0 ≤ m ∧ m ≤ 65535) (w : World) (hE : EngIn w e) : Calls Try.prog 7 #[.agg (ec e), .int .u16 m] w fun r w' => r = .returned (.bool true) ∧ Below w.heap.size w w' := by
  cases h : fewE e with
  | false => exact SynthCaps_few e m w h
  | true =>
    cases hk : Em.okB (en e) with
    | false => exact SynthCaps_no e m w hE h hk
    | true => exact SynthCaps_go e m w hE h hk lm.1 lm.2
end Ew
end Go.Proofs.Ytnaiphhadfolpaa
