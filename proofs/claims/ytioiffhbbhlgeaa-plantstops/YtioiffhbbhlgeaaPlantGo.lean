/- Step. Printed by gen_go.py. -/
import Derived.Test.YtioiffhbbhlgeaaPlantStep
namespace Go.Proofs.Ytioiffhbbhlgeaa
namespace Plw
open Go.RowKit TabC Lk Ew

section
variable {op : Oper} {u : Act} {W : World} {K : Act → World → Prop} {Q : Exit → Act → World → Prop}
/-- A new engine's block, stored into; a plant's. -/
theorem stq (x y : Operand) (ho : op.op = .store 57 x y) (hd : op.dst = none) (g : Nat) (e : Eg) (hx : u.eval x = .pointer (some ⟨g, 0, none⟩)) (hy : u.eval y = .agg (ec e)) (hP : W.heap[g]? = some (.cells zc 57 (0, 0)))
    (c : ∀ w', w'.heap[g]? = some (qo e) → Off g W w' → K u w') : op.wp Try.prog u W K Q := by
  refine wp_store_row 57 x y ho g (ec e) hx hy 57 zc hP info_q rfl (ec_one e) ?_
  rw [hd]
  exact c _ (setRow_heap W g zc (ec e) 57 (0, 0) hP) (Off.row W g _)
theorem stpK (x y : Operand) (ho : op.op = .store 28 x y) (hd : op.dst = none) (g : Nat) (q p : Pl.Pt) (hx : u.eval x = .pointer (some ⟨g, 0, none⟩)) (hy : u.eval y = .agg (pc p)) (hP : W.heap[g]? = some (po q))
    (c : ∀ w', w'.heap[g]? = some (po p) → Off g W w' → K u w') : op.wp Try.prog u W K Q := by
  refine wp_store_row 28 x y ho g (pc p) hx hy 28 (pc q) hP info_p rfl (by simp [Value.oneCell']) ?_
  rw [hd]
  exact c _ (setRow_heap W g (pc q) (pc p) 28 (0, 0) hP) (Off.row W g _)
end
theorem hv_swap {w W : World} {x y : Nat × Obj} {L : List (Nat × Obj)} (h : Hv w W (x :: y :: L)) : Hv w W (y :: x :: L) := ⟨fun z hz => h.has z (by simp only [List.mem_cons] at hz ⊢; exact hz.elim (fun a => .inr (.inl a)) (fun a => a.elim .inl (fun b => .inr (.inr b)))), h.old⟩
abbrev zo : Obj := .cells #[.int .i64 0, .int .i64 0, .int .i64 0, .int .i64 0, .bool false] 28 (0, 0)
theorem four_b (w : World) (e : Eg) (p : Pl.Pt) (d : Pl.Dr) : Hv w ((((w.alloc (eo e)).alloc (po p)).alloc (dro d)).alloc (zo)) [(w.heap.size + 1 + 1 + 1, zo), (w.heap.size + 1 + 1, dro d), (w.heap.size + 1, po p), (w.heap.size, eo e)] := by
  have := ((((Hv.nil w).made (eo e)).made (po p)).made (dro d)).made (zo)
  simpa only [World.size_alloc] using this
abbrev L4 (s : Nat) (e : Eg) (p : Pl.Pt) (d : Pl.Dr) : List (Nat × Obj) := [(s + 1 + 1 + 1, zo), (s + 1 + 1, dro d), (s + 1, po p), (s, eo e)]
abbrev L6 (g b s : Nat) (e : Eg) (p : Pl.Pt) (d : Pl.Dr) : List (Nat × Obj) := (g, qo e) :: (b, xo e.disturb) :: L4 s e p d

/-- What is loaded: the cells of three boxes, and the program's own engine. -/
abbrev SF (V : World) (g s : Nat) (e : Eg) (p : Pl.Pt) (d : Pl.Dr) : Prop :=
  V.heap[g]? = some (qo e) ∧ V.cell? ⟨s, 8, none⟩ = some (.int .i64 e.lag2) ∧ V.cell? ⟨s, 9, none⟩ = some (.int .i64 e.lag1) ∧ V.cell? ⟨s, 10, none⟩ = some (.int .i64 e.lagE) ∧ V.cell? ⟨s, 11, none⟩ = some (.int .i64 e.slew) ∧ V.cell? ⟨s, 12, none⟩ = some (.int .i64 e.starter) ∧
  V.cell? ⟨s + 1, 0, none⟩ = some (.int .i64 p.n1) ∧ V.cell? ⟨s + 1, 1, none⟩ = some (.int .i64 p.n2) ∧ V.cell? ⟨s + 1, 2, none⟩ = some (.int .i64 p.heat) ∧ V.cell? ⟨s + 1, 3, none⟩ = some (.int .i64 p.valve) ∧
  V.cell? ⟨s + 1 + 1, 0, none⟩ = some (.int .i64 d.fuel) ∧ V.cell? ⟨s + 1 + 1, 3, none⟩ = some (.bool d.start) ∧ V.cell? ⟨s + 1 + 1, 4, none⟩ = some (.int .i64 d.g0) ∧ V.cell? ⟨s + 1 + 1, 5, none⟩ = some (.int .i64 d.g1) ∧ V.cell? ⟨s + 1 + 1, 6, none⟩ = some (.int .i64 d.g2)
theorem sf {w V : World} {g b s : Nat} {e : Eg} {p : Pl.Pt} {d : Pl.Dr} (h : Hv w V (L6 g b s e p d)) : SF V g s e p d := by
  have h1 := h.tail.tail.h4
  have h2 := h.tail.h4
  have h3 := h.h4
  exact ⟨h.head, Joins.cell_of_block h1 8, Joins.cell_of_block h1 9, Joins.cell_of_block h1 10, Joins.cell_of_block h1 11, Joins.cell_of_block h1 12, Joins.cell_of_block h2 0, Joins.cell_of_block h2 1, Joins.cell_of_block h2 2, Joins.cell_of_block h2 3, Joins.cell_of_block h3 0, Joins.cell_of_block h3 3, Joins.cell_of_block h3 4, Joins.cell_of_block h3 5, Joins.cell_of_block h3 6⟩
theorem sf_off {V V' : World} {g s : Nat} {e : Eg} {p : Pl.Pt} {d : Pl.Dr} (h : SF V g s e p d) (ho : Off (s + 1 + 1 + 1) V V') (hg : g ≠ s + 1 + 1 + 1) : SF V' g s e p d := by
  have a : ∀ k, V'.cell? ⟨s, k, none⟩ = V.cell? ⟨s, k, none⟩ := fun k => ho.cell (show s ≠ _ by omega)
  have b : ∀ k, V'.cell? ⟨s + 1, k, none⟩ = V.cell? ⟨s + 1, k, none⟩ := fun k => ho.cell (show s + 1 ≠ _ by omega)
  have c : ∀ k, V'.cell? ⟨s + 1 + 1, k, none⟩ = V.cell? ⟨s + 1 + 1, k, none⟩ := fun k => ho.cell (show s + 1 + 1 ≠ _ by omega)
  unfold SF
  rw [ho.block g hg]
  simp only [a, b, c]
  exact h

set_option maxRecDepth 100000 in
set_option maxHeartbeats 16000000 in
theorem step_no (e : Eg) (p : Pl.Pt) (d : Pl.Dr) (w : World) (hE : EngIn w e) (hk : Em.okB (en e) = false) : Calls Try.prog 13 #[.agg (ec e), .agg (pc p), .agg (dc d)] w fun r w' => r = .returned (.agg (pc Pl.Pt.zero)) ∧ Below w.heap.size w w' := by
  have HV := Lib.hid (four_b w e p d)
  have CK := Lib.hid (fun W (hW : Below w.heap.size w W) => check_no e W (hE.below hW) hk)
  have hn := Lib.hid (show w.heap.size ≤ w.heap.size + 1 + 1 + 1 by omega)
  clear hE hk
  go_enter Try.func13, Try.ntmps13
  go_wp2_with (first | (refine lde rfl _ rfl _ _ rfl HV.out.h4 ?_) | (go_at_call 17; (with_reducible refine (CK.out _ HV.out.old).mono ?_); rintro r W ⟨rfl, hb⟩; replace HV := Lib.hid (HV.out.grow hb); clear hb) | (refine stp rfl _ _ rfl rfl _ Pl.Pt.zero Pl.Pt.zero rfl rfl HV.out.head ?_; intro w' hP hO; replace HV := Lib.hid (HV.out.old.trans (hO.below hn.out)); replace hP := Lib.hid hP; clear hO) | fail)
  refine bodyPost_ret (res_p rfl _ _ _ _ rfl hP.out) rfl ?_
  exact ⟨rfl, HV.out⟩

theorem drew6 {w W : World} {L : List (Nat × Obj)} (h : Hv w W L) : Hv w W.drew L := h.drew
theorem tree3 : Lk.treeB (Lk.opsOf Try.f13 3) (.one 0 false (.one 1 false (.one 2 false (.two 3 4 (.one 4 true (.one 5 true (.one 6 false .nil))) (.one 3 true (.one 5 true (.one 6 false .nil))))))) = true := by kernel_rfl

theorem ord4 : Lk.orderedB (Lk.opsOf Try.f13 4) [(0, false), (1, false), (3, false), (4, false), (6, false), (7, false), (2, true), (5, true), (8, true), (9, false)] = true := by kernel_rfl
theorem ord7 : Lk.orderedB (Lk.opsOf Try.f13 7) [(0, false), (1, false), (2, false), (3, false), (4, false), (5, false), (6, false), (7, false), (8, false), (9, false), (10, false), (13, false), (14, false), (15, false), (16, false), (17, false), (11, true), (12, true), (18, true), (19, false)] = true := by kernel_rfl
theorem ord8 : Lk.orderedB (Lk.opsOf Try.f13 8) [(0, false), (1, false), (2, false), (3, false), (4, false), (6, false), (7, false), (8, false), (9, false), (10, false), (12, false), (13, false), (14, false), (15, false), (16, false), (17, false), (18, false), (19, false), (21, false), (22, false), (23, false), (24, false), (25, false), (27, false), (28, false), (5, true), (11, true), (20, true), (26, true), (29, false), (30, true)] = true := by kernel_rfl
set_option maxRecDepth 100000 in
set_option maxHeartbeats 16000000 in
theorem step_ok (e : Eg) (p : Pl.Pt) (d : Pl.Dr) (w : World) (hE : EngIn w e) (hk : Em.okB (en e) = true) : Calls Try.prog 13 #[.agg (ec e), .agg (pc p), .agg (dc d)] w fun r w' => r = .returned (.agg (pc (Pl.go (en e) p d))) ∧ Below w.heap.size w w' := by
  have HV : Hid (Hv w ((((w.alloc (eo e)).alloc (po p)).alloc (dro d)).alloc (zo)) (L4 w.heap.size e p d)) := Lib.hid (four_b w e p d)
  have CK := Lib.hid (fun W (hW : Below w.heap.size w W) => check_ok e W (hE.below hW) hk)
  have hn := Lib.hid (show w.heap.size ≤ w.heap.size + 1 + 1 + 1 by omega)
  have F := Pl.fit hk
  have d0 : 0 ≤ e.disturb ∧ e.disturb ≤ 1048576 := F.di
  have l2 : 1 ≤ e.lag2 := F.l2.1
  have l1 : 1 ≤ e.lag1 := F.l1.1
  have lE : 1 ≤ e.lagE := F.lE.1
  -- what each part is, as a letter
  obtain ⟨y1, hy1⟩ : ∃ x, Pl.num p.valve = x := ⟨_, rfl⟩
  obtain ⟨y2, hy2⟩ : ∃ x, Pl.num d.fuel = x := ⟨_, rfl⟩
  obtain ⟨v, hv⟩ : ∃ x, Pl.vl (en e) p d = x := ⟨_, rfl⟩
  obtain ⟨f, hf⟩ : ∃ x, Pl.fu (en e) p d = x := ⟨_, rfl⟩
  obtain ⟨l, hl⟩ : ∃ x, Pl.lt (en e) p d = x := ⟨_, rfl⟩
  obtain ⟨so, hso⟩ : ∃ x, (if d.start = true then e.starter else 0) = x := ⟨_, rfl⟩
  obtain ⟨T, hT⟩ : ∃ x, Pl.t2 (en e) p d = x := ⟨_, rfl⟩
  obtain ⟨TH, hTH⟩ : ∃ x, Pl.th (en e) p d = x := ⟨_, rfl⟩
  obtain ⟨M2, hM2⟩ : ∃ x, Pl.m2 (en e) p d = x := ⟨_, rfl⟩
  obtain ⟨A1, hA1⟩ : ∃ x, Tb.atO e.q.xs e.q.ys M2 = x := ⟨_, rfl⟩
  obtain ⟨M1, hM1⟩ : ∃ x, Pl.m1 (en e) p d = x := ⟨_, rfl⟩
  obtain ⟨MH, hMH⟩ : ∃ x, Pl.mh (en e) p d = x := ⟨_, rfl⟩
  have bT := Pl.t2_in (p := p) (d := d) F
  have bTH := Pl.th_in (p := p) (d := d) F
  have bp : 0 ≤ Tb.mx e.p.ys ∧ Tb.mx e.p.ys ≤ 1048576 := Tb.mx_bd F.ok.p.ok
  have bh : 0 ≤ Tb.mx e.h.ys ∧ Tb.mx e.h.ys ≤ 1048576 := Tb.mx_bd F.ok.h.ok
  have bst : 0 ≤ e.starter ∧ e.starter ≤ 1048576 := F.st
  have bA : 0 ≤ Tb.atO e.q.xs e.q.ys M2 ∧ Tb.atO e.q.xs e.q.ys M2 ≤ 1048576 := Tb.at_bd F.ok.q.ok M2
  have eT : Pl.t2 (en e) p d = if l = true then Tb.atv e.p.xs e.p.ys f else so := by
    rw [show Tb.atv e.p.xs e.p.ys f = Tb.atO e.p.xs e.p.ys f from atv_of F.ok.p.ok f, Pl.t2, hl, hf, ← hso]; rfl
  have eTH : Pl.th (en e) p d = if l = true then Tb.atv e.h.xs e.h.ys f else 0 := by
    rw [show Tb.atv e.h.xs e.h.ys f = Tb.atO e.h.xs e.h.ys f from atv_of F.ok.h.ok f, Pl.th, hl, hf]; rfl
  have eA : Tb.atv e.q.xs e.q.ys M2 = A1 := by rw [show Tb.atv e.q.xs e.q.ys M2 = Tb.atO e.q.xs e.q.ys M2 from atv_of F.ok.q.ok M2, hA1]
  have hT0 : 0 ≤ T ∧ T ≤ 1048576 := by
    have e1 : (max (Tb.mx (en e).py) (en e).starter) = max (Tb.mx e.p.ys) e.starter := rfl
    rw [hT, e1] at bT; omega
  have hTH0 : 0 ≤ TH ∧ TH ≤ 1048576 := by
    have e1 : Tb.mx (en e).hy = Tb.mx e.h.ys := rfl
    rw [hTH, e1] at bTH; omega
  rw [hA1] at bA
  have eM2 : Pl.on e.disturb e.lag2 p.n2 T d.g1 = M2 := by rw [← hM2, ← hT]; rfl
  have eM1 : Pl.on e.disturb e.lag1 p.n1 A1 d.g0 = M1 := by rw [← hM1, ← hA1, ← hM2]; rfl
  have eMH : Pl.on e.disturb e.lagE p.heat TH d.g2 = MH := by rw [← hMH, ← hTH]; rfl
  have eg : Pl.go (en e) p d = ⟨M1, M2, MH, v, l⟩ := by rw [Pl.go, hM1, hM2, hMH, hv, hl]
  have eL : lit e p d f = l := by rw [← hl, ← hf]; rfl
  have eF : (if d.opn = true then v else 0) = f := by rw [← hf, ← hv]; rfl
  have eV : Fx.slew y1 y2 e.slew = v := by rw [← hv, ← hy1, ← hy2]; rfl
  rw [eT] at hT
  rw [eTH] at hTH
  -- the calls
  have CG := Lib.hid (fun W => goes_c e.disturb W)
  have CY1 := Lib.hid (fun W => hy1 ▸ number_c p.valve W)
  have CY2 := Lib.hid (fun W => hy2 ▸ number_c d.fuel W)
  have CV := Lib.hid (fun W => eV ▸ FixC.slew_c y1 y2 e.slew W)
  have CF := Lib.hid (fun W => eF ▸ where_c d.opn v W)
  have CL := Lib.hid (fun W => eL ▸ burns_c e p d f W)
  have CS := Lib.hid (fun W => hso ▸ where_c d.start e.starter W)
  have CT := Lib.hid (fun W (hW : Below w.heap.size w W) => hT ▸ comes2_c e f l so W (hE.below hW).p)
  have CO2 := Lib.hid (fun b W (hb : W.heap[b]? = some (xo e.disturb)) => eM2 ▸ on_c e.disturb p.n2 T e.lag2 d.g1 b W hb d0.1 d0.2 l2 hT0.1 hT0.2)
  have CA := Lib.hid (fun W (hW : Below w.heap.size w W) => eA ▸ n1_c e M2 W (hE.below hW).q)
  have CO1 := Lib.hid (fun b W (hb : W.heap[b]? = some (xo e.disturb)) => eM1 ▸ on_c e.disturb p.n1 A1 e.lag1 d.g0 b W hb d0.1 d0.2 l1 bA.1 bA.2)
  have CTH := Lib.hid (fun W (hW : Below w.heap.size w W) => hTH ▸ comesh_c e f l 0 W (hE.below hW).h)
  have COH := Lib.hid (fun b W (hb : W.heap[b]? = some (xo e.disturb)) => eMH ▸ on_c e.disturb p.heat TH e.lagE d.g2 b W hb d0.1 d0.2 lE hTH0.1 hTH0.2)
  rw [eg]
  clear F d0 l2 l1 lE hy1 hy2 hv hf hl hso hT hTH hM2 hA1 hM1 hMH bT bTH bp bh bst bA eT eTH eA hT0 hTH0 eM2 eM1 eMH eg eL eF eV hE hk
  go_enter Try.func13, Try.ntmps13
  go_upto_region 3 with (first | (refine lde rfl _ rfl _ _ rfl HV.out.h4 ?_) | (go_at_call 17; (with_reducible refine (CK.out _ HV.out.old).mono ?_); rintro r W ⟨rfl, hb⟩; replace HV := Lib.hid (HV.out.grow hb); clear hb) | fail)
  clear CK
  go_cut [7, 8] (fun t u wx => ∃ g b, t = .pointer (some ⟨g, 0, none⟩) ∧ u = gf b ∧ w.heap.size + 1 + 1 + 1 < g ∧ Hv w wx (L6 g b w.heap.size e p d))
  case first =>
    refine wp_region_noPanic (Lk.wp_region_tree tree3 (fun V => EC V w.heap.size e) (by kernel_rfl) (by kernel_rfl) (fun _ _ _ _ _ h => h) (ec_of HV.out.h4) ?_)
    replace HV := Lib.hid HV.out.drew
    iterate 3 (refine Lk.tr_take ?_ rfl rfl ?_ ?_; rotate_left; (focus (intro w' hS; (try dsimp only at hS); first | (refine (rE hS.1 _ rfl rfl).trans ?_; with_reducible rfl) | (go_simp; try with_reducible rfl))); simp only [Act.put, List.setIfInBounds_toArray, List.set_cons_zero, List.set_cons_succ])
    have hs : w.heap.size + 1 + 1 + 1 < W.drew.heap.size := HV.out.lt List.mem_cons_self
    refine Lk.tr_two ?_ ?_
    · replace hs := Lib.hid hs
      refine Lk.stp_step rfl rfl (fun K hK => ?_)
      go_simp
      (with_reducible refine (CG.out _).mono ?_)
      rintro r W2 ⟨rfl, hw2⟩
      replace HV := Lib.hid (HV.out.made (xo e.disturb))
      rw [← hw2] at HV
      have hg := Lib.hid (show w.heap.size + 1 + 1 + 1 < W2.heap.size by have := hs.out; rw [hw2, World.size_alloc]; omega)
      clear hw2 hs
      generalize W.drew.heap.size = b at *
      refine hK.out _ _ (ec_of HV.out.tail.h4) ?_
      clear hK K
      try simp only [Act.put, List.setIfInBounds_toArray, List.set_cons_zero, List.set_cons_succ]
      refine Lk.tr_step rfl rfl (fun K hK => ?_)
      go_simp
      refine hK.out _ _ (ec_of (HV.out.alloc _).tail.h4) ?_
      clear hK K
      try simp only [Act.put, List.setIfInBounds_toArray, List.set_cons_zero, List.set_cons_succ]
      refine Lk.tr_step rfl rfl (fun K hK => ?_)
      refine stq _ _ rfl rfl W2.heap.size e rfl rfl (heap_alloc_last W2 _) ?_
      intro W3 hP hO
      replace HV := Lib.hid (HV.out.put hP hO)
      clear hP hO
      generalize W2.heap.size = g at *
      refine hK.out _ _ (ec_of HV.out.tail.tail.h4) ?_
      clear hK K
      try simp only [Act.put, List.setIfInBounds_toArray, List.set_cons_zero, List.set_cons_succ]
      iterate 1 (refine Lk.tr_take ?_ rfl rfl ?_ ?_; rotate_left; (focus (intro w' hS; (try dsimp only at hS); first | (refine (rE hS.1 _ rfl rfl).trans ?_; with_reducible rfl) | (go_simp; try with_reducible rfl))); simp only [Act.put, List.setIfInBounds_toArray, List.set_cons_zero, List.set_cons_succ])
      refine Lk.tr_nil (NoPanic.normal ?_)
      go_wp2_with fail
      go_meet
      case rel => exact ⟨g, b, rfl, rfl, hg.out, HV.out⟩
    · replace hs := Lib.hid hs
      refine Lk.stp_step rfl rfl (fun K hK => ?_)
      go_simp
      replace HV := Lib.hid (HV.out.made (.cells zc 57 (0, 0)))
      refine hK.out _ _ (ec_of HV.out.tail.h4) ?_
      clear hK K
      try simp only [Act.put, List.setIfInBounds_toArray, List.set_cons_zero, List.set_cons_succ]
      refine Lk.tr_step rfl rfl (fun K hK => ?_)
      go_simp
      (with_reducible refine (CG.out _).mono ?_)
      rintro r W3 ⟨rfl, hw2⟩
      replace HV := Lib.hid (hv_swap (HV.out.made (xo e.disturb)))
      rw [show (W.drew.alloc (.cells zc 57 (0, 0))).alloc (xo e.disturb) = W3 from hw2.symm, World.size_alloc] at HV
      clear hw2
      refine hK.out _ _ (ec_of HV.out.tail.tail.h4) ?_
      clear hK K
      try simp only [Act.put, List.setIfInBounds_toArray, List.set_cons_zero, List.set_cons_succ]
      refine Lk.tr_step rfl rfl (fun K hK => ?_)
      refine stq _ _ rfl rfl W.drew.heap.size e rfl rfl HV.out.head ?_
      intro W4 hP hO
      replace HV := Lib.hid (HV.out.change hO hP (by have h1 := hs.out; intro x hx; simp only [List.mem_cons, List.not_mem_nil, or_false] at hx; rcases hx with rfl | rfl | rfl | rfl | rfl <;> (dsimp only; omega)) (by have h1 := hs.out; omega))
      clear hP hO
      refine hK.out _ _ (ec_of HV.out.tail.tail.h4) ?_
      clear hK K
      try simp only [Act.put, List.setIfInBounds_toArray, List.set_cons_zero, List.set_cons_succ]
      iterate 1 (refine Lk.tr_take ?_ rfl rfl ?_ ?_; rotate_left; (focus (intro w' hS; (try dsimp only at hS); first | (refine (rE hS.1 _ rfl rfl).trans ?_; with_reducible rfl) | (go_simp; try with_reducible rfl))); simp only [Act.put, List.setIfInBounds_toArray, List.set_cons_zero, List.set_cons_succ])
      refine Lk.tr_nil (NoPanic.normal ?_)
      go_wp2_with fail
      go_meet
      case rel => exact ⟨W.drew.heap.size, W.drew.heap.size + 1, rfl, rfl, hs.out, HV.out⟩
  obtain ⟨g, b, rfl, rfl, hg, hv⟩ := hcut
  replace HV := Lib.hid hv
  have HG := Lib.hid (show g ≠ w.heap.size + 1 + 1 + 1 by omega)
  clear hv hg CG
  go_wp2_with fail
  refine wp_region_noPanic (Lk.wp_region_ordered ord4 (fun V => SF V g w.heap.size e p d) (by kernel_rfl) (by kernel_rfl) (fun _ _ _ _ _ h => h) (by first | (with_reducible exact (sf HV.out)) | (with_reducible exact (sf HV.out.drew))) ?_)
  replace HV := Lib.hid HV.out.drew
  iterate 6 (refine Lk.ord_take ?_ rfl rfl ?_ ?_; rotate_left; (focus (intro w' hS; (try dsimp only at hS); first | (refine (rQ hS.1 _ rfl rfl).trans ?_; with_reducible rfl) | (go_simp; try with_reducible rfl))); simp only [Act.put, List.setIfInBounds_toArray, List.set_cons_zero, List.set_cons_succ])
  refine Lk.ord_step rfl rfl (fun K hK => ?_)
  go_simp
  (with_reducible refine (CY1.out _).mono ?_)
  rintro r W ⟨rfl, rfl⟩
  refine hK.out _ _ (by first | (with_reducible exact (sf HV.out)) | (with_reducible exact (sf HV.out.drew))) ?_
  clear hK K
  try simp only [Act.put, List.setIfInBounds_toArray, List.set_cons_zero, List.set_cons_succ]
  refine Lk.ord_step rfl rfl (fun K hK => ?_)
  go_simp
  (with_reducible refine (CY2.out _).mono ?_)
  rintro r W ⟨rfl, rfl⟩
  refine hK.out _ _ (by first | (with_reducible exact (sf HV.out)) | (with_reducible exact (sf HV.out.drew))) ?_
  clear hK K
  try simp only [Act.put, List.setIfInBounds_toArray, List.set_cons_zero, List.set_cons_succ]
  refine Lk.ord_step rfl rfl (fun K hK => ?_)
  go_simp
  (with_reducible refine (CV.out _).mono ?_)
  rintro r W ⟨rfl, rfl⟩
  refine hK.out _ _ (by first | (with_reducible exact (sf HV.out)) | (with_reducible exact (sf HV.out.drew))) ?_
  clear hK K
  try simp only [Act.put, List.setIfInBounds_toArray, List.set_cons_zero, List.set_cons_succ]
  iterate 1 (refine Lk.ord_take ?_ rfl rfl ?_ ?_; rotate_left; (focus (intro w' hS; (try dsimp only at hS); first | (refine (rQ hS.1 _ rfl rfl).trans ?_; with_reducible rfl) | (go_simp; try with_reducible rfl))); simp only [Act.put, List.setIfInBounds_toArray, List.set_cons_zero, List.set_cons_succ])
  refine Lk.ord_nil (NoPanic.normal ?_)
  clear CY1 CY2 CV
  have x1 := Joins.cell_of_block HV.out.h4 1
  simp only [List.getElem?_toArray, List.getElem?_cons_zero, List.getElem?_cons_succ] at x1
  go_wp2_with (first | (go_at_call 33; (with_reducible refine (CF.out _).mono ?_); rintro r W ⟨rfl, rfl⟩) | (refine lde rfl _ rfl _ _ rfl HV.out.tail.tail.h4 ?_) | (refine ldp rfl _ rfl _ _ rfl HV.out.tail.h4 ?_) | (refine ldd rfl _ rfl _ _ rfl HV.out.h4 ?_) | (go_at_call 34; (with_reducible refine (CL.out _).mono ?_); rintro r W ⟨rfl, hb⟩; replace HV := Lib.hid (HV.out.grow hb); clear hb) | fail)
  clear CF CL x1
  refine wp_region_noPanic (Lk.wp_region_ordered ord7 (fun V => SF V g w.heap.size e p d) (by kernel_rfl) (by kernel_rfl) (fun _ _ _ _ _ h => h) (by first | (with_reducible exact (sf HV.out)) | (with_reducible exact (sf HV.out.drew))) ?_)
  replace HV := Lib.hid HV.out.drew
  iterate 16 (refine Lk.ord_take ?_ rfl rfl ?_ ?_; rotate_left; (focus (intro w' hS; (try dsimp only at hS); first | (refine (rQ hS.1 _ rfl rfl).trans ?_; with_reducible rfl) | (go_simp; try with_reducible rfl))); simp only [Act.put, List.setIfInBounds_toArray, List.set_cons_zero, List.set_cons_succ])
  refine Lk.ord_step rfl rfl (fun K hK => ?_)
  go_simp
  (with_reducible refine (CS.out _).mono ?_)
  rintro r W ⟨rfl, rfl⟩
  refine hK.out _ _ (by first | (with_reducible exact (sf HV.out)) | (with_reducible exact (sf HV.out.drew))) ?_
  clear hK K
  try simp only [Act.put, List.setIfInBounds_toArray, List.set_cons_zero, List.set_cons_succ]
  refine Lk.ord_step rfl rfl (fun K hK => ?_)
  go_simp
  (with_reducible refine (CT.out _ HV.out.old).mono ?_)
  rintro r W ⟨rfl, hb⟩
  replace HV := Lib.hid (HV.out.grow hb)
  clear hb
  refine hK.out _ _ (by first | (with_reducible exact (sf HV.out)) | (with_reducible exact (sf HV.out.drew))) ?_
  clear hK K
  try simp only [Act.put, List.setIfInBounds_toArray, List.set_cons_zero, List.set_cons_succ]
  refine Lk.ord_step rfl rfl (fun K hK => ?_)
  go_simp
  (with_reducible refine (CO2.out _ _ HV.out.h2).mono ?_)
  rintro r W ⟨rfl, hb⟩
  replace HV := Lib.hid (HV.out.grow hb)
  clear hb
  refine hK.out _ _ (by first | (with_reducible exact (sf HV.out)) | (with_reducible exact (sf HV.out.drew))) ?_
  clear hK K
  try simp only [Act.put, List.setIfInBounds_toArray, List.set_cons_zero, List.set_cons_succ]
  iterate 1 (refine Lk.ord_take ?_ rfl rfl ?_ ?_; rotate_left; (focus (intro w' hS; (try dsimp only at hS); first | (refine (rQ hS.1 _ rfl rfl).trans ?_; with_reducible rfl) | (go_simp; try with_reducible rfl))); simp only [Act.put, List.setIfInBounds_toArray, List.set_cons_zero, List.set_cons_succ])
  refine Lk.ord_nil (NoPanic.normal ?_)
  clear CS CT CO2
  go_wp2_with fail
  refine wp_region_noPanic (Lk.wp_region_ordered ord8 (fun V => SF V g w.heap.size e p d) (by kernel_rfl) (by kernel_rfl) (fun _ _ _ _ _ h => h) (by first | (with_reducible exact (sf HV.out)) | (with_reducible exact (sf HV.out.drew))) ?_)
  replace HV := Lib.hid HV.out.drew
  iterate 25 (refine Lk.ord_take ?_ rfl rfl ?_ ?_; rotate_left; (focus (intro w' hS; (try dsimp only at hS); first | (refine (rQ hS.1 _ rfl rfl).trans ?_; with_reducible rfl) | (go_simp; try with_reducible rfl))); simp only [Act.put, List.setIfInBounds_toArray, List.set_cons_zero, List.set_cons_succ])
  refine Lk.ord_step rfl rfl (fun K hK => ?_)
  go_simp
  (with_reducible refine (CA.out _ HV.out.old).mono ?_)
  rintro r W ⟨rfl, hb⟩
  replace HV := Lib.hid (HV.out.grow hb)
  clear hb
  refine hK.out _ _ (by first | (with_reducible exact (sf HV.out)) | (with_reducible exact (sf HV.out.drew))) ?_
  clear hK K
  try simp only [Act.put, List.setIfInBounds_toArray, List.set_cons_zero, List.set_cons_succ]
  refine Lk.ord_step rfl rfl (fun K hK => ?_)
  go_simp
  (with_reducible refine (CO1.out _ _ HV.out.h2).mono ?_)
  rintro r W ⟨rfl, hb⟩
  replace HV := Lib.hid (HV.out.grow hb)
  clear hb
  refine hK.out _ _ (by first | (with_reducible exact (sf HV.out)) | (with_reducible exact (sf HV.out.drew))) ?_
  clear hK K
  try simp only [Act.put, List.setIfInBounds_toArray, List.set_cons_zero, List.set_cons_succ]
  refine Lk.ord_step rfl rfl (fun K hK => ?_)
  go_simp
  (with_reducible refine (CTH.out _ HV.out.old).mono ?_)
  rintro r W ⟨rfl, hb⟩
  replace HV := Lib.hid (HV.out.grow hb)
  clear hb
  refine hK.out _ _ (by first | (with_reducible exact (sf HV.out)) | (with_reducible exact (sf HV.out.drew))) ?_
  clear hK K
  try simp only [Act.put, List.setIfInBounds_toArray, List.set_cons_zero, List.set_cons_succ]
  refine Lk.ord_step rfl rfl (fun K hK => ?_)
  go_simp
  (with_reducible refine (COH.out _ _ HV.out.h2).mono ?_)
  rintro r W ⟨rfl, hb⟩
  replace HV := Lib.hid (HV.out.grow hb)
  clear hb
  refine hK.out _ _ (by first | (with_reducible exact (sf HV.out)) | (with_reducible exact (sf HV.out.drew))) ?_
  clear hK K
  try simp only [Act.put, List.setIfInBounds_toArray, List.set_cons_zero, List.set_cons_succ]
  iterate 1 (refine Lk.ord_take ?_ rfl rfl ?_ ?_; rotate_left; (focus (intro w' hS; (try dsimp only at hS); first | (refine (rQ hS.1 _ rfl rfl).trans ?_; with_reducible rfl) | (go_simp; try with_reducible rfl))); simp only [Act.put, List.setIfInBounds_toArray, List.set_cons_zero, List.set_cons_succ])
  refine Lk.ord_step rfl rfl (fun K hK => ?_)
  refine stpK _ _ rfl rfl _ ⟨0, 0, 0, 0, false⟩ ⟨M1, M2, MH, v, l⟩ rfl rfl HV.out.h3 ?_
  intro W9 hP hO
  have HP := Lib.hid hP
  have HB := Lib.hid (HV.out.old.trans (hO.below hn.out))
  refine hK.out _ _ (sf_off (sf HV.out) hO HG.out) ?_
  clear hK K hP hO
  try simp only [Act.put, List.setIfInBounds_toArray, List.set_cons_zero, List.set_cons_succ]
  refine Lk.ord_nil (NoPanic.normal ?_)
  go_wp2_with fail
  refine bodyPost_ret (res_p rfl _ _ _ _ rfl HP.out) rfl ?_
  exact ⟨rfl, HB.out⟩

/-- **Step**. -/
theorem step_c (e : Eg) (p : Pl.Pt) (d : Pl.Dr) (w : World) (hE : EngIn w e) : Calls Try.prog 13 #[.agg (ec e), .agg (pc p), .agg (dc d)] w fun r w' => r = .returned (.agg (pc (Pl.step (en e) p d))) ∧ Below w.heap.size w w' := by
  cases hk : Em.okB (en e) with
  | true => have := step_ok e p d w hE hk; rwa [show Pl.go (en e) p d = Pl.step (en e) p d from by rw [Pl.step, if_pos hk]] at this
  | false => have := step_no e p d w hE hk; rwa [show Pl.Pt.zero = Pl.step (en e) p d from by rw [Pl.step, hk]; rfl] at this
/-- The same with what it answers as a letter. -/
theorem step_v {e : Eg} {p q : Pl.Pt} {d : Pl.Dr} {w : World} (h : Pl.step (en e) p d = q) (hE : EngIn w e) : Calls Try.prog 13 #[.agg (ec e), .agg (pc p), .agg (dc d)] w fun r w' => r = .returned (.agg (pc q)) ∧ Below w.heap.size w w' := h ▸ step_c e p d w hE

end Plw
end Go.Proofs.Ytioiffhbbhlgeaa
