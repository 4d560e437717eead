/- The document's Step. Printed by gen_ref2.py. -/
import Derived.Test.YtioiffhbbhlgeaaPlantRef
namespace Go.Proofs.Ytioiffhbbhlgeaa
namespace Plw
open Go.RowKit TabC Lk Ew

section
variable {ops : Array Oper} {rest : List Oper} {op : Oper} {a : Act} {w : World} {Q : Exit → Act → World → Prop} {K : Act → World → Prop}
/-- A cell, loaded; a table out of an engine's block. -/
theorem ldi (hw : Region.wanted op (yielded ops a.tmps) = true) (x : Operand) (ho : op.op = .load 3 x) (b k : Nat) (v : Int) (hx : a.eval x = .pointer (some ⟨b, k, none⟩)) (hP : w.cell? ⟨b, k, none⟩ = some (.int .i64 v))
    (c : wpList Try.prog ops Q rest (a.put op.dst (.int .i64 v)) w) : wpList Try.prog ops Q (op :: rest) a w := by
  refine Lk.wanted hw fun _ hK => ?_
  unfold Oper.wp execOp
  simp only [ho, hx, Instr.loadAt, Instr.sureAddr, Sem.run_bind, Sem.run_pure, Result.andThen_ok]
  simp [go_sem, hP]
  exact hK _ _ c
theorem ldb (hw : Region.wanted op (yielded ops a.tmps) = true) (x : Operand) (ho : op.op = .load 4 x) (b k : Nat) (v : Bool) (hx : a.eval x = .pointer (some ⟨b, k, none⟩)) (hP : w.cell? ⟨b, k, none⟩ = some (.bool v))
    (c : wpList Try.prog ops Q rest (a.put op.dst (.bool v)) w) : wpList Try.prog ops Q (op :: rest) a w := by
  refine Lk.wanted hw fun _ hK => ?_
  unfold Oper.wp execOp
  simp only [ho, hx, Instr.loadAt, Instr.sureAddr, Sem.run_bind, Sem.run_pure, Result.andThen_ok]
  simp [go_sem, hP]
  exact hK _ _ c
theorem ldt (hw : Region.wanted op (yielded ops a.tmps) = true) (x : Operand) (ho : op.op = .load 24 x) (b k : Nat) (t : Tv) (hx : a.eval x = .pointer (some ⟨b, k, none⟩)) (hP : w.rangeAt b k (tc t).toList)
    (c : wpList Try.prog ops Q rest (a.put op.dst (.agg (tc t))) w) : wpList Try.prog ops Q (op :: rest) a w := by
  refine Lk.wanted hw fun _ hK => ?_
  unfold Oper.wp execOp
  simp only [ho, hx, Instr.loadAt, Instr.sureAddr, Sem.run_bind, Sem.run_pure, Result.andThen_ok, run_loadVar_mid w b k 24 (tc t).toList _ hP Try.underlying24 rfl info_t]
  exact hK _ _ c
/-- A plant's cell, stored. -/
theorem stiK (x y : Operand) (ho : op.op = .store 3 x y) (hd : op.dst = none)
    (g i : Nat) (q q' : Pl.Pt) (n u : Int) (hx : a.eval x = .pointer (some ⟨g, i, none⟩)) (hy : a.eval y = .int .i64 n) (hP : w.heap[g]? = some (po q)) (hc : (pc q)[i]? = some (.int .i64 u)) (hq : (pc q).setIfInBounds i (.int .i64 n) = pc q')
    (h : ∀ w', w'.heap[g]? = some (po q') → Off g w w' → K a w') : op.wp Try.prog a w K Q := by
  have c : w.cell? ⟨g, i, none⟩ = some (.int .i64 u) := (Joins.cell_of_block hP i).trans hc
  have f := Joins.unfrozen_of_block hP i
  have hB := Joins.block_setCell hP (i := i) (.int .i64 n)
  rw [hq] at hB
  have H := h _ hB ((Off.refl g w).set i (.int .i64 n))
  unfold Oper.wp execOp
  simp only [ho, hx, hy, Instr.storeAt, Instr.sureAddr, Sem.run_bind, Sem.run_pure, Result.andThen_ok]
  simp [go_sem, c, f, hd]
  exact H
theorem sti (hgd : op.guard = none) (x y : Operand) (ho : op.op = .store 3 x y) (hd : op.dst = none)
    (g i : Nat) (q q' : Pl.Pt) (n u : Int) (hx : a.eval x = .pointer (some ⟨g, i, none⟩)) (hy : a.eval y = .int .i64 n) (hP : w.heap[g]? = some (po q)) (hc : (pc q)[i]? = some (.int .i64 u)) (hq : (pc q).setIfInBounds i (.int .i64 n) = pc q')
    (h : ∀ w', w'.heap[g]? = some (po q') → Off g w w' → wpList Try.prog ops Q rest a w') : wpList Try.prog ops Q (op :: rest) a w :=
  wpList_plain hgd fun _ hK => stiK x y ho hd g i q q' n u hx hy hP hc hq fun w' h1 h2 => hK _ _ (h w' h1 h2)
theorem stb (hgd : op.guard = none) (x y : Operand) (ho : op.op = .store 4 x y) (hd : op.dst = none)
    (g i : Nat) (q q' : Pl.Pt) (n u : Bool) (hx : a.eval x = .pointer (some ⟨g, i, none⟩)) (hy : a.eval y = .bool n) (hP : w.heap[g]? = some (po q)) (hc : (pc q)[i]? = some (.bool u)) (hq : (pc q).setIfInBounds i (.bool n) = pc q')
    (h : ∀ w', w'.heap[g]? = some (po q') → Off g w w' → wpList Try.prog ops Q rest a w') : wpList Try.prog ops Q (op :: rest) a w := by
  have c : w.cell? ⟨g, i, none⟩ = some (.bool u) := (Joins.cell_of_block hP i).trans hc
  have f := Joins.unfrozen_of_block hP i
  refine wpList_plain hgd fun _ hK => ?_
  have hB := Joins.block_setCell hP (i := i) (.bool n)
  rw [hq] at hB
  have H := hK _ _ (h _ hB ((Off.refl g w).set i (.bool n)))
  unfold Oper.wp execOp
  simp only [ho, hx, hy, Instr.storeAt, Instr.sureAddr, Sem.run_bind, Sem.run_pure, Result.andThen_ok]
  simp [go_sem, c, f, hd]
  exact H
end
theorem eo_p {W : World} {b : Nat} {e : Eg} (h : W.heap[b]? = some (eo e)) : W.rangeAt b 2 (tc e.p).toList := fun j v hv => by
  have hj : j < 2 := (List.getElem?_eq_some_iff.1 hv).1
  obtain rfl | rfl : j = 0 ∨ j = 1 := by omega
  · exact (Joins.cell_of_block h 2).trans hv
  · exact (Joins.cell_of_block h 3).trans hv
theorem eo_q {W : World} {b : Nat} {e : Eg} (h : W.heap[b]? = some (eo e)) : W.rangeAt b 4 (tc e.q).toList := fun j v hv => by
  have hj : j < 2 := (List.getElem?_eq_some_iff.1 hv).1
  obtain rfl | rfl : j = 0 ∨ j = 1 := by omega
  · exact (Joins.cell_of_block h 4).trans hv
  · exact (Joins.cell_of_block h 5).trans hv
theorem eo_h {W : World} {b : Nat} {e : Eg} (h : W.heap[b]? = some (eo e)) : W.rangeAt b 6 (tc e.h).toList := fun j v hv => by
  have hj : j < 2 := (List.getElem?_eq_some_iff.1 hv).1
  obtain rfl | rfl : j = 0 ∨ j = 1 := by omega
  · exact (Joins.cell_of_block h 6).trans hv
  · exact (Joins.cell_of_block h 7).trans hv

/-- The boxes of the document's Step, its own plant behind them. -/
abbrev K5 (g s : Nat) (q : Pl.Pt) (e : Eg) (p : Pl.Pt) (d : Pl.Dr) : List (Nat × Obj) := (g, po q) :: L4 s e p d
theorem k5_put {w W W' : World} {g s : Nat} {q r : Pl.Pt} {e : Eg} {p : Pl.Pt} {d : Pl.Dr} (h : Hv w W (K5 g s q e p d)) (hO : Off g W W') (hP : W'.heap[g]? = some (po r)) (hg : s + 1 + 1 + 1 < g) (hs : w.heap.size ≤ s) : Hv w W' (K5 g s r e p d) :=
  h.change hO hP (by intro x hx; simp only [List.mem_cons, List.not_mem_nil, or_false] at hx; rcases hx with rfl | rfl | rfl | rfl <;> (dsimp only; omega)) (by omega)
/-- What is loaded in region 3; in region 16. -/
abbrev SR (V : World) (s : Nat) (e : Eg) (p : Pl.Pt) (d : Pl.Dr) : Prop := V.cell? ⟨s, 11, none⟩ = some (.int .i64 e.slew) ∧ V.cell? ⟨s + 1, 3, none⟩ = some (.int .i64 p.valve) ∧ V.cell? ⟨s + 1 + 1, 0, none⟩ = some (.int .i64 d.fuel)
theorem sr {w V : World} {s : Nat} {e : Eg} {p : Pl.Pt} {d : Pl.Dr} (h : Hv w V (L4 s e p d)) : SR V s e p d := ⟨Joins.cell_of_block h.h4 11, Joins.cell_of_block h.h3 3, Joins.cell_of_block h.h2 0⟩
abbrev SR2 (V : World) (g s : Nat) (q : Pl.Pt) (e : Eg) (p : Pl.Pt) (d : Pl.Dr) : Prop := V.heap[s]? = some (eo e) ∧ V.cell? ⟨s, 4, none⟩ = some (.slice e.q.A e.q.xs.length e.q.ca) ∧ V.cell? ⟨s, 5, none⟩ = some (.slice e.q.B e.q.ys.length e.q.cb) ∧ V.cell? ⟨s, 9, none⟩ = some (.int .i64 e.lag1) ∧ V.cell? ⟨s + 1, 0, none⟩ = some (.int .i64 p.n1) ∧ V.cell? ⟨s + 1 + 1, 4, none⟩ = some (.int .i64 d.g0) ∧ V.cell? ⟨g, 1, none⟩ = some (.int .i64 q.n2)
theorem sr2 {w V : World} {g s : Nat} {q : Pl.Pt} {e : Eg} {p : Pl.Pt} {d : Pl.Dr} (h : Hv w V (K5 g s q e p d)) : SR2 V g s q e p d :=
  ⟨h.tail.h4, Joins.cell_of_block h.tail.h4 4, Joins.cell_of_block h.tail.h4 5, Joins.cell_of_block h.tail.h4 9, Joins.cell_of_block h.h4 0, Joins.cell_of_block h.h3 4, Joins.cell_of_block h.head 1⟩
theorem sr2_off {V V' : World} {g s : Nat} {q : Pl.Pt} {e : Eg} {p : Pl.Pt} {d : Pl.Dr} (h : SR2 V g s q e p d) (ho : Off g V V') (hg : s + 1 + 1 + 1 < g) (hq : V'.cell? ⟨g, 1, none⟩ = some (.int .i64 q.n2)) : SR2 V' g s q e p d := by
  obtain ⟨h0, h1, h2, h3, h4, h5, _⟩ := h
  exact ⟨(ho.block s (by omega)).trans h0, (ho.cell (show s ≠ g by omega)).trans h1, (ho.cell (show s ≠ g by omega)).trans h2, (ho.cell (show s ≠ g by omega)).trans h3, (ho.cell (show s + 1 ≠ g by omega)).trans h4, (ho.cell (show s + 1 + 1 ≠ g by omega)).trans h5, hq⟩

set_option maxRecDepth 100000 in
set_option maxHeartbeats 16000000 in
theorem rstep_no (e : Eg) (p : Pl.Pt) (d : Pl.Dr) (w : World) (hE : EngIn w e) (hk : Em.okB (en e) = false) : Calls Try.prog 14 #[.agg (ec e), .agg (pc p), .agg (dc d)] w fun r w' => r = .returned (.agg (pc Pl.Pt.zero)) ∧ Below w.heap.size w w' := by
  have HV := Lib.hid (four_b w e p d)
  have CK := Lib.hid (fun W (hW : Below w.heap.size w W) => rcheck_no e W (hE.below hW) hk)
  have hn := Lib.hid (show w.heap.size ≤ w.heap.size + 1 + 1 + 1 by omega)
  clear hE hk
  go_enter Try.func14, Try.ntmps14
  go_wp2_with (first | (refine lde rfl _ rfl _ _ rfl HV.out.h4 ?_) | (go_at_call 27; (with_reducible refine (CK.out _ HV.out.old).mono ?_); rintro r W ⟨rfl, hb⟩; replace HV := Lib.hid (HV.out.grow hb); clear hb) | (refine stp rfl _ _ rfl rfl _ Pl.Pt.zero Pl.Pt.zero rfl rfl HV.out.head ?_; intro w' hP hO; replace HV := Lib.hid (HV.out.old.trans (hO.below hn.out)); replace hP := Lib.hid hP; clear hO) | fail)
  refine bodyPost_ret (res_p rfl _ _ _ _ rfl hP.out) rfl ?_
  exact ⟨rfl, HV.out⟩

theorem rtree3 : Lk.treeB (Lk.opsOf Try.f14 3) (.one 0 false (.one 1 false (.one 3 false (.one 4 false (.one 6 false (.one 7 false (.two 2 10 (.two 5 10 (.two 8 10 (.one 9 false (.one 10 true (.one 11 true .nil))) (.one 8 true (.one 9 false (.one 11 true .nil)))) (.one 5 true (.one 8 true (.one 9 false (.one 11 true .nil))))) (.one 2 true (.one 5 true (.one 8 true (.one 9 false (.one 11 true .nil)))))))))))) = true := by kernel_rfl

theorem rord16 : Lk.orderedB (Lk.opsOf Try.f14 16) [(0, false), (1, false), (2, false), (3, false), (4, false), (5, false), (6, false), (8, false), (9, false), (10, false), (11, false), (12, false), (7, true), (13, true), (14, false), (15, true)] = true := by kernel_rfl
set_option maxRecDepth 100000 in
set_option maxHeartbeats 16000000 in
theorem rstep_ok (e : Eg) (p : Pl.Pt) (d : Pl.Dr) (w : World) (hE : EngIn w e) (hk : Em.okB (en e) = true) : Calls Try.prog 14 #[.agg (ec e), .agg (pc p), .agg (dc d)] w fun r w' => r = .returned (.agg (pc (Pl.go (en e) p d))) ∧ Below w.heap.size w w' := by
  have HV : Hid (Hv w ((((w.alloc (eo e)).alloc (po p)).alloc (dro d)).alloc zo) (L4 w.heap.size e p d)) := Lib.hid (four_b w e p d)
  have CK := Lib.hid (fun W (hW : Below w.heap.size w W) => rcheck_ok e W (hE.below hW) hk)
  have hn := Lib.hid (Nat.le_refl w.heap.size)
  have F := Pl.fit hk
  have d0 : 0 ≤ e.disturb ∧ e.disturb ≤ 1048576 := F.di
  have l2 : 1 ≤ e.lag2 := F.l2.1
  have l1 : 1 ≤ e.lag1 := F.l1.1
  have lE : 1 ≤ e.lagE := F.lE.1
  obtain ⟨y1, hy1⟩ : ∃ x, Pl.num p.valve = x := ⟨_, rfl⟩
  obtain ⟨y2, hy2⟩ : ∃ x, Pl.num d.fuel = x := ⟨_, rfl⟩
  obtain ⟨v, hv⟩ : ∃ x, Pl.vl (en e) p d = x := ⟨_, rfl⟩
  obtain ⟨f, hf⟩ : ∃ x, Pl.fu (en e) p d = x := ⟨_, rfl⟩
  obtain ⟨l, hl⟩ : ∃ x, Pl.lt (en e) p d = x := ⟨_, rfl⟩
  obtain ⟨T, hT⟩ : ∃ x, Pl.t2 (en e) p d = x := ⟨_, rfl⟩
  obtain ⟨TH, hTH⟩ : ∃ x, Pl.th (en e) p d = x := ⟨_, rfl⟩
  obtain ⟨M2, hM2⟩ : ∃ x, Pl.m2 (en e) p d = x := ⟨_, rfl⟩
  obtain ⟨A1, hA1⟩ : ∃ x, Tb.atO e.q.xs e.q.ys M2 = x := ⟨_, rfl⟩
  obtain ⟨M1, hM1⟩ : ∃ x, Pl.m1 (en e) p d = x := ⟨_, rfl⟩
  obtain ⟨MH, hMH⟩ : ∃ x, Pl.mh (en e) p d = x := ⟨_, rfl⟩
  have bT := Pl.t2_in (p := p) (d := d) F
  have bTH := Pl.th_in (p := p) (d := d) F
  have bp : 0 ≤ Tb.mx e.p.ys ∧ Tb.mx e.p.ys ≤ 1048576 := Tb.mx_bd F.ok.p.ok
  have bh : 0 ≤ Tb.mx e.h.ys ∧ Tb.mx e.h.ys ≤ 1048576 := Tb.mx_bd F.ok.h.ok
  have bst : 0 ≤ e.starter ∧ e.starter ≤ 1048576 := F.st
  have bA : 0 ≤ Tb.atO e.q.xs e.q.ys M2 ∧ Tb.atO e.q.xs e.q.ys M2 ≤ 1048576 := Tb.at_bd F.ok.q.ok M2
  have eT : Pl.t2 (en e) p d = if l = true then Tb.atv e.p.xs e.p.ys f else if d.start = true then e.starter else 0 := by
    rw [show Tb.atv e.p.xs e.p.ys f = Tb.atO e.p.xs e.p.ys f from atv_of F.ok.p.ok f, Pl.t2, hl, hf]; rfl
  have eTH : Pl.th (en e) p d = if l = true then Tb.atv e.h.xs e.h.ys f else 0 := by
    rw [show Tb.atv e.h.xs e.h.ys f = Tb.atO e.h.xs e.h.ys f from atv_of F.ok.h.ok f, Pl.th, hl, hf]; rfl
  have eA : Tb.atv e.q.xs e.q.ys M2 = A1 := by rw [show Tb.atv e.q.xs e.q.ys M2 = Tb.atO e.q.xs e.q.ys M2 from atv_of F.ok.q.ok M2, hA1]
  have hT0 : 0 ≤ T ∧ T ≤ 1048576 := by
    have e1 : (max (Tb.mx (en e).py) (en e).starter) = max (Tb.mx e.p.ys) e.starter := rfl
    rw [hT, e1] at bT; omega
  have hTH0 : 0 ≤ TH ∧ TH ≤ 1048576 := by
    have e1 : Tb.mx (en e).hy = Tb.mx e.h.ys := rfl
    rw [hTH, e1] at bTH; omega
  rw [hA1] at bA
  have eM2 : Pl.on e.disturb e.lag2 p.n2 T d.g1 = M2 := by rw [← hM2, ← hT]; rfl
  have eM1 : Pl.on e.disturb e.lag1 p.n1 A1 d.g0 = M1 := by rw [← hM1, ← hA1, ← hM2]; rfl
  have eMH : Pl.on e.disturb e.lagE p.heat TH d.g2 = MH := by rw [← hMH, ← hTH]; rfl
  have eg : Pl.go (en e) p d = ⟨M1, M2, MH, v, l⟩ := by rw [Pl.go, hM1, hM2, hMH, hv, hl]
  have eL : lit e p d f = l := by rw [← hl, ← hf]; rfl
  have eF : (if d.opn = true then v else 0) = f := by rw [← hf, ← hv]; rfl
  have eV : Fx.slew y1 y2 e.slew = v := by rw [← hv, ← hy1, ← hy2]; rfl
  rw [eT] at hT
  rw [eTH] at hTH
  have CY1 := Lib.hid (fun W => hy1 ▸ rnumber_c p.valve W)
  have CY2 := Lib.hid (fun W => hy2 ▸ rnumber_c d.fuel W)
  have CV := Lib.hid (fun W => eV ▸ FixC.rslew_c y1 y2 e.slew W)
  have CP := Lib.hid (fun W (hW : Below w.heap.size w W) => rat_c e.p.A e.p.B e.p.ca e.p.cb e.p.xs e.p.ys f W (hE.below hW).p)
  have CH := Lib.hid (fun W (hW : Below w.heap.size w W) => rat_c e.h.A e.h.B e.h.ca e.h.cb e.h.xs e.h.ys f W (hE.below hW).h)
  have CQ := Lib.hid (fun W (hW : Below w.heap.size w W) => eA ▸ rat_c e.q.A e.q.B e.q.ca e.q.cb e.q.xs e.q.ys M2 W (hE.below hW).q)
  have CO2 := Lib.hid (fun W => eM2 ▸ ron_c e p.n2 T e.lag2 d.g1 W d0.1 d0.2 l2 hT0.1 hT0.2)
  have CO1 := Lib.hid (fun W => eM1 ▸ ron_c e p.n1 A1 e.lag1 d.g0 W d0.1 d0.2 l1 bA.1 bA.2)
  have COH := Lib.hid (fun W => eMH ▸ ron_c e p.heat TH e.lagE d.g2 W d0.1 d0.2 lE hTH0.1 hTH0.2)
  generalize Tb.atv e.p.xs e.p.ys f = AP at *
  generalize Tb.atv e.h.xs e.h.ys f = AH at *
  have HL := Lib.hid eL
  have HF := Lib.hid eF
  have HT := Lib.hid hT
  have HTH := Lib.hid hTH
  rw [eg]
  clear F d0 l2 l1 lE hy1 hy2 hv hf hl hT hTH hM2 hA1 hM1 hMH bT bTH bp bh bst bA eT eTH eA hT0 hTH0 eM2 eM1 eMH eg eL eF eV hE hk
  go_enter Try.func14, Try.ntmps14
  go_upto_region 3 with (first | (refine lde rfl _ rfl _ _ rfl HV.out.h4 ?_) | (go_at_call 27; (with_reducible refine (CK.out _ HV.out.old).mono ?_); rintro r W ⟨rfl, hb⟩; replace HV := Lib.hid (HV.out.grow hb); clear hb) | fail)
  clear CK
  go_cut [7] (fun t wx => ∃ g, t = .pointer (some ⟨g, 0, none⟩) ∧ w.heap.size + 1 + 1 + 1 < g ∧ Hv w wx (K5 g w.heap.size ⟨0, 0, 0, v, false⟩ e p d))
  case first =>
    refine wp_region_noPanic (Lk.wp_region_tree rtree3 (fun V => SR V w.heap.size e p d) (by kernel_rfl) (by kernel_rfl) (fun _ _ _ _ _ h => h) (sr HV.out.drew) ?_)
    replace HV := Lib.hid HV.out.drew
    have hs := Lib.hid (show w.heap.size + 1 + 1 + 1 < W.drew.heap.size from HV.out.lt List.mem_cons_self)
    generalize W.drew = V at *
    iterate 6 (refine Lk.tr_take ?_ rfl rfl ?_ ?_; rotate_left; (focus (intro w' hS; (try dsimp only at hS); (go_simp; try with_reducible rfl))); simp only [Act.put, List.setIfInBounds_toArray, List.set_cons_zero, List.set_cons_succ])
    refine Lk.tr_two ?_ ?_
    · skip
      refine Lk.stp_step rfl rfl (fun K hK => ?_)
      go_simp
      (with_reducible refine (CY1.out _).mono ?_)
      rintro r W2 ⟨rfl, rfl⟩
      refine hK.out _ _ (sr HV.out) ?_
      clear hK K
      try simp only [Act.put, List.setIfInBounds_toArray, List.set_cons_zero, List.set_cons_succ]
      refine Lk.tr_two ?_ ?_
      · skip
        refine Lk.stp_step rfl rfl (fun K hK => ?_)
        go_simp
        (with_reducible refine (CY2.out _).mono ?_)
        rintro r W2 ⟨rfl, rfl⟩
        refine hK.out _ _ (sr HV.out) ?_
        clear hK K
        try simp only [Act.put, List.setIfInBounds_toArray, List.set_cons_zero, List.set_cons_succ]
        refine Lk.tr_two ?_ ?_
        · skip
          refine Lk.stp_step rfl rfl (fun K hK => ?_)
          go_simp
          (with_reducible refine (CV.out _).mono ?_)
          rintro r W2 ⟨rfl, rfl⟩
          refine hK.out _ _ (sr HV.out) ?_
          clear hK K
          try simp only [Act.put, List.setIfInBounds_toArray, List.set_cons_zero, List.set_cons_succ]
          iterate 1 (refine Lk.tr_take ?_ rfl rfl ?_ ?_; rotate_left; (focus (intro w' hS; (try dsimp only at hS); (go_simp; try with_reducible rfl))); simp only [Act.put, List.setIfInBounds_toArray, List.set_cons_zero, List.set_cons_succ])
          refine Lk.tr_step rfl rfl (fun K hK => ?_)
          go_simp
          replace HV := Lib.hid (HV.out.made zo)
          refine hK.out _ _ (sr HV.out.tail) ?_
          clear hK K
          try simp only [Act.put, List.setIfInBounds_toArray, List.set_cons_zero, List.set_cons_succ]
          refine Lk.tr_step rfl rfl (fun K hK => ?_)
          refine stpK _ _ rfl rfl V.heap.size ⟨0, 0, 0, 0, false⟩ ⟨0, 0, 0, v, false⟩ rfl rfl HV.out.head ?_
          intro W4 hP hO
          replace HV := Lib.hid (k5_put (q := ⟨0, 0, 0, 0, false⟩) HV.out hO hP hs.out hn.out)
          clear hP hO
          refine hK.out _ _ (sr HV.out.tail) ?_
          clear hK K
          try simp only [Act.put, List.setIfInBounds_toArray, List.set_cons_zero, List.set_cons_succ]
          refine Lk.tr_nil (NoPanic.normal ?_)
          go_wp2_with fail
          go_meet
          case rel => exact ⟨_, rfl, hs.out, HV.out⟩
        · skip
          refine Lk.stp_step rfl rfl (fun K hK => ?_)
          go_simp
          replace HV := Lib.hid (HV.out.made zo)
          refine hK.out _ _ (sr HV.out.tail) ?_
          clear hK K
          try simp only [Act.put, List.setIfInBounds_toArray, List.set_cons_zero, List.set_cons_succ]
          refine Lk.tr_step rfl rfl (fun K hK => ?_)
          go_simp
          (with_reducible refine (CV.out _).mono ?_)
          rintro r W2 ⟨rfl, rfl⟩
          refine hK.out _ _ (sr HV.out.tail) ?_
          clear hK K
          try simp only [Act.put, List.setIfInBounds_toArray, List.set_cons_zero, List.set_cons_succ]
          iterate 1 (refine Lk.tr_take ?_ rfl rfl ?_ ?_; rotate_left; (focus (intro w' hS; (try dsimp only at hS); (go_simp; try with_reducible rfl))); simp only [Act.put, List.setIfInBounds_toArray, List.set_cons_zero, List.set_cons_succ])
          refine Lk.tr_step rfl rfl (fun K hK => ?_)
          refine stpK _ _ rfl rfl V.heap.size ⟨0, 0, 0, 0, false⟩ ⟨0, 0, 0, v, false⟩ rfl rfl HV.out.head ?_
          intro W4 hP hO
          replace HV := Lib.hid (k5_put (q := ⟨0, 0, 0, 0, false⟩) HV.out hO hP hs.out hn.out)
          clear hP hO
          refine hK.out _ _ (sr HV.out.tail) ?_
          clear hK K
          try simp only [Act.put, List.setIfInBounds_toArray, List.set_cons_zero, List.set_cons_succ]
          refine Lk.tr_nil (NoPanic.normal ?_)
          go_wp2_with fail
          go_meet
          case rel => exact ⟨_, rfl, hs.out, HV.out⟩
      · skip
        refine Lk.stp_step rfl rfl (fun K hK => ?_)
        go_simp
        replace HV := Lib.hid (HV.out.made zo)
        refine hK.out _ _ (sr HV.out.tail) ?_
        clear hK K
        try simp only [Act.put, List.setIfInBounds_toArray, List.set_cons_zero, List.set_cons_succ]
        refine Lk.tr_step rfl rfl (fun K hK => ?_)
        go_simp
        (with_reducible refine (CY2.out _).mono ?_)
        rintro r W2 ⟨rfl, rfl⟩
        refine hK.out _ _ (sr HV.out.tail) ?_
        clear hK K
        try simp only [Act.put, List.setIfInBounds_toArray, List.set_cons_zero, List.set_cons_succ]
        refine Lk.tr_step rfl rfl (fun K hK => ?_)
        go_simp
        (with_reducible refine (CV.out _).mono ?_)
        rintro r W2 ⟨rfl, rfl⟩
        refine hK.out _ _ (sr HV.out.tail) ?_
        clear hK K
        try simp only [Act.put, List.setIfInBounds_toArray, List.set_cons_zero, List.set_cons_succ]
        iterate 1 (refine Lk.tr_take ?_ rfl rfl ?_ ?_; rotate_left; (focus (intro w' hS; (try dsimp only at hS); (go_simp; try with_reducible rfl))); simp only [Act.put, List.setIfInBounds_toArray, List.set_cons_zero, List.set_cons_succ])
        refine Lk.tr_step rfl rfl (fun K hK => ?_)
        refine stpK _ _ rfl rfl V.heap.size ⟨0, 0, 0, 0, false⟩ ⟨0, 0, 0, v, false⟩ rfl rfl HV.out.head ?_
        intro W4 hP hO
        replace HV := Lib.hid (k5_put (q := ⟨0, 0, 0, 0, false⟩) HV.out hO hP hs.out hn.out)
        clear hP hO
        refine hK.out _ _ (sr HV.out.tail) ?_
        clear hK K
        try simp only [Act.put, List.setIfInBounds_toArray, List.set_cons_zero, List.set_cons_succ]
        refine Lk.tr_nil (NoPanic.normal ?_)
        go_wp2_with fail
        go_meet
        case rel => exact ⟨_, rfl, hs.out, HV.out⟩
    · skip
      refine Lk.stp_step rfl rfl (fun K hK => ?_)
      go_simp
      replace HV := Lib.hid (HV.out.made zo)
      refine hK.out _ _ (sr HV.out.tail) ?_
      clear hK K
      try simp only [Act.put, List.setIfInBounds_toArray, List.set_cons_zero, List.set_cons_succ]
      refine Lk.tr_step rfl rfl (fun K hK => ?_)
      go_simp
      (with_reducible refine (CY1.out _).mono ?_)
      rintro r W2 ⟨rfl, rfl⟩
      refine hK.out _ _ (sr HV.out.tail) ?_
      clear hK K
      try simp only [Act.put, List.setIfInBounds_toArray, List.set_cons_zero, List.set_cons_succ]
      refine Lk.tr_step rfl rfl (fun K hK => ?_)
      go_simp
      (with_reducible refine (CY2.out _).mono ?_)
      rintro r W2 ⟨rfl, rfl⟩
      refine hK.out _ _ (sr HV.out.tail) ?_
      clear hK K
      try simp only [Act.put, List.setIfInBounds_toArray, List.set_cons_zero, List.set_cons_succ]
      refine Lk.tr_step rfl rfl (fun K hK => ?_)
      go_simp
      (with_reducible refine (CV.out _).mono ?_)
      rintro r W2 ⟨rfl, rfl⟩
      refine hK.out _ _ (sr HV.out.tail) ?_
      clear hK K
      try simp only [Act.put, List.setIfInBounds_toArray, List.set_cons_zero, List.set_cons_succ]
      iterate 1 (refine Lk.tr_take ?_ rfl rfl ?_ ?_; rotate_left; (focus (intro w' hS; (try dsimp only at hS); (go_simp; try with_reducible rfl))); simp only [Act.put, List.setIfInBounds_toArray, List.set_cons_zero, List.set_cons_succ])
      refine Lk.tr_step rfl rfl (fun K hK => ?_)
      refine stpK _ _ rfl rfl V.heap.size ⟨0, 0, 0, 0, false⟩ ⟨0, 0, 0, v, false⟩ rfl rfl HV.out.head ?_
      intro W4 hP hO
      replace HV := Lib.hid (k5_put (q := ⟨0, 0, 0, 0, false⟩) HV.out hO hP hs.out hn.out)
      clear hP hO
      refine hK.out _ _ (sr HV.out.tail) ?_
      clear hK K
      try simp only [Act.put, List.setIfInBounds_toArray, List.set_cons_zero, List.set_cons_succ]
      refine Lk.tr_nil (NoPanic.normal ?_)
      go_wp2_with fail
      go_meet
      case rel => exact ⟨_, rfl, hs.out, HV.out⟩
  obtain ⟨g, rfl, hg, hv⟩ := hcut
  replace HV := Lib.hid hv
  replace hg := Lib.hid hg
  clear hv CY1 CY2 CV
  go_upto_if 26 with (first | (refine ldb rfl _ rfl (w.heap.size + 1 + 1) 1 d.opn rfl (Joins.cell_of_block HV.out.h3 1) ?_) | fail)
  try simp only [Act.put, List.setIfInBounds_toArray, List.set_cons_zero, List.set_cons_succ]
  go_cut [8] (fun t wx => t = .int .i64 f ∧ Hv w wx (K5 g w.heap.size ⟨0, 0, 0, v, false⟩ e p d))
  case first =>
    have eF := HF.out
    cases hd : d.opn
    · rw [hd] at eF
      replace eF : 0 = f := eF
      subst eF
      go_wp2_with fail
      go_meet
      case rel => exact ⟨rfl, HV.out⟩
    · rw [hd] at eF
      replace eF : v = f := eF
      subst eF
      go_wp2_with (first | (refine ldi rfl _ rfl (g) 3 v rfl (Joins.cell_of_block HV.out.head 3) ?_) | fail)
      go_meet
      case rel => exact ⟨rfl, HV.out⟩
  obtain ⟨rfl, hv⟩ := hcut
  replace HV := Lib.hid hv
  clear hv
  go_upto_region 7 with fail
  go_cut [52] (fun t wx => t = .bool l ∧ Hv w wx (K5 g w.heap.size ⟨0, 0, 0, v, l⟩ e p d))
  case first =>
    have eL := HL.out
    have a1 := Joins.cell_of_block HV.out.tail.h4 14
    have a2 := Joins.cell_of_block HV.out.tail.h4 13
    have a3 := Joins.cell_of_block HV.out.h4 4
    have a4 := Joins.cell_of_block HV.out.h4 1
    have a5 := Joins.cell_of_block HV.out.h3 2
    have a6 := Joins.cell_of_block HV.out.h3 7
    simp only [List.getElem?_toArray, List.getElem?_cons_zero, List.getElem?_cons_succ] at a1 a2 a3 a4 a5 a6
    unfold lit at eL
    clear HL CP CH CQ CO1 CO2 COH HF HT HTH
    rcases Int.lt_or_le f e.lean with c | c
    · have k1 : decide (e.lean ≤ f) = false := decide_eq_false (by omega)
      rw [k1] at eL
      replace eL : false = l := eL
      subst eL
      clear c
      go_wp2_with (first | go_big_skip | (refine stb rfl _ _ rfl rfl g 4 ⟨0, 0, 0, v, false⟩ ⟨0, 0, 0, v, false⟩ false false rfl rfl HV.out.head rfl rfl ?_; intro w' hP hO; replace HV := Lib.hid (k5_put HV.out hO hP hg.out hn.out); clear hP hO) | fail); go_meet; case rel => exact ⟨rfl, HV.out⟩
    · have k1 : decide (e.lean ≤ f) = true := decide_eq_true c
      rw [k1] at eL
      clear c
      cases hb : d.blow
      · rw [hb] at a6 eL
        cases hp : p.lit
        · rw [hp] at a3 eL
          cases hi : d.ign
          · rw [hi] at a5 eL
            replace eL : false = l := eL
            subst eL
            clear hb hp hi
            go_wp2_with (first | go_big_skip | (refine stb rfl _ _ rfl rfl g 4 ⟨0, 0, 0, v, false⟩ ⟨0, 0, 0, v, false⟩ false false rfl rfl HV.out.head rfl rfl ?_; intro w' hP hO; replace HV := Lib.hid (k5_put HV.out hO hP hg.out hn.out); clear hP hO) | fail); go_meet; case rel => exact ⟨rfl, HV.out⟩
          · rw [hi] at a5 eL
            clear hb hp hi
            cases hc : decide (e.light ≤ p.n2)
            · rw [hc] at eL
              replace eL : false = l := eL
              subst eL
              go_wp2_with (first | go_big_skip | (refine stb rfl _ _ rfl rfl g 4 ⟨0, 0, 0, v, false⟩ ⟨0, 0, 0, v, false⟩ false false rfl rfl HV.out.head rfl rfl ?_; intro w' hP hO; replace HV := Lib.hid (k5_put HV.out hO hP hg.out hn.out); clear hP hO) | fail); go_meet; case rel => exact ⟨rfl, HV.out⟩
            · rw [hc] at eL
              replace eL : true = l := eL
              subst eL
              go_wp2_with (first | go_big_skip | (refine stb rfl _ _ rfl rfl g 4 ⟨0, 0, 0, v, false⟩ ⟨0, 0, 0, v, true⟩ true false rfl rfl HV.out.head rfl rfl ?_; intro w' hP hO; replace HV := Lib.hid (k5_put HV.out hO hP hg.out hn.out); clear hP hO) | fail); go_meet; case rel => exact ⟨rfl, HV.out⟩
        · rw [hp] at a3 eL
          replace eL : true = l := eL
          subst eL
          clear hb hp
          go_wp2_with (first | go_big_skip | (refine stb rfl _ _ rfl rfl g 4 ⟨0, 0, 0, v, false⟩ ⟨0, 0, 0, v, true⟩ true false rfl rfl HV.out.head rfl rfl ?_; intro w' hP hO; replace HV := Lib.hid (k5_put HV.out hO hP hg.out hn.out); clear hP hO) | fail); go_meet; case rel => exact ⟨rfl, HV.out⟩
      · rw [hb] at a6 eL
        replace eL : false = l := eL
        subst eL
        clear hb
        go_wp2_with (first | go_big_skip | (refine stb rfl _ _ rfl rfl g 4 ⟨0, 0, 0, v, false⟩ ⟨0, 0, 0, v, false⟩ false false rfl rfl HV.out.head rfl rfl ?_; intro w' hP hO; replace HV := Lib.hid (k5_put HV.out hO hP hg.out hn.out); clear hP hO) | fail); go_meet; case rel => exact ⟨rfl, HV.out⟩
  obtain ⟨rfl, hv⟩ := hcut
  replace HV := Lib.hid hv
  clear hv HL HF
  go_upto_if 55 with (first | (refine ldb rfl _ rfl (g) 4 l rfl (Joins.cell_of_block HV.out.head 4) ?_) | fail)
  try simp only [Act.put, List.setIfInBounds_toArray, List.set_cons_zero, List.set_cons_succ]
  go_cut [9, 10] (fun t u wx => t = .int .i64 T ∧ u = .int .i64 TH ∧ Hv w wx (K5 g w.heap.size ⟨0, 0, 0, v, l⟩ e p d))
  case first =>
    have eT := HT.out
    have eTH := HTH.out
    clear HT HTH CQ CO1 CO2 COH
    cases l
    · replace eT : (if d.start = true then e.starter else 0) = T := eT
      replace eTH : 0 = TH := eTH
      subst eTH
      cases hd : d.start
      · rw [hd] at eT
        replace eT : 0 = T := eT
        subst eT
        go_wp2_with (first | (refine ldb rfl _ rfl (w.heap.size + 1 + 1) 3 false rfl (by have z := Joins.cell_of_block HV.out.h3 3; simp only [List.getElem?_toArray, List.getElem?_cons_zero, List.getElem?_cons_succ, hd] at z; exact z) ?_) | fail)
        go_meet
        case rel => exact ⟨rfl, rfl, HV.out⟩
      · rw [hd] at eT
        replace eT : e.starter = T := eT
        subst eT
        go_wp2_with (first | (refine ldb rfl _ rfl (w.heap.size + 1 + 1) 3 true rfl (by have z := Joins.cell_of_block HV.out.h3 3; simp only [List.getElem?_toArray, List.getElem?_cons_zero, List.getElem?_cons_succ, hd] at z; exact z) ?_) | (refine ldi rfl _ rfl (w.heap.size) 12 e.starter rfl (Joins.cell_of_block HV.out.tail.h4 12) ?_) | fail)
        go_meet
        case rel => exact ⟨rfl, rfl, HV.out⟩
    · replace eT : AP = T := eT
      replace eTH : AH = TH := eTH
      subst eT eTH
      go_wp2_with (first | (refine ldt rfl _ rfl (w.heap.size) 2 e.p rfl (eo_p HV.out.tail.h4) ?_) | (refine ldt rfl _ rfl (w.heap.size) 6 e.h rfl (eo_h HV.out.tail.h4) ?_) | (go_at_call 40; (first | (with_reducible refine (CP.out _ HV.out.old).mono ?_) | (with_reducible refine (CH.out _ HV.out.old).mono ?_)); rintro r W ⟨rfl, hb⟩; replace HV := Lib.hid (HV.out.grow hb); clear hb) | fail)
      go_meet
      case rel => exact ⟨rfl, rfl, HV.out⟩
  obtain ⟨rfl, rfl, hv⟩ := hcut
  replace HV := Lib.hid hv
  clear hv HT HTH CP CH
  go_wp2_with (first | (refine lde rfl _ rfl _ _ rfl HV.out.tail.h4 ?_) | (refine ldi rfl _ rfl (w.heap.size + 1) 1 p.n2 rfl (Joins.cell_of_block HV.out.h4 1) ?_) | (refine ldi rfl _ rfl (w.heap.size) 8 e.lag2 rfl (Joins.cell_of_block HV.out.tail.h4 8) ?_) | (refine ldi rfl _ rfl (w.heap.size + 1 + 1) 5 d.g1 rfl (Joins.cell_of_block HV.out.h3 5) ?_) | (go_at_call 41; (with_reducible refine (CO2.out _).mono ?_); rintro r W ⟨rfl, hb⟩; replace HV := Lib.hid (HV.out.grow hb); clear hb) | (refine sti rfl _ _ rfl rfl g 1 ⟨0, 0, 0, v, l⟩ ⟨0, M2, 0, v, l⟩ M2 0 rfl rfl HV.out.head rfl rfl ?_; intro w' hP hO; replace HV := Lib.hid (k5_put HV.out hO hP hg.out hn.out); clear hP hO) | fail)
  clear CO2
  refine wp_region_noPanic (Lk.wp_region_ordered rord16 (fun V => SR2 V g w.heap.size ⟨0, M2, 0, v, l⟩ e p d) (by kernel_rfl) (by kernel_rfl) (fun _ _ _ _ _ h => h) (by first | (with_reducible exact (sr2 HV.out)) | (with_reducible exact (sr2 HV.out.drew))) ?_)
  replace HV := Lib.hid HV.out.drew
  iterate 12 (refine Lk.ord_take ?_ rfl rfl ?_ ?_; rotate_left; (focus (intro w' hS; (try dsimp only at hS); first | (refine (rE hS.1 _ rfl rfl).trans ?_; with_reducible rfl) | (go_simp; try with_reducible rfl))); simp only [Act.put, List.setIfInBounds_toArray, List.set_cons_zero, List.set_cons_succ])
  refine Lk.ord_step rfl rfl (fun K hK => ?_)
  go_simp
  (with_reducible refine (CQ.out _ HV.out.old).mono ?_)
  rintro r W ⟨rfl, hb⟩
  replace HV := Lib.hid (HV.out.grow hb)
  clear hb
  refine hK.out _ _ (by first | (with_reducible exact (sr2 HV.out)) | (with_reducible exact (sr2 HV.out.drew))) ?_
  clear hK K
  try simp only [Act.put, List.setIfInBounds_toArray, List.set_cons_zero, List.set_cons_succ]
  refine Lk.ord_step rfl rfl (fun K hK => ?_)
  go_simp
  (with_reducible refine (CO1.out _).mono ?_)
  rintro r W ⟨rfl, hb⟩
  replace HV := Lib.hid (HV.out.grow hb)
  clear hb
  refine hK.out _ _ (by first | (with_reducible exact (sr2 HV.out)) | (with_reducible exact (sr2 HV.out.drew))) ?_
  clear hK K
  try simp only [Act.put, List.setIfInBounds_toArray, List.set_cons_zero, List.set_cons_succ]
  iterate 1 (refine Lk.ord_take ?_ rfl rfl ?_ ?_; rotate_left; (focus (intro w' hS; (try dsimp only at hS); first | (refine (rE hS.1 _ rfl rfl).trans ?_; with_reducible rfl) | (go_simp; try with_reducible rfl))); simp only [Act.put, List.setIfInBounds_toArray, List.set_cons_zero, List.set_cons_succ])
  refine Lk.ord_step rfl rfl (fun K hK => ?_)
  refine stiK _ _ rfl rfl g 0 ⟨0, M2, 0, v, l⟩ ⟨M1, M2, 0, v, l⟩ M1 0 rfl rfl HV.out.head rfl rfl ?_
  intro W9 hP hO
  have HS := Lib.hid (sr2_off (sr2 HV.out) hO hg.out (Joins.cell_of_block hP 1))
  replace HV := Lib.hid (k5_put HV.out hO hP hg.out hn.out)
  refine hK.out _ _ HS.out ?_
  clear hK K hP hO HS
  try simp only [Act.put, List.setIfInBounds_toArray, List.set_cons_zero, List.set_cons_succ]
  refine Lk.ord_nil (NoPanic.normal ?_)
  clear CQ CO1
  go_wp2_with (first | (refine lde rfl _ rfl _ _ rfl HV.out.tail.h4 ?_) | (refine ldi rfl _ rfl (w.heap.size + 1) 2 p.heat rfl (Joins.cell_of_block HV.out.h4 2) ?_) | (refine ldi rfl _ rfl (w.heap.size) 10 e.lagE rfl (Joins.cell_of_block HV.out.tail.h4 10) ?_) | (refine ldi rfl _ rfl (w.heap.size + 1 + 1) 6 d.g2 rfl (Joins.cell_of_block HV.out.h3 6) ?_) | (go_at_call 41; (with_reducible refine (COH.out _).mono ?_); rintro r W ⟨rfl, hb⟩; replace HV := Lib.hid (HV.out.grow hb); clear hb) | (refine sti rfl _ _ rfl rfl g 2 ⟨M1, M2, 0, v, l⟩ ⟨M1, M2, MH, v, l⟩ MH 0 rfl rfl HV.out.head rfl rfl ?_; intro w' hP hO; replace HV := Lib.hid (k5_put HV.out hO hP hg.out hn.out); clear hP hO) | (refine ldp rfl _ rfl g ⟨M1, M2, MH, v, l⟩ rfl HV.out.head ?_) | (refine stp rfl _ _ rfl rfl _ ⟨0, 0, 0, 0, false⟩ ⟨M1, M2, MH, v, l⟩ rfl rfl HV.out.h2 ?_; intro w' hP hO; replace HV := Lib.hid (HV.out.old.trans (hO.below (by have := hn.out; omega))); replace hP := Lib.hid hP; clear hO) | fail)
  refine bodyPost_ret (res_p rfl _ _ _ _ rfl hP.out) rfl ?_
  exact ⟨rfl, HV.out⟩

theorem rstep_c (e : Eg) (p : Pl.Pt) (d : Pl.Dr) (w : World) (hE : EngIn w e) : Calls Try.prog 14 #[.agg (ec e), .agg (pc p), .agg (dc d)] w fun r w' => r = .returned (.agg (pc (Pl.step (en e) p d))) ∧ Below w.heap.size w w' := by
  cases hk : Em.okB (en e) with
  | true => have := rstep_ok e p d w hE hk; rwa [show Pl.go (en e) p d = Pl.step (en e) p d from by rw [Pl.step, if_pos hk]] at this
  | false => have := rstep_no e p d w hE hk; rwa [show Pl.Pt.zero = Pl.step (en e) p d from by rw [Pl.step, hk]; rfl] at this

end Plw
end Go.Proofs.Ytioiffhbbhlgeaa
