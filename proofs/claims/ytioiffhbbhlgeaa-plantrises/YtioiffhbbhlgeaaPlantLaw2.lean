/- PlantRises. Printed by gen_law2.py. -/
import Derived.Test.YtioiffhbbhlgeaaPlantLawKit
import Derived.Test.YtioiffhbbhlgeaaPlantOpen
import Derived.LoopTactic
namespace Go.Proofs.Ytioiffhbbhlgeaa
namespace Plw
open Go.RowKit TabC Lk Ew

theorem tree9 : Lk.treeB (Lk.opsOf Try.f4 9) (.one 0 false (.one 1 false (.one 2 false (.one 3 false (.one 4 false (.one 5 false (.two 6 7 (.one 7 true (.one 8 true .nil)) (.one 6 true (.one 8 true .nil))))))))) = true := by kernel_rfl
theorem ord10 : Lk.orderedB (Lk.opsOf Try.f4 10) [(0, false), (1, false), (2, false), (3, false), (4, false), (5, false), (6, true), (7, false), (8, false), (9, false), (10, false), (11, false), (12, false), (13, false), (14, false), (15, false), (16, false), (17, false), (18, false), (19, false), (20, false), (21, false), (22, false), (23, false), (24, false), (25, false), (26, false), (27, false), (28, false), (29, false), (30, false), (31, false), (32, false), (33, false), (34, false), (35, false), (36, false), (37, false)] = true := by kernel_rfl
/-- The boxes of PlantRises. -/
abbrev L3 (m s : Nat) (q p : Pl.Pt) (e : Eg) : List (Nat × Obj) := [(m, po q), (s + 1, po p), (s, eo e)]
theorem l3_put {w W W' : World} {m s : Nat} {q r p : Pl.Pt} {e : Eg} (h : Hv w W (L3 m s q p e)) (hO : Off m W W') (hP : W'.heap[m]? = some (po r)) (hm : s + 1 < m) (hs : w.heap.size ≤ s) : Hv w W' (L3 m s r p e) :=
  h.change hO hP (by intro x hx; simp only [List.mem_cons, List.not_mem_nil, or_false] at hx; rcases hx with rfl | rfl <;> (dsimp only; omega)) (by omega)
/-- What is loaded in region 9; in region 10. -/
abbrev SD (V : World) (m s g o : Nat) (q : Pl.Pt) (e : Eg) (d : Pl.Dr) : Prop := V.heap[s]? = some (eo e) ∧ V.heap[m]? = some (po q) ∧ V.rangeAt g o (dc d).toList
abbrev SM (V : World) (b m s : Nat) (r q : Pl.Pt) (e : Eg) : Prop := V.heap[s]? = some (eo e) ∧ V.cell? ⟨b, 0, none⟩ = some (.int .i64 r.n1) ∧ V.cell? ⟨b, 1, none⟩ = some (.int .i64 r.n2) ∧ V.cell? ⟨b, 2, none⟩ = some (.int .i64 r.heat) ∧ V.cell? ⟨b, 3, none⟩ = some (.int .i64 r.valve) ∧ V.cell? ⟨m, 1, none⟩ = some (.int .i64 q.n2)
theorem sm {w V : World} {b m s : Nat} {r q p : Pl.Pt} {e : Eg} (h : Hv w V ((b, po r) :: L3 m s q p e)) : SM V b m s r q e :=
  ⟨h.h4, Joins.cell_of_block h.head 0, Joins.cell_of_block h.head 1, Joins.cell_of_block h.head 2, Joins.cell_of_block h.head 3, Joins.cell_of_block h.h2 1⟩
theorem rDm {op : Oper} {u : Act} {w : World} {d : Pl.Dr} (x : Operand) (ho : op.op = .load 31 x) (g off : Nat) (hx : u.eval x = .pointer (some ⟨g, off, none⟩)) (hP : w.rangeAt g off (dc d).toList) : (execOp u.eval op).run Try.prog w = .ok (.value (.agg (dc d))) w := by
  unfold execOp
  simp only [ho, hx, Instr.loadAt, Instr.sureAddr, Sem.run_bind, Sem.run_pure, Result.andThen_ok, run_loadVar_mid w g off 31 (dc d).toList _ hP Try.underlying31 rfl info_d]
/-- What it keeps to. -/
def In (e : Eg) (q : Pl.Pt) : Prop := (0 ≤ q.n1 ∧ q.n1 ≤ Pl.end1 (en e)) ∧ (0 ≤ q.n2 ∧ q.n2 ≤ Pl.end2 (en e)) ∧ (0 ≤ q.heat ∧ q.heat ≤ Pl.endH (en e))
theorem in_step {e : Eg} (hk : Em.okB (en e) = true) {q r : Pl.Pt} {d : Pl.Dr} (h : In e q) (hs : Pl.step (en e) q d = r) : In e r ∧ 0 ≤ r.valve ∧ r.n2 - q.n2 ≤ Pl.rise (en e) ∧ (0 ≤ r.n2 ∧ r.n2 ≤ 1048576) := by
  have F := Pl.fit hk
  rw [Pl.step, if_pos hk] at hs
  subst hs
  obtain ⟨⟨a1, a2⟩, ⟨b1, b2⟩, ⟨c1, c2⟩⟩ := h
  exact ⟨⟨⟨(Pl.on_in _ _ _ _ _).1, Pl.m1_end F a1 a2⟩, ⟨(Pl.on_in _ _ _ _ _).1, Pl.m2_end F b1 b2⟩, ⟨(Pl.on_in _ _ _ _ _).1, Pl.mh_end F c1 c2⟩⟩, (Pl.vl_in F).1, Pl.m2_rise F b1 b2, Pl.on_in _ _ _ _ _⟩

set_option maxRecDepth 100000 in
set_option maxHeartbeats 16000000 in
theorem rises_few (e : Eg) (p : Pl.Pt) (A : Option Addr) (T : List Pl.Dr) (cp : Nat) (w : World) (h1 : fewE e = false) : Calls Try.prog 4 #[.agg (ec e), .agg (pc p), .slice A T.length cp] w fun r w' => r = .returned (.bool true) ∧ Below w.heap.size w w' := by
  have HV := Lib.hid (two_b w e p)
  have F1 := Lib.hid (Ew.few_v h1)
  clear h1
  go_enter Try.func4, Try.ntmps4
  go_wp2_with (first | go_big_skip | (refine lde rfl _ rfl _ _ rfl HV.out.h2 ?_) | (go_at_call 9; (with_reducible refine (awake_c _).mono ?_); rintro r W ⟨rfl, hb⟩; replace HV := Lib.hid (HV.out.grow hb); clear hb) | (go_at_call 10; (with_reducible refine (F1.out _).mono ?_); rintro r W ⟨rfl, hb⟩; replace HV := Lib.hid (HV.out.grow hb); clear hb) | fail)
  go_ret
  exact ⟨rfl, HV.out.old⟩
set_option maxRecDepth 100000 in
set_option maxHeartbeats 16000000 in
theorem rises_no (e : Eg) (p : Pl.Pt) (A : Option Addr) (T : List Pl.Dr) (cp : Nat) (w : World) (hE : EngIn w e) (h1 : fewE e = true) (h2 : Em.okB (en e) = false) : Calls Try.prog 4 #[.agg (ec e), .agg (pc p), .slice A T.length cp] w fun r w' => r = .returned (.bool true) ∧ Below w.heap.size w w' := by
  have HV := Lib.hid (two_b w e p)
  have F1 := Lib.hid (Ew.few_v h1)
  have F2 := Lib.hid (fun W (hW : Below w.heap.size w W) => check_no e W (hE.below hW) h2)
  clear h1 h2 hE
  go_enter Try.func4, Try.ntmps4
  go_wp2_with (first | go_big_skip | (refine lde rfl _ rfl _ _ rfl HV.out.h2 ?_) | (go_at_call 9; (with_reducible refine (awake_c _).mono ?_); rintro r W ⟨rfl, hb⟩; replace HV := Lib.hid (HV.out.grow hb); clear hb) | (go_at_call 10; (with_reducible refine (F1.out _).mono ?_); rintro r W ⟨rfl, hb⟩; replace HV := Lib.hid (HV.out.grow hb); clear hb) | (go_at_call 17; (with_reducible refine (F2.out _ HV.out.old).mono ?_); rintro r W ⟨rfl, hb⟩; replace HV := Lib.hid (HV.out.grow hb); clear hb) | fail)
  go_ret
  exact ⟨rfl, HV.out.old⟩
set_option maxRecDepth 100000 in
set_option maxHeartbeats 16000000 in
theorem rises_go (e : Eg) (p : Pl.Pt) (A : Option Addr) (T : List Pl.Dr) (cp : Nat) (w : World) (hE : EngIn w e) (hA : Drs w A T) (h1 : fewE e = true) (h2 : Em.okB (en e) = true) : Calls Try.prog 4 #[.agg (ec e), .agg (pc p), .slice A T.length cp] w fun r w' => r = .returned (.bool true) ∧ Below w.heap.size w w' := by
  have HV := Lib.hid (two_b w e p)
  have F1 := Lib.hid (Ew.few_v h1)
  have F2 := Lib.hid (fun W (hW : Below w.heap.size w W) => check_ok e W (hE.below hW) h2)
  have CE := Lib.hid (fun W (hW : Below w.heap.size w W) => ends_ok e W (hE.below hW) h2)
  have CR := Lib.hid (fun W (hW : Below w.heap.size w W) => rise_ok e W (hE.below hW) h2)
  have CS := Lib.hid (fun (q r : Pl.Pt) (d : Pl.Dr) (h : Pl.step (en e) q d = r) W (hW : Below w.heap.size w W) => step_v h (hE.below hW))
  have HI := Lib.hid (fun (q r : Pl.Pt) (d : Pl.Dr) => in_step (q := q) (r := r) (d := d) h2)
  obtain ⟨n, hn⟩ : ∃ n, T.length = n := ⟨_, rfl⟩
  rw [hn]
  have HN := Lib.hid hn
  have HA := Lib.hid hA
  have e1 := Pl.num_in (Tb.mx (en e).qy + (en e).lag1 * (en e).disturb)
  have e2 := Pl.num_in (max (Tb.mx (en e).py) (en e).starter + (en e).lag2 * (en e).disturb)
  have e3 := Pl.num_in (Tb.mx (en e).hy + (en e).lagE * (en e).disturb)
  have i1 : 0 ≤ Pl.end1 (en e) ∧ Pl.end1 (en e) ≤ 1048576 := e1
  have i2 : 0 ≤ Pl.end2 (en e) ∧ Pl.end2 (en e) ≤ 1048576 := e2
  have i3 : 0 ≤ Pl.endH (en e) ∧ Pl.endH (en e) ≤ 1048576 := e3
  have HIN : Hid (∀ q : Pl.Pt, In e q → (0 ≤ q.n1 ∧ q.n1 ≤ Pl.end1 (en e)) ∧ (0 ≤ q.n2 ∧ q.n2 ≤ Pl.end2 (en e)) ∧ (0 ≤ q.heat ∧ q.heat ≤ Pl.endH (en e))) := Lib.hid (fun q h => h)
  have H0 : Hid (In e ⟨min (max p.n1 0) (Pl.end1 (en e)), min (max p.n2 0) (Pl.end2 (en e)), min (max p.heat 0) (Pl.endH (en e)), p.valve, p.lit⟩) := Lib.hid (by unfold In; simp only; omega)
  have IB := Lib.hid i2
  generalize Pl.end1 (en e) = E1 at *
  generalize Pl.end2 (en e) = E2 at *
  generalize Pl.endH (en e) = EH at *
  generalize Pl.rise (en e) = RI at *
  obtain ⟨q1, hq1⟩ : ∃ x, min (max p.n1 0) E1 = x := ⟨_, rfl⟩
  obtain ⟨q2, hq2⟩ : ∃ x, min (max p.n2 0) E2 = x := ⟨_, rfl⟩
  obtain ⟨qh, hqh⟩ : ∃ x, min (max p.heat 0) EH = x := ⟨_, rfl⟩
  rw [hq1, hq2, hqh] at H0
  have hw := Lib.hid (Nat.le_refl w.heap.size)
  clear h1 h2 hE hA hn e1 e2 e3 i1 i2 i3
  go_enter Try.func4, Try.ntmps4
  go_upto_region 5 with (first | go_big_skip | (refine lde rfl _ rfl _ _ rfl HV.out.h2 ?_) | (go_at_call 9; (with_reducible refine (awake_c _).mono ?_); rintro r W ⟨rfl, hb⟩; replace HV := Lib.hid (HV.out.grow hb); clear hb) | (go_at_call 10; (with_reducible refine (F1.out _).mono ?_); rintro r W ⟨rfl, hb⟩; replace HV := Lib.hid (HV.out.grow hb); clear hb) | (go_at_call 17; (with_reducible refine (F2.out _ HV.out.old).mono ?_); rintro r W ⟨rfl, hb⟩; replace HV := Lib.hid (HV.out.grow hb); clear hb) | (go_at_call 11; (with_reducible refine (CE.out _ HV.out.old).mono ?_); rintro r W ⟨rfl, hb⟩; replace HV := Lib.hid (HV.out.grow hb); clear hb) | fail)
  clear F1 F2 CE
  go_upto_region 6 with (first | (refine ldi rfl _ rfl (w.heap.size + 1) 0 p.n1 rfl (Joins.cell_of_block HV.out.head 0) ?_) | (refine ldi rfl _ rfl (w.heap.size + 1) 1 p.n2 rfl (Joins.cell_of_block HV.out.head 1) ?_) | (refine ldi rfl _ rfl (w.heap.size + 1) 2 p.heat rfl (Joins.cell_of_block HV.out.head 2) ?_) | (refine ldi rfl _ rfl (w.heap.size + 1) 3 p.valve rfl (Joins.cell_of_block HV.out.head 3) ?_) | (refine ldb rfl _ rfl (w.heap.size + 1) 4 p.lit rfl (Joins.cell_of_block HV.out.head 4) ?_) | fail)
  have hm := Lib.hid (show w.heap.size + 1 < W.heap.size from HV.out.lt List.mem_cons_self)
  replace HV := Lib.hid (HV.out.made (po ⟨q1, q2, qh, p.valve, p.lit⟩))
  have HW : Hid (Hv w _ (L3 W.heap.size w.heap.size ⟨q1, q2, qh, p.valve, p.lit⟩ p e)) := HV
  replace HV := HW
  clear HW hq1 hq2 hqh
  generalize W.heap.size = m at *
  go_wp2_with fail
  go_loopw [12, 13] (fun i _ wr => ∃ (k : Nat) (q : Pl.Pt), k ≤ n ∧ i = .int .i64 k ∧ In e q ∧ Hv w wr (L3 m w.heap.size q p e)) (fun i _ _ => n - (intOf i).toNat)
  case atStart => exact ⟨0, _, Nat.zero_le _, rfl, H0.out, HV.out⟩
  case round =>
    clear HV H0
    obtain ⟨k, q, hk, rfl, hin, hv⟩ := hrel
    have HV := Lib.hid hv
    have HQ := Lib.hid hin
    clear hv hin
    by_cases hlt : k < n
    rotate_left
    · have k1 : decide ((k : Int) < n) = false := decide_eq_false (by omega)
      clear HI CS CR HIN
      go_wp2_with (first | go_big_skip | fail)
      go_ret
      exact ⟨rfl, HV.out.old⟩
    by_cases h100 : k < 100
    rotate_left
    · have k1 : (k : Int) < n := by omega
      have k2 : decide ((k : Int) < 100) = false := decide_eq_false (by omega)
      clear HI CS CR HIN
      go_wp2_with (first | go_big_skip | fail)
      go_ret
      exact ⟨rfl, HV.out.old⟩
    have hlt2 : (k : Int) < n := by omega
    have h100' : (k : Int) < 100 := by omega
    have hk2 : k + 1 ≤ n := hlt
    have mk : IntKind.i64.wrap ((k : Int) + 1) = (k : Int) + 1 := IntWalk.i64_in _ (by omega)
    obtain ⟨d, hd⟩ : ∃ d, T[k]? = some d := ⟨T[k]'(by rw [HN.out]; exact hlt), List.getElem?_eq_getElem _⟩
    obtain ⟨g, oo, rfl, hg, hr⟩ := HA.out k d hd
    have HD : Hid (∀ V, Below w.heap.size w V → V.rangeAt g (oo + k * 8) (dc d).toList) := Lib.hid (fun V hV j v hv => (hV.cell (p := ⟨g, oo + k * 8 + j, none⟩) hg).trans (hr j v hv))
    obtain ⟨r, hs⟩ : ∃ r, Pl.step (en e) q d = r := ⟨_, rfl⟩
    obtain ⟨b1, b2, b3, b4⟩ := HI.out q r d HQ.out hs
    obtain ⟨c1, c2, c3⟩ := HIN.out r b1
    obtain ⟨_, c5, _⟩ := HIN.out q HQ.out
    have ib := IB.out
    have k1 : decide (RI < r.n2 - q.n2) = false := decide_eq_false (by omega)
    have k2 : decide (E1 < r.n1) = false := decide_eq_false (by omega)
    have k3 : decide (E2 < r.n2) = false := decide_eq_false (by omega)
    have k4 : decide (EH < r.heat) = false := decide_eq_false (by omega)
    have k5 : decide (min r.n1 (min r.n2 (min r.heat r.valve)) < 0) = false := decide_eq_false (by omega)
    have m1 : IntKind.i64.wrap (r.n2 - q.n2) = r.n2 - q.n2 := IntWalk.i64_in _ (by omega)
    have C := Lib.hid (CS.out q r d hs)
    have HR := Lib.hid b1
    clear hd hg hr hs b1 b2 b3 b4 c1 c2 c3 c5 ib HA HN
    go_upto_region 9 with fail
    refine wp_region_noPanic (Lk.wp_region_tree tree9 (fun V => SD V m w.heap.size g (oo + k * 8) q e d) (by kernel_rfl) (by kernel_rfl) (fun _ _ _ _ _ h => h) ⟨HV.out.drew.h3, HV.out.drew.head, HD.out _ HV.out.drew.old⟩ ?_)
    replace HV := Lib.hid HV.out.drew
    generalize wr.drew = V at *
    iterate 6 (refine Lk.tr_take ?_ rfl rfl ?_ ?_; rotate_left; (focus (intro w' hS; (try dsimp only at hS); first | (refine (rE hS.1 _ rfl rfl).trans ?_; with_reducible rfl) | (refine (rPl hS.2.1 _ rfl rfl).trans ?_; with_reducible rfl) | (refine (rDm _ rfl _ _ rfl hS.2.2).trans ?_; with_reducible rfl) | (go_simp; try with_reducible rfl))); simp only [Act.put, List.setIfInBounds_toArray, List.set_cons_zero, List.set_cons_succ])
    refine Lk.tr_two ?_ ?_
    · refine Lk.stp_step rfl rfl (fun K hK => ?_)
      go_simp
      (with_reducible refine (C.out _ HV.out.old).mono ?_)
      rintro y W2 ⟨rfl, hb⟩
      replace HV := Lib.hid (HV.out.grow hb)
      clear hb
      refine hK.out _ _ ⟨HV.out.h3, HV.out.head, HD.out _ HV.out.old⟩ ?_
      clear hK K
      try simp only [Act.put, List.setIfInBounds_toArray, List.set_cons_zero, List.set_cons_succ]
      refine Lk.tr_step rfl rfl (fun K hK => ?_)
      go_simp
      refine hK.out _ _ ⟨(HV.out.alloc _).h3, (HV.out.alloc _).head, HD.out _ (HV.out.alloc _).old⟩ ?_
      clear hK K
      try simp only [Act.put, List.setIfInBounds_toArray, List.set_cons_zero, List.set_cons_succ]
      refine Lk.tr_step rfl rfl (fun K hK => ?_)
      refine stpK _ _ rfl rfl W2.heap.size ⟨0, 0, 0, 0, false⟩ r rfl rfl (heap_alloc_last W2 _) ?_
      intro W3 hP hO
      have hmb := Lib.hid (show m < W2.heap.size from HV.out.lt List.mem_cons_self)
      replace HV := Lib.hid (HV.out.put hP hO)
      clear hP hO
      generalize W2.heap.size = b at *
      refine hK.out _ _ ⟨HV.out.h4, HV.out.h2, HD.out _ HV.out.old⟩ ?_
      clear hK K
      try simp only [Act.put, List.setIfInBounds_toArray, List.set_cons_zero, List.set_cons_succ]
      refine Lk.tr_nil (NoPanic.normal ?_)
      go_wp2_with fail
      refine wp_region_noPanic (Lk.wp_region_ordered ord10 (fun V => SM V b m w.heap.size r q e) (by kernel_rfl) (by kernel_rfl) (fun _ _ _ _ _ h => h) (by first | (with_reducible exact (sm HV.out)) | (with_reducible exact (sm HV.out.drew))) ?_)
      replace HV := Lib.hid HV.out.drew
      iterate 6 (refine Lk.ord_take ?_ rfl rfl ?_ ?_; rotate_left; (focus (intro w' hS; (try dsimp only at hS); first | (refine (rE hS.1 _ rfl rfl).trans ?_; with_reducible rfl) | (go_simp; try with_reducible rfl))); simp only [Act.put, List.setIfInBounds_toArray, List.set_cons_zero, List.set_cons_succ])
      refine Lk.ord_step rfl rfl (fun K hK => ?_)
      go_simp
      (with_reducible refine (CR.out _ HV.out.old).mono ?_)
      rintro r W ⟨rfl, hb⟩
      replace HV := Lib.hid (HV.out.grow hb)
      clear hb
      refine hK.out _ _ (by first | (with_reducible exact (sm HV.out)) | (with_reducible exact (sm HV.out.drew))) ?_
      clear hK K
      try simp only [Act.put, List.setIfInBounds_toArray, List.set_cons_zero, List.set_cons_succ]
      iterate 31 (refine Lk.ord_take ?_ rfl rfl ?_ ?_; rotate_left; (focus (intro w' hS; (try dsimp only at hS); first | (refine (rE hS.1 _ rfl rfl).trans ?_; with_reducible rfl) | (go_simp; try with_reducible rfl))); simp only [Act.put, List.setIfInBounds_toArray, List.set_cons_zero, List.set_cons_succ])
      refine Lk.ord_nil (NoPanic.normal ?_)
      replace HV := Lib.hid (hv_swap HV.out)
      go_wp2_with (first | (refine ldp rfl _ rfl b r rfl HV.out.h2 ?_) | (refine stp rfl _ _ rfl rfl m q r rfl rfl HV.out.head ?_; intro w' hP hO; replace HV := Lib.hid (l3_put (hv_swap HV.out).tail hO hP hm.out hw.out); clear hP hO) | fail)
      go_roundw
      case rel => exact ⟨k + 1, r, hk2, by go_num, HR.out, HV.out⟩
      case measure => simp only [intOf, Int.toNat_natCast]; omega
    · have hmb := Lib.hid (show m < V.heap.size from HV.out.lt List.mem_cons_self)
      refine Lk.stp_step rfl rfl (fun K hK => ?_)
      go_simp
      replace HV := Lib.hid (HV.out.made zo)
      refine hK.out _ _ ⟨HV.out.h4, HV.out.h2, HD.out _ HV.out.old⟩ ?_
      clear hK K
      try simp only [Act.put, List.setIfInBounds_toArray, List.set_cons_zero, List.set_cons_succ]
      refine Lk.tr_step rfl rfl (fun K hK => ?_)
      go_simp
      (with_reducible refine (C.out _ HV.out.old).mono ?_)
      rintro y W2 ⟨rfl, hb⟩
      replace HV := Lib.hid (HV.out.grow hb)
      clear hb
      refine hK.out _ _ ⟨HV.out.h4, HV.out.h2, HD.out _ HV.out.old⟩ ?_
      clear hK K
      try simp only [Act.put, List.setIfInBounds_toArray, List.set_cons_zero, List.set_cons_succ]
      refine Lk.tr_step rfl rfl (fun K hK => ?_)
      refine stpK _ _ rfl rfl _ ⟨0, 0, 0, 0, false⟩ r rfl rfl HV.out.head ?_
      intro W3 hP hO
      replace HV := Lib.hid (HV.out.change hO hP (by have h1 := hmb.out; have h2 := hm.out; intro x hx; simp only [List.mem_cons, List.not_mem_nil, or_false] at hx; rcases hx with rfl | rfl | rfl <;> (dsimp only; omega)) (by have h1 := hmb.out; have h2 := hm.out; omega))
      clear hP hO
      refine hK.out _ _ ⟨HV.out.h4, HV.out.h2, HD.out _ HV.out.old⟩ ?_
      clear hK K
      try simp only [Act.put, List.setIfInBounds_toArray, List.set_cons_zero, List.set_cons_succ]
      refine Lk.tr_nil (NoPanic.normal ?_)
      generalize V.heap.size = b at *
      go_wp2_with fail
      refine wp_region_noPanic (Lk.wp_region_ordered ord10 (fun V => SM V b m w.heap.size r q e) (by kernel_rfl) (by kernel_rfl) (fun _ _ _ _ _ h => h) (by first | (with_reducible exact (sm HV.out)) | (with_reducible exact (sm HV.out.drew))) ?_)
      replace HV := Lib.hid HV.out.drew
      iterate 6 (refine Lk.ord_take ?_ rfl rfl ?_ ?_; rotate_left; (focus (intro w' hS; (try dsimp only at hS); first | (refine (rE hS.1 _ rfl rfl).trans ?_; with_reducible rfl) | (go_simp; try with_reducible rfl))); simp only [Act.put, List.setIfInBounds_toArray, List.set_cons_zero, List.set_cons_succ])
      refine Lk.ord_step rfl rfl (fun K hK => ?_)
      go_simp
      (with_reducible refine (CR.out _ HV.out.old).mono ?_)
      rintro r W ⟨rfl, hb⟩
      replace HV := Lib.hid (HV.out.grow hb)
      clear hb
      refine hK.out _ _ (by first | (with_reducible exact (sm HV.out)) | (with_reducible exact (sm HV.out.drew))) ?_
      clear hK K
      try simp only [Act.put, List.setIfInBounds_toArray, List.set_cons_zero, List.set_cons_succ]
      iterate 31 (refine Lk.ord_take ?_ rfl rfl ?_ ?_; rotate_left; (focus (intro w' hS; (try dsimp only at hS); first | (refine (rE hS.1 _ rfl rfl).trans ?_; with_reducible rfl) | (go_simp; try with_reducible rfl))); simp only [Act.put, List.setIfInBounds_toArray, List.set_cons_zero, List.set_cons_succ])
      refine Lk.ord_nil (NoPanic.normal ?_)
      replace HV := Lib.hid (hv_swap HV.out)
      go_wp2_with (first | (refine ldp rfl _ rfl b r rfl HV.out.h2 ?_) | (refine stp rfl _ _ rfl rfl m q r rfl rfl HV.out.head ?_; intro w' hP hO; replace HV := Lib.hid (l3_put (hv_swap HV.out).tail hO hP hm.out hw.out); clear hP hO) | fail)
      go_roundw
      case rel => exact ⟨k + 1, r, hk2, by go_num, HR.out, HV.out⟩
      case measure => simp only [intOf, Int.toNat_natCast]; omega
theorem PlantRises_walk (e : Eg) (p : Pl.Pt) (A : Option Addr) (T : List Pl.Dr) (cp : Nat) (w : World) (hE : EngIn w e) (hA : Drs w A T) : Calls Try.prog 4 #[.agg (ec e), .agg (pc p), .slice A T.length cp] w fun r w' => r = .returned (.bool true) ∧ Below w.heap.size w w' := by
  cases h1 : fewE e with
  | false => exact rises_few e p A T cp w h1
  | true =>
    cases h2 : Em.okB (en e) with
    | false => exact rises_no e p A T cp w hE h1 h2
    | true => exact rises_go e p A T cp w hE hA h1 h2

end Plw
end Go.Proofs.Ytioiffhbbhlgeaa
