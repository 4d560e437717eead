/- What package start answers. Printed by gen_calls.py. -/
import Derived.Test.YtjhgcbkdghcgmaaStartIn
import Derived.Test.YtjhgcbkdghcgmaaSynthCheck
import Derived.Test.YtjhgcbkdghcgmaaScheduleCheck
namespace Go.Proofs.Ytjhgcbkdghcgmaa
namespace Bw
open Go.RowKit TabC Lk Ew Hw

theorem ask_e (b : Nat) (e : Eg) (W : World) (hb : W.heap[b]? = some (eo e)) (hE : EngIn W e) : Calls Try.prog 49 #[.pointer (some ⟨b, 0, none⟩)] W fun r w' => r = .returned (.bool (Em.okB (en e))) ∧ Below W.heap.size W w' := by
  have C := Lib.hid (Ew.check_c e W hE)
  have E : Hid ((Em.err (en e) == 0) = Em.okB (en e)) := by show _ = _; unfold Em.err; cases Em.okB (en e) <;> rfl
  generalize Em.err (en e) = k at *
  generalize Em.okB (en e) = s at *
  clear hE
  go_enter Try.func49, Try.ntmps49
  go_wp2_with (first | (refine lde rfl _ rfl _ _ rfl hb ?_) | (go_at_call 20; (with_reducible refine C.out.mono ?_); rintro r W1 ⟨rfl, hc⟩) | fail)
  go_ret
  exact ⟨ret_bool E.out, hc⟩
theorem ask_l (b : Nat) (l : Lg) (W : World) (hb : W.heap[b]? = some (lo l)) (hL : LawIn W l) : Calls Try.prog 50 #[.pointer (some ⟨b, 0, none⟩)] W fun r w' => r = .returned (.bool (Sd.okB (la l))) ∧ Below W.heap.size W w' := by
  have C := Lib.hid (Hw.check_c l W hL)
  have E : Hid ((Sd.err (la l) == 0) = Sd.okB (la l)) := by show _ = _; unfold Sd.err; cases Sd.okB (la l) <;> rfl
  generalize Sd.err (la l) = k at *
  generalize Sd.okB (la l) = s at *
  clear hL
  go_enter Try.func50, Try.ntmps50
  go_wp2_with (first | (refine ldl rfl _ rfl _ _ rfl hb ?_) | (go_at_call 21; (with_reducible refine C.out.mono ?_); rintro r W1 ⟨rfl, hc⟩) | fail)
  go_ret
  exact ⟨ret_bool E.out, hc⟩

theorem mk_eh {w W : World} {L : List (Nat × Obj)} (h : Hv w W L) (e : Eg) : Calls Try.prog 27 #[.agg (ec e)] W fun r w' => ∃ g, r = .returned (fe g) ∧ Hv w w' ((g, eo e) :: L) :=
  (mk_e e W).mono fun r w' ⟨h1, h2⟩ => ⟨_, h1, by subst h2; exact h.made (eo e)⟩
theorem mk_lh {w W : World} {L : List (Nat × Obj)} (h : Hv w W L) (l : Lg) : Calls Try.prog 28 #[.agg (lc l)] W fun r w' => ∃ g, r = .returned (fl g) ∧ Hv w w' ((g, lo l) :: L) :=
  (mk_l l W).mono fun r w' ⟨h1, h2⟩ => ⟨_, h1, by subst h2; exact h.made (lo l)⟩

section
variable {op : Oper} {a : Act} {w : World}
theorem runE' {e : Eg} {b : Nat} (hP : w.heap[b]? = some (eo e)) (x : Operand) (ho : op.op = .load 26 x) (hx : a.eval x = .pointer (some ⟨b, 0, none⟩)) : (execOp a.eval op).run Try.prog w = .ok (.value (.agg (ec e))) w := by
  unfold execOp
  simp only [ho, hx, Instr.loadAt, Instr.sureAddr, Sem.run_bind, Sem.run_pure, Result.andThen_ok, run_loadVar_row w b 26 26 (ec e) (0, 0) _ hP Try.underlying26 rfl info_e]
theorem runL' {l : Lg} {b : Nat} (hP : w.heap[b]? = some (lo l)) (x : Operand) (ho : op.op = .load 28 x) (hx : a.eval x = .pointer (some ⟨b, 0, none⟩)) : (execOp a.eval op).run Try.prog w = .ok (.value (.agg (lc l))) w := by
  unfold execOp
  simp only [ho, hx, Instr.loadAt, Instr.sureAddr, Sem.run_bind, Sem.run_pure, Result.andThen_ok, run_loadVar_row w b 28 28 (lc l) (0, 0) _ hP Try.underlying28 rfl info_l]
end

theorem ord_ready : Lk.orderedB (Lk.opsOf Try.f12 1) [(0, false), (1, false), (2, false), (3, false), (4, false), (5, true), (6, true), (7, true), (8, false)] = true := by kernel_rfl
set_option maxRecDepth 100000 in
set_option maxHeartbeats 4000000 in
theorem ready_c (e : Eg) (n : Int) (w : World) (h : EngIn w e) : Calls Try.prog 12 #[.agg (ec e), .int .i64 n] w fun r w' => r = .returned (.bool (Em.okB (en e) && decide (e.light ≤ n))) ∧ Below w.heap.size w w' := by
  have HV := Lib.hid ((Hv.nil w).made (eo e))
  have CT := Lib.hid (fun g b W (hg : W.heap[g]? = some (ro1 (fe b))) (hb : W.heap[b]? = some (eo e)) (hW : Below w.heap.size w W) => tell_lights (qc e lz) n g b _ _ W hg (fun V hV => ask_e b e V ((hV.block _ (Array.getElem?_eq_some_iff.1 hb).1).trans hb) ((h.below hW).below hV)) (fun V _ => lights_c e lz n V))
  simp only [qc, lz, tz, List.length_nil] at CT
  clear h
  go_enter Try.func12, Try.ntmps12
  go_wp2_with fail
  refine wp_region_noPanic (Lk.wp_region_ordered ord_ready (fun V => V.heap[w.heap.size]? = some (eo e)) (by kernel_rfl) (by kernel_rfl) (fun _ _ _ _ _ h => h) (by first | (with_reducible exact HV.out.head) | (with_reducible exact HV.out.drew.head)) ?_)
  replace HV := Lib.hid HV.out.drew
  iterate 5 (refine Lk.ord_take ?_ rfl rfl ?_ ?_; rotate_left; (focus (intro w' hS; (try dsimp only at hS); first | (refine (runE' hS _ rfl rfl).trans ?_; with_reducible rfl) | (go_simp; try with_reducible rfl))); simp only [Act.put, List.setIfInBounds_toArray, List.set_cons_zero, List.set_cons_succ])
  refine Lk.ord_step rfl rfl (fun K hK => ?_)
  go_simp
  (with_reducible refine (mk_eh HV.out e).mono ?_)
  rintro r W ⟨b, rfl, hv⟩
  replace HV := Lib.hid hv
  clear hv
  refine hK.out _ _ (by first | (with_reducible exact HV.out.h2) | (with_reducible exact HV.out.drew.h2)) ?_
  clear hK K
  try simp only [Act.put, List.setIfInBounds_toArray, List.set_cons_zero, List.set_cons_succ]
  refine Lk.ord_step rfl rfl (fun K hK => ?_)
  go_simp
  replace HV := Lib.hid (HV.out.made (ro1 (fe b)))
  refine hK.out _ _ (by first | (with_reducible exact HV.out.h3) | (with_reducible exact HV.out.drew.h3)) ?_
  clear hK K
  try simp only [Act.put, List.setIfInBounds_toArray, List.set_cons_zero, List.set_cons_succ]
  refine Lk.ord_step rfl rfl (fun K hK => ?_)
  go_simp
  (with_reducible refine (CT.out _ _ _ HV.out.head HV.out.h2 HV.out.old).mono ?_)
  rintro r W ⟨rfl, hb⟩
  replace HV := Lib.hid (HV.out.grow hb)
  clear hb
  refine hK.out _ _ (by first | (with_reducible exact HV.out.h3) | (with_reducible exact HV.out.drew.h3)) ?_
  clear hK K
  try simp only [Act.put, List.setIfInBounds_toArray, List.set_cons_zero, List.set_cons_succ]
  iterate 1 (refine Lk.ord_take ?_ rfl rfl ?_ ?_; rotate_left; (focus (intro w' hS; (try dsimp only at hS); first | (refine (runE' hS _ rfl rfl).trans ?_; with_reducible rfl) | (go_simp; try with_reducible rfl))); simp only [Act.put, List.setIfInBounds_toArray, List.set_cons_zero, List.set_cons_succ])
  refine Lk.ord_nil (NoPanic.normal ?_)
  go_wp2_with fail
  go_ret
  exact ⟨rfl, HV.out.old⟩

theorem ord_hot : Lk.orderedB (Lk.opsOf Try.f16 1) [(0, false), (1, false), (2, false), (3, false), (4, false), (5, true), (6, true), (7, true), (8, false)] = true := by kernel_rfl
set_option maxRecDepth 100000 in
set_option maxHeartbeats 4000000 in
theorem hot_c (l : Lg) (n : Int) (w : World) (h : LawIn w l) : Calls Try.prog 16 #[.agg (lc l), .int .i64 n] w fun r w' => r = .returned (.bool (Sd.okB (la l) && decide (l.redE ≤ n))) ∧ Below w.heap.size w w' := by
  have HV := Lib.hid ((Hv.nil w).made (lo l))
  have CT := Lib.hid (fun g b W (hg : W.heap[g]? = some (ro1 (fl b))) (hb : W.heap[b]? = some (lo l)) (hW : Below w.heap.size w W) => tell_glows (qc ez l) n g b _ _ W hg (fun V hV => ask_l b l V ((hV.block _ (Array.getElem?_eq_some_iff.1 hb).1).trans hb) ((h.below hW).below hV)) (fun V _ => glows_c ez l n V))
  simp only [qc, ez, tz, List.length_nil] at CT
  clear h
  go_enter Try.func16, Try.ntmps16
  go_wp2_with fail
  refine wp_region_noPanic (Lk.wp_region_ordered ord_hot (fun V => V.heap[w.heap.size]? = some (lo l)) (by kernel_rfl) (by kernel_rfl) (fun _ _ _ _ _ h => h) (by first | (with_reducible exact HV.out.head) | (with_reducible exact HV.out.drew.head)) ?_)
  replace HV := Lib.hid HV.out.drew
  iterate 5 (refine Lk.ord_take ?_ rfl rfl ?_ ?_; rotate_left; (focus (intro w' hS; (try dsimp only at hS); first | (refine (runL' hS _ rfl rfl).trans ?_; with_reducible rfl) | (go_simp; try with_reducible rfl))); simp only [Act.put, List.setIfInBounds_toArray, List.set_cons_zero, List.set_cons_succ])
  refine Lk.ord_step rfl rfl (fun K hK => ?_)
  go_simp
  (with_reducible refine (mk_lh HV.out l).mono ?_)
  rintro r W ⟨b, rfl, hv⟩
  replace HV := Lib.hid hv
  clear hv
  refine hK.out _ _ (by first | (with_reducible exact HV.out.h2) | (with_reducible exact HV.out.drew.h2)) ?_
  clear hK K
  try simp only [Act.put, List.setIfInBounds_toArray, List.set_cons_zero, List.set_cons_succ]
  refine Lk.ord_step rfl rfl (fun K hK => ?_)
  go_simp
  replace HV := Lib.hid (HV.out.made (ro1 (fl b)))
  refine hK.out _ _ (by first | (with_reducible exact HV.out.h3) | (with_reducible exact HV.out.drew.h3)) ?_
  clear hK K
  try simp only [Act.put, List.setIfInBounds_toArray, List.set_cons_zero, List.set_cons_succ]
  refine Lk.ord_step rfl rfl (fun K hK => ?_)
  go_simp
  (with_reducible refine (CT.out _ _ _ HV.out.head HV.out.h2 HV.out.old).mono ?_)
  rintro r W ⟨rfl, hb⟩
  replace HV := Lib.hid (HV.out.grow hb)
  clear hb
  refine hK.out _ _ (by first | (with_reducible exact HV.out.h3) | (with_reducible exact HV.out.drew.h3)) ?_
  clear hK K
  try simp only [Act.put, List.setIfInBounds_toArray, List.set_cons_zero, List.set_cons_succ]
  iterate 1 (refine Lk.ord_take ?_ rfl rfl ?_ ?_; rotate_left; (focus (intro w' hS; (try dsimp only at hS); first | (refine (runL' hS _ rfl rfl).trans ?_; with_reducible rfl) | (go_simp; try with_reducible rfl))); simp only [Act.put, List.setIfInBounds_toArray, List.set_cons_zero, List.set_cons_succ])
  refine Lk.ord_nil (NoPanic.normal ?_)
  go_wp2_with fail
  go_ret
  exact ⟨rfl, HV.out.old⟩

theorem ord_hung : Lk.orderedB (Lk.opsOf Try.f18 1) [(0, false), (1, false), (2, false), (3, false), (4, false), (5, true), (6, true), (7, true), (8, false)] = true := by kernel_rfl
set_option maxRecDepth 100000 in
set_option maxHeartbeats 4000000 in
theorem hung_c (l : Lg) (n : Int) (w : World) (h : LawIn w l) : Calls Try.prog 18 #[.agg (lc l), .int .i64 n] w fun r w' => r = .returned (.bool (Sd.okB (la l) && decide (l.patience ≤ n))) ∧ Below w.heap.size w w' := by
  have HV := Lib.hid ((Hv.nil w).made (lo l))
  have CT := Lib.hid (fun g b W (hg : W.heap[g]? = some (ro1 (fl b))) (hb : W.heap[b]? = some (lo l)) (hW : Below w.heap.size w W) => tell_waits (qc ez l) n g b _ _ W hg (fun V hV => ask_l b l V ((hV.block _ (Array.getElem?_eq_some_iff.1 hb).1).trans hb) ((h.below hW).below hV)) (fun V _ => waits_c ez l n V))
  simp only [qc, ez, tz, List.length_nil] at CT
  clear h
  go_enter Try.func18, Try.ntmps18
  go_wp2_with fail
  refine wp_region_noPanic (Lk.wp_region_ordered ord_hung (fun V => V.heap[w.heap.size]? = some (lo l)) (by kernel_rfl) (by kernel_rfl) (fun _ _ _ _ _ h => h) (by first | (with_reducible exact HV.out.head) | (with_reducible exact HV.out.drew.head)) ?_)
  replace HV := Lib.hid HV.out.drew
  iterate 5 (refine Lk.ord_take ?_ rfl rfl ?_ ?_; rotate_left; (focus (intro w' hS; (try dsimp only at hS); first | (refine (runL' hS _ rfl rfl).trans ?_; with_reducible rfl) | (go_simp; try with_reducible rfl))); simp only [Act.put, List.setIfInBounds_toArray, List.set_cons_zero, List.set_cons_succ])
  refine Lk.ord_step rfl rfl (fun K hK => ?_)
  go_simp
  (with_reducible refine (mk_lh HV.out l).mono ?_)
  rintro r W ⟨b, rfl, hv⟩
  replace HV := Lib.hid hv
  clear hv
  refine hK.out _ _ (by first | (with_reducible exact HV.out.h2) | (with_reducible exact HV.out.drew.h2)) ?_
  clear hK K
  try simp only [Act.put, List.setIfInBounds_toArray, List.set_cons_zero, List.set_cons_succ]
  refine Lk.ord_step rfl rfl (fun K hK => ?_)
  go_simp
  replace HV := Lib.hid (HV.out.made (ro1 (fl b)))
  refine hK.out _ _ (by first | (with_reducible exact HV.out.h3) | (with_reducible exact HV.out.drew.h3)) ?_
  clear hK K
  try simp only [Act.put, List.setIfInBounds_toArray, List.set_cons_zero, List.set_cons_succ]
  refine Lk.ord_step rfl rfl (fun K hK => ?_)
  go_simp
  (with_reducible refine (CT.out _ _ _ HV.out.head HV.out.h2 HV.out.old).mono ?_)
  rintro r W ⟨rfl, hb⟩
  replace HV := Lib.hid (HV.out.grow hb)
  clear hb
  refine hK.out _ _ (by first | (with_reducible exact HV.out.h3) | (with_reducible exact HV.out.drew.h3)) ?_
  clear hK K
  try simp only [Act.put, List.setIfInBounds_toArray, List.set_cons_zero, List.set_cons_succ]
  iterate 1 (refine Lk.ord_take ?_ rfl rfl ?_ ?_; rotate_left; (focus (intro w' hS; (try dsimp only at hS); first | (refine (runL' hS _ rfl rfl).trans ?_; with_reducible rfl) | (go_simp; try with_reducible rfl))); simp only [Act.put, List.setIfInBounds_toArray, List.set_cons_zero, List.set_cons_succ])
  refine Lk.ord_nil (NoPanic.normal ?_)
  go_wp2_with fail
  go_ret
  exact ⟨rfl, HV.out.old⟩

theorem ord_away : Lk.orderedB (Lk.opsOf Try.f14 1) [(0, false), (1, false), (2, false), (3, false), (4, false), (5, false), (6, false), (7, true), (8, true), (9, true), (10, false), (11, false)] = true := by kernel_rfl
set_option maxRecDepth 100000 in
set_option maxHeartbeats 4000000 in
theorem away_c (l : Lg) (n : Int) (w : World) (h : LawIn w l) : Calls Try.prog 14 #[.agg (lc l), .bool true, .int .i64 n] w fun r w' => r = .returned (.bool (Sd.okB (la l) && decide (l.idle ≤ n))) ∧ Below w.heap.size w w' := by
  have HV := Lib.hid ((Hv.nil w).made (lo l))
  have CT := Lib.hid (fun g b W (hg : W.heap[g]? = some (ro1 (fl b))) (hb : W.heap[b]? = some (lo l)) (hW : Below w.heap.size w W) => tell_idles (qc ez l) n g b _ _ W hg (fun V hV => ask_l b l V ((hV.block _ (Array.getElem?_eq_some_iff.1 hb).1).trans hb) ((h.below hW).below hV)) (fun V _ => idles_c ez l n V))
  simp only [qc, ez, tz, List.length_nil] at CT
  clear h
  go_enter Try.func14, Try.ntmps14
  go_wp2_with fail
  refine wp_region_noPanic (Lk.wp_region_ordered ord_away (fun V => V.heap[w.heap.size]? = some (lo l)) (by kernel_rfl) (by kernel_rfl) (fun _ _ _ _ _ h => h) (by first | (with_reducible exact HV.out.head) | (with_reducible exact HV.out.drew.head)) ?_)
  replace HV := Lib.hid HV.out.drew
  iterate 7 (refine Lk.ord_take ?_ rfl rfl ?_ ?_; rotate_left; (focus (intro w' hS; (try dsimp only at hS); first | (refine (runL' hS _ rfl rfl).trans ?_; with_reducible rfl) | (go_simp; try with_reducible rfl))); simp only [Act.put, List.setIfInBounds_toArray, List.set_cons_zero, List.set_cons_succ])
  refine Lk.ord_step rfl rfl (fun K hK => ?_)
  go_simp
  (with_reducible refine (mk_lh HV.out l).mono ?_)
  rintro r W ⟨b, rfl, hv⟩
  replace HV := Lib.hid hv
  clear hv
  refine hK.out _ _ (by first | (with_reducible exact HV.out.h2) | (with_reducible exact HV.out.drew.h2)) ?_
  clear hK K
  try simp only [Act.put, List.setIfInBounds_toArray, List.set_cons_zero, List.set_cons_succ]
  refine Lk.ord_step rfl rfl (fun K hK => ?_)
  go_simp
  replace HV := Lib.hid (HV.out.made (ro1 (fl b)))
  refine hK.out _ _ (by first | (with_reducible exact HV.out.h3) | (with_reducible exact HV.out.drew.h3)) ?_
  clear hK K
  try simp only [Act.put, List.setIfInBounds_toArray, List.set_cons_zero, List.set_cons_succ]
  refine Lk.ord_step rfl rfl (fun K hK => ?_)
  go_simp
  (with_reducible refine (CT.out _ _ _ HV.out.head HV.out.h2 HV.out.old).mono ?_)
  rintro r W ⟨rfl, hb⟩
  replace HV := Lib.hid (HV.out.grow hb)
  clear hb
  refine hK.out _ _ (by first | (with_reducible exact HV.out.h3) | (with_reducible exact HV.out.drew.h3)) ?_
  clear hK K
  try simp only [Act.put, List.setIfInBounds_toArray, List.set_cons_zero, List.set_cons_succ]
  iterate 2 (refine Lk.ord_take ?_ rfl rfl ?_ ?_; rotate_left; (focus (intro w' hS; (try dsimp only at hS); first | (refine (runL' hS _ rfl rfl).trans ?_; with_reducible rfl) | (go_simp; try with_reducible rfl))); simp only [Act.put, List.setIfInBounds_toArray, List.set_cons_zero, List.set_cons_succ])
  refine Lk.ord_nil (NoPanic.normal ?_)
  go_wp2_with fail
  go_ret
  exact ⟨rfl, HV.out.old⟩

theorem ord_fu : Lk.orderedB (Lk.opsOf Try.f10 1) [(0, false), (1, false), (2, false), (3, false), (4, false), (5, false), (7, false), (6, true), (8, true), (9, true), (10, true), (11, false)] = true := by kernel_rfl
set_option maxRecDepth 100000 in
set_option maxHeartbeats 4000000 in
theorem fuel_c (e : Eg) (l : Lg) (n : Int) (w : World) (hE : EngIn w e) (hL : LawIn w l) : Calls Try.prog 10 #[.agg (ec e), .agg (lc l), .int .i64 n] w fun r w' => r = .returned (.int .i64 (Sb.fuel (en e) (la l) n)) ∧ Below w.heap.size w w' := by
  have HV := Lib.hid (((Hv.nil w).made (eo e)).made (lo l))
  simp only [World.size_alloc] at HV
  have CT := Lib.hid (fun g b c W (hg : W.heap[g]? = some (ro2 (fe b) (fl c))) (hb : W.heap[b]? = some (eo e)) (hc : W.heap[c]? = some (lo l)) (hW : Below w.heap.size w W) => tell_fuel (qc e l) n (max (Tb.atv l.s.xs l.s.ys n) e.lean) g b c _ _ W hg
    (fun V hV => ask_e b e V ((hV.block _ (Array.getElem?_eq_some_iff.1 hb).1).trans hb) ((hE.below hW).below hV)) (fun V hV => ask_l c l V ((hV.block _ (Array.getElem?_eq_some_iff.1 hc).1).trans hc) ((hL.below hW).below hV)) (fun V hV => fuelq_c e l n V ((hL.below hW).below hV).s))
  have EQ : Hid ((if (Em.okB (en e) && Sd.okB (la l)) = true then max (Tb.atv l.s.xs l.s.ys n) e.lean else 0) = Sb.fuel (en e) (la l) n) := rfl
  generalize Em.okB (en e) = s at *
  generalize Sd.okB (la l) = t at *
  generalize max (Tb.atv l.s.xs l.s.ys n) e.lean = a at *
  generalize (if (s && t) = true then a else 0) = v at *
  clear hE hL
  go_enter Try.func10, Try.ntmps10
  go_wp2_with fail
  refine wp_region_noPanic (Lk.wp_region_ordered ord_fu (fun V => V.heap[w.heap.size]? = some (eo e) ∧ V.heap[w.heap.size + 1]? = some (lo l)) (by kernel_rfl) (by kernel_rfl) (fun _ _ _ _ _ h => h) (by first | (with_reducible exact ⟨HV.out.h2, HV.out.head⟩) | (with_reducible exact ⟨HV.out.drew.h2, HV.out.drew.head⟩)) ?_)
  replace HV := Lib.hid HV.out.drew
  iterate 7 (refine Lk.ord_take ?_ rfl rfl ?_ ?_; rotate_left; (focus (intro w' hS; (try dsimp only at hS); first | (refine (runE' hS.1 _ rfl rfl).trans ?_; with_reducible rfl) | (refine (runL' hS.2 _ rfl rfl).trans ?_; with_reducible rfl) | (go_simp; try with_reducible rfl))); simp only [Act.put, List.setIfInBounds_toArray, List.set_cons_zero, List.set_cons_succ])
  refine Lk.ord_step rfl rfl (fun K hK => ?_)
  go_simp
  (with_reducible refine (mk_eh HV.out e).mono ?_)
  rintro r W ⟨b, rfl, hv⟩
  replace HV := Lib.hid hv
  clear hv
  refine hK.out _ _ (by first | (with_reducible exact ⟨HV.out.h3, HV.out.h2⟩) | (with_reducible exact ⟨HV.out.drew.h3, HV.out.drew.h2⟩)) ?_
  clear hK K
  try simp only [Act.put, List.setIfInBounds_toArray, List.set_cons_zero, List.set_cons_succ]
  refine Lk.ord_step rfl rfl (fun K hK => ?_)
  go_simp
  (with_reducible refine (mk_lh HV.out l).mono ?_)
  rintro r W ⟨c, rfl, hv⟩
  replace HV := Lib.hid hv
  clear hv
  refine hK.out _ _ (by first | (with_reducible exact ⟨HV.out.h4, HV.out.h3⟩) | (with_reducible exact ⟨HV.out.drew.h4, HV.out.drew.h3⟩)) ?_
  clear hK K
  try simp only [Act.put, List.setIfInBounds_toArray, List.set_cons_zero, List.set_cons_succ]
  refine Lk.ord_step rfl rfl (fun K hK => ?_)
  go_simp
  replace HV := Lib.hid (HV.out.made (ro2 (fe b) (fl c)))
  refine hK.out _ _ (by first | (with_reducible exact ⟨HV.out.tail.h4, HV.out.h4⟩) | (with_reducible exact ⟨HV.out.drew.tail.h4, HV.out.drew.h4⟩)) ?_
  clear hK K
  try simp only [Act.put, List.setIfInBounds_toArray, List.set_cons_zero, List.set_cons_succ]
  refine Lk.ord_step rfl rfl (fun K hK => ?_)
  go_simp
  (with_reducible refine (CT.out _ _ _ _ HV.out.head HV.out.h3 HV.out.h2 HV.out.old).mono ?_)
  rintro r W ⟨rfl, hb⟩
  replace HV := Lib.hid (HV.out.grow hb)
  clear hb
  refine hK.out _ _ (by first | (with_reducible exact ⟨HV.out.tail.h4, HV.out.h4⟩) | (with_reducible exact ⟨HV.out.drew.tail.h4, HV.out.drew.h4⟩)) ?_
  clear hK K
  try simp only [Act.put, List.setIfInBounds_toArray, List.set_cons_zero, List.set_cons_succ]
  iterate 1 (refine Lk.ord_take ?_ rfl rfl ?_ ?_; rotate_left; (focus (intro w' hS; (try dsimp only at hS); first | (refine (runE' hS.1 _ rfl rfl).trans ?_; with_reducible rfl) | (refine (runL' hS.2 _ rfl rfl).trans ?_; with_reducible rfl) | (go_simp; try with_reducible rfl))); simp only [Act.put, List.setIfInBounds_toArray, List.set_cons_zero, List.set_cons_succ])
  refine Lk.ord_nil (NoPanic.normal ?_)
  go_wp2_with fail
  go_ret
  exact ⟨by rw [← EQ.out]; rfl, HV.out.old⟩

theorem away_no (l : Lg) (n : Int) (w : World) : Calls Try.prog 14 #[.agg (lc l), .bool false, .int .i64 n] w fun r w' => r = .returned (.bool false) ∧ Below w.heap.size w w' := by
  have HB : Hid (∀ n, Below w.heap.size w ((w.alloc (Obj.cells (lc l) 28 (0, 0))).drewN n)) := fun n => ((Hv.nil w).made (lo l)).old.trans ⟨rfl, rfl, rfl, Nat.le_refl _, fun _ _ => rfl⟩
  go_enter Try.func14, Try.ntmps14
  go_wp2_with fail
  go_quiet (fail)
  go_wp2_with fail
  go_ret
  exact ⟨rfl, HB.out _⟩

end Bw
end Go.Proofs.Ytjhgcbkdghcgmaa
