/- The document's own answer: the least that three values leave. -/
import Derived.Test.YtjjconkelbjodaaScheduleRef
import Derived.Test.YtjjconkelbjodaaFloKit
import Derived.Test.YtjjconkelbjodaaLimitCalls
namespace Go.Proofs.Ytjjconkelbjodaa
namespace Lw5
open Go.RowKit FixC Lk Ew Hw

abbrev ac3 (a b c : Int) : Array Value := #[.int .i64 a, .int .i64 b, .int .i64 c]
abbrev ao3 (a b c : Int) : Obj := .cells (ac3 a b c) 30 (0, 0)
theorem info_a3 : (Try.prog.info? 30).map (·.size) = some 3 := by kernel_rfl
theorem ac3_one (a b c : Int) : (ac3 a b c).all (·.oneCell') = true := by simp [ac3, Value.oneCell']
theorem rtrim_v {v r m f l t : Int} (h : Lt.trim v r m f l = t) (w : World) : Calls Try.prog 10 #[.int .i64 v, .int .i64 r, .int .i64 m, .int .i64 f, .int .i64 l] w fun e w' => e = .returned (.int .i64 t) ∧ w = w' := h ▸ rtrim_c v r m f l w
theorem rcl_ok (l : Lg) (w : World) (hL : LawIn w l) (h : Sd.okB (la l) = true) : Calls Try.prog 24 #[.agg (lc l)] w fun r w' => r = .returned (.int .i64 0) ∧ Below w.heap.size w w' := by
  have := rcheck_c l w hL; rwa [show Sd.err (la l) = 0 from by rw [Sd.err, if_pos h]] at this
theorem rcl_no (l : Lg) (w : World) (hL : LawIn w l) (h : Sd.okB (la l) = false) : Calls Try.prog 24 #[.agg (lc l)] w fun r w' => r = .returned (.int .i64 140) ∧ Below w.heap.size w w' := by
  have := rcheck_c l w hL; rwa [show Sd.err (la l) = 140 from by rw [Sd.err, h]; rfl] at this

theorem rleast_no (l : Lg) (v1 v2 v3 f n : Int) (w : World) (hL : LawIn w l) (h : Sd.okB (la l) = false) :
    Calls Try.prog 13 #[.agg (lc l), .int .i64 v1, .int .i64 v2, .int .i64 v3, .int .i64 f, .int .i64 n] w fun e w' => e = .returned (.tuple #[.int .i64 0, .int .i64 0]) ∧ Below w.heap.size w w' := by
  have HV := Lib.hid (one_l w l)
  have C1 := Lib.hid (fun W (hW : Below w.heap.size w W) => rcl_no l W (hL.below hW) h)
  clear hL h
  go_enter Try.func13, Try.ntmps13
  go_wp2_with (first | (refine ldl rfl _ rfl _ _ rfl HV.out.head ?_) | (go_at_call 24; (with_reducible refine (C1.out _ HV.out.old).mono ?_); rintro r W ⟨rfl, hb⟩; replace HV := Lib.hid (HV.out.grow hb); clear hb) | fail)
  go_ret2
  exact ⟨rfl, HV.out.old⟩

theorem ord_rleast : Lk.floatB (Lk.opsOf Try.f13 3) 25 14 [(0, false), (1, false), (2, false), (3, false), (4, false), (5, false), (6, false), (8, false), (9, false), (10, false), (11, false), (12, false), (13, false), (14, false), (16, false), (17, false), (18, false), (19, false), (20, false), (21, false), (22, false), (7, true), (15, true), (23, true), (24, false)] [(26, true)] = true := by kernel_rfl

set_option maxRecDepth 100000 in
set_option maxHeartbeats 4000000 in
theorem rleast_ok (l : Lg) (v1 v2 v3 f n t1 t2 t3 F M : Int) (w : World) (hL : LawIn w l) (h : Sd.okB (la l) = true)
    (e1 : Lt.trim v1 l.red1 l.margin f n = t1) (e2 : Lt.trim v2 l.red2 l.margin f n = t2) (e3 : Lt.trim v3 l.redE l.margin f n = t3) (eF : Fx.sat f = F) (eM : Lt.least t1 t2 t3 = M) :
    Calls Try.prog 13 #[.agg (lc l), .int .i64 v1, .int .i64 v2, .int .i64 v3, .int .i64 f, .int .i64 n] w fun e w' => e = .returned (.tuple #[.int .i64 M, .int .i64 (Lt.which t1 t2 t3 F)]) ∧ Below w.heap.size w w' := by
  have HV := Lib.hid (one_l w l)
  have C1 := Lib.hid (fun W (hW : Below w.heap.size w W) => rcl_ok l W (hL.below hW) h)
  have CS := Lib.hid (rsat_v eF)
  have Z1 := Lib.hid (rtrim_v e1)
  have Z2 := Lib.hid (rtrim_v e2)
  have Z3 := Lib.hid (rtrim_v e3)
  have HM : Hid ((Lt.lw3 t1 t2 t3).1 = M) := (Lt.lw_least ..).trans eM
  have HW := Lib.hid (Lt.lw_which t1 t2 t3 F)
  clear hL h e1 e2 e3 eF eM
  go_enter Try.func13, Try.ntmps13
  go_upto_region 3 with (first | (refine ldl rfl _ rfl _ _ rfl HV.out.head ?_) | (go_at_call 24; (with_reducible refine (C1.out _ HV.out.old).mono ?_); rintro r W ⟨rfl, hb⟩; replace HV := Lib.hid (HV.out.grow hb); clear hb C1) | fail)
  refine wp_region_noPanic (Lk.wp_region_floating ord_rleast (fun V => LFld V w.heap.size l) (Lk.FT w (ao3 0 0 0) [(w.heap.size, lo l)] w.heap.size) (ao3 0 0 0) (by kernel_rfl) (by kernel_rfl) (fun _ _ _ _ _ h => h) ?hA (Lk.FT.flo (x := lo l) (by simp) fun om V hv => lfld (hv.has (w.heap.size, lo l) (by simp))) (Lk.FT.zero HV.out.drew) ?_)
  case hA =>
    intro o ho a W1
    injection ho with ho
    subst ho
    go_simp
  iterate 21 (refine Lk.flo_take ?_ rfl (by decide) (fun _ => rfl) ?_ ?_; rotate_left; (focus (intro x w' hS; (try dsimp only at hS); simp only [Act.put, List.setIfInBounds_toArray, List.set_cons_zero, List.set_cons_succ]; go_simp; try with_reducible rfl)); simp only [Act.put, List.setIfInBounds_toArray, List.set_cons_zero, List.set_cons_succ])
  refine Lk.flo_step (.int .i64 t1) (Lk.FT w (ao3 0 0 0) [(w.heap.size, lo l)] w.heap.size) (Lk.FT.flo (x := lo l) (by simp) fun om V hv => lfld (hv.has (w.heap.size, lo l) (by simp))) rfl (by decide) (fun _ => rfl) ?_ ?_
  · intro om x W2 hT K hK
    simp only [Act.put, List.setIfInBounds_toArray, List.set_cons_zero, List.set_cons_succ]
    go_simp
    (with_reducible refine (Z1.out _).mono ?_)
    rintro r W3 ⟨rfl, rfl⟩
    exact hK.out _ _ rfl hT
  simp only [Act.put, List.setIfInBounds_toArray, List.set_cons_zero, List.set_cons_succ]
  refine Lk.flo_step (.int .i64 t2) (Lk.FT w (ao3 0 0 0) [(w.heap.size, lo l)] w.heap.size) (Lk.FT.flo (x := lo l) (by simp) fun om V hv => lfld (hv.has (w.heap.size, lo l) (by simp))) rfl (by decide) (fun _ => rfl) ?_ ?_
  · intro om x W2 hT K hK
    simp only [Act.put, List.setIfInBounds_toArray, List.set_cons_zero, List.set_cons_succ]
    go_simp
    (with_reducible refine (Z2.out _).mono ?_)
    rintro r W3 ⟨rfl, rfl⟩
    exact hK.out _ _ rfl hT
  simp only [Act.put, List.setIfInBounds_toArray, List.set_cons_zero, List.set_cons_succ]
  refine Lk.flo_step (.int .i64 t3) (Lk.FT w (ao3 0 0 0) [(w.heap.size, lo l)] w.heap.size) (Lk.FT.flo (x := lo l) (by simp) fun om V hv => lfld (hv.has (w.heap.size, lo l) (by simp))) rfl (by decide) (fun _ => rfl) ?_ ?_
  · intro om x W2 hT K hK
    simp only [Act.put, List.setIfInBounds_toArray, List.set_cons_zero, List.set_cons_succ]
    go_simp
    (with_reducible refine (Z3.out _).mono ?_)
    rintro r W3 ⟨rfl, rfl⟩
    exact hK.out _ _ rfl hT
  simp only [Act.put, List.setIfInBounds_toArray, List.set_cons_zero, List.set_cons_succ]
  iterate 1 (refine Lk.flo_take ?_ rfl (by decide) (fun _ => rfl) ?_ ?_; rotate_left; (focus (intro x w' hS; (try dsimp only at hS); simp only [Act.put, List.setIfInBounds_toArray, List.set_cons_zero, List.set_cons_succ]; go_simp; try with_reducible rfl)); simp only [Act.put, List.setIfInBounds_toArray, List.set_cons_zero, List.set_cons_succ])
  refine Lk.flo_nil fun m W2 hT => ?_
  replace HV := Lib.hid hT.end.1
  have hm := hT.end.2
  clear hT Z1 Z2 Z3
  simp only [Act.put, List.setIfInBounds_toArray, List.set_cons_zero, List.set_cons_succ]
  refine Lk.ord_step rfl rfl (fun K hK => ?_)
  refine wp_store_row 30 _ _ rfl m (ac3 t1 t2 t3) rfl rfl 30 (ac3 0 0 0) HV.out.head info_a3 rfl (ac3_one ..) ?_
  replace HV := Lib.hid (HV.out.change (o' := ao3 t1 t2 t3) (Off.row _ m (ac3 t1 t2 t3)) (setRow_heap _ m (ac3 0 0 0) (ac3 t1 t2 t3) 30 (0, 0) HV.out.head) (by simp; omega) (by omega))
  refine hK.out _ _ (lfld (HV.out.has (w.heap.size, lo l) (by simp))) ?_
  clear hK K
  simp only [Act.put]
  refine Lk.ord_nil (NoPanic.normal ?_)
  generalize hW5 : W2.setRow m (ac3 t1 t2 t3) = W5 at *
  clear hW5
  have c0 := Joins.cell_of_block HV.out.head 0
  have c1 := Joins.cell_of_block HV.out.head 1
  have c2 := Joins.cell_of_block HV.out.head 2
  simp only [List.getElem?_toArray, List.getElem?_cons_zero, List.getElem?_cons_succ] at c0 c1 c2
  have HB := Lib.hid HV.out.old
  clear HV hm
  go_wp2_with fail
  go_loop [15, 16, 17] (fun a b i => ∃ k : Nat, 1 ≤ k ∧ k ≤ 3 ∧ i = .int .i64 k ∧ a = .int .i64 (if k = 1 then t1 else if k = 2 then (Lt.lw2 t1 t2).1 else (Lt.lw3 t1 t2 t3).1) ∧ b = .int .i64 (if k = 1 then 1 else if k = 2 then (Lt.lw2 t1 t2).2 else (Lt.lw3 t1 t2 t3).2)) (fun _ _ i => 3 - (intOf i).toNat)
  case atStart => exact ⟨1, by omega, by omega, rfl, rfl, rfl⟩
  case round =>
    obtain ⟨k, hk1, hk, rfl, rfl, rfl⟩ := hrel
    obtain rfl | rfl | rfl : k = 1 ∨ k = 2 ∨ k = 3 := by omega
    · rw [show ((1 : Nat) : Int) = 1 from rfl]
      simp only [if_true]
      by_cases hc : t2 < t1
      · have e : Hid (Lt.lw2 t1 t2 = (t2, 2)) := if_pos hc
        go_wp2_with fail
        go_round
        case rel => exact ⟨2, by omega, by omega, by go_num, by simp [e.out], by simp [e.out]⟩
        case measure => simp [intOf]
      · have e : Hid (Lt.lw2 t1 t2 = (t1, 1)) := if_neg hc
        go_wp2_with fail
        go_round
        case rel => exact ⟨2, by omega, by omega, by go_num, by simp [e.out], by simp [e.out]⟩
        case measure => simp [intOf]
    · rw [show ((2 : Nat) : Int) = 2 from rfl]
      simp only [show ¬ (2 = 1) from by decide, if_false, if_true]
      obtain ⟨a, ea⟩ : ∃ x, (Lt.lw2 t1 t2).1 = x := ⟨_, rfl⟩
      obtain ⟨b, eb⟩ : ∃ x, (Lt.lw2 t1 t2).2 = x := ⟨_, rfl⟩
      rw [ea, eb]
      by_cases hc : t3 < a
      · have e : Hid (Lt.lw3 t1 t2 t3 = (t3, 3)) := by show _ = _; unfold Lt.lw3; rw [ea, if_pos hc]
        go_wp2_with fail
        go_round
        case rel => exact ⟨3, by omega, by omega, by go_num, by simp [e.out], by simp [e.out]⟩
        case measure => simp [intOf]
      · have e : Hid (Lt.lw3 t1 t2 t3 = (a, b)) := by show _ = _; unfold Lt.lw3; rw [ea, if_neg hc, ← ea, ← eb]
        go_wp2_with fail
        go_round
        case rel => exact ⟨3, by omega, by omega, by go_num, by simp [e.out], by simp [e.out]⟩
        case measure => simp [intOf]
    · rw [show ((3 : Nat) : Int) = 3 from rfl]
      simp only [show ¬ (3 = 1) from by decide, show ¬ (3 = 2) from by decide, if_false]
      have HW2 := Lib.hid HW.out
      rw [HM.out]
      obtain ⟨b, eb⟩ : ∃ x, (Lt.lw3 t1 t2 t3).2 = x := ⟨_, rfl⟩
      rw [eb]
      by_cases hc : F ≤ M
      · have e : Hid (Lt.which t1 t2 t3 F = 0) := by show _ = _; rw [HW2.out, HM.out, if_pos hc]
        clear eb
        go_wp2_with (first | (go_at_call 21; (with_reducible refine (CS.out _).mono ?_); rintro e w' ⟨rfl, rfl⟩) | fail)
        go_ret2
        exact ⟨ret_int2 rfl e.out.symm, HB.out⟩
      · have e : Hid (Lt.which t1 t2 t3 F = b) := by show _ = _; rw [HW2.out, HM.out, if_neg hc, eb]
        clear eb
        go_wp2_with (first | (go_at_call 21; (with_reducible refine (CS.out _).mono ?_); rintro e w' ⟨rfl, rfl⟩) | fail)
        go_ret2
        exact ⟨ret_int2 rfl e.out.symm, HB.out⟩

end Lw5
end Go.Proofs.Ytjjconkelbjodaa
