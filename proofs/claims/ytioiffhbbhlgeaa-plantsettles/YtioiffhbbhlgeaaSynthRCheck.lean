/- The document's own answer: whether an engine may be. -/
import Derived.Test.YtioiffhbbhlgeaaSynthFld
import Derived.Test.YtioiffhbbhlgeaaTabRef4
import Derived.Test.YtioiffhbbhlgeaaMixKit
import Derived.Deep.DeepCutAuto
namespace Go.Proofs.Ytioiffhbbhlgeaa
namespace Ew
open Go.RowKit TabC Lk

theorem rwithin_c (n lo hi : Int) (w : World) : Calls Try.prog 54 #[.int .i64 n, .int .i64 lo, .int .i64 hi] w fun r w' => r = .returned (.bool (Em.within n lo hi)) ∧ w = w' := by
  go_enter Try.func54, Try.ntmps54
  go_wp2
  all_goals
    go_ret
    exact ⟨ret_bool (by simp [Em.within]; try omega), rfl⟩
theorem rw_v {n lo hi : Int} {b : Bool} (h : Em.within n lo hi = b) (w : World) : Calls Try.prog 54 #[.int .i64 n, .int .i64 lo, .int .i64 hi] w fun r w' => r = .returned (.bool b) ∧ w = w' := h ▸ rwithin_c n lo hi w
theorem rr_v {w : World} {t : Tv} {b : Bool} (h : Tb.rsB t.xs t.ys = b) (hT : TabIn w t.A t.B t.xs t.ys) {W : World} (hW : Below w.heap.size w W) : Calls Try.prog 53 #[.agg #[.slice t.A t.xs.length t.ca, .slice t.B t.ys.length t.cb]] W fun r w' => r = .returned (.bool b) ∧ Below W.heap.size W w' := h ▸ rrising_c t.A t.B t.ca t.cb t.xs t.ys W (hT.below hW)
theorem ord_rcheck : Lk.mixedB (Lk.opsOf Try.f27 7) [false, false, false, false, false, false, false, false, false, false, false, false, false, false, false, false, false, false, false, false, false, false, false, false, false, false, false, false, false, false, false, false, false, false, false, false, false, false, false, false, false, false, false, false] = true := by kernel_rfl
theorem err_of {e : Em.En} {b : Bool} (h : Em.okB e = b) : Em.err e = if b = true then 0 else 100 := by rw [Em.err, h]

set_option maxRecDepth 100000 in
set_option maxHeartbeats 8000000 in
theorem rcheck_bad (e : Eg) (w : World) (hE : EngIn w e) (h0 : Tb.rsB e.f.xs e.f.ys = false) : Calls Try.prog 27 #[.agg (ec e)] w fun r w' => r = .returned (.int .i64 (Em.err (en e))) ∧ Below w.heap.size w w' := by
  have HV := Lib.hid (one_e w e)
  obtain ⟨bp, hp⟩ : ∃ b, Tb.rsB e.p.xs e.p.ys = b := ⟨_, rfl⟩
  obtain ⟨bq, hq⟩ : ∃ b, Tb.rsB e.q.xs e.q.ys = b := ⟨_, rfl⟩
  obtain ⟨bh, hh⟩ : ∃ b, Tb.rsB e.h.xs e.h.ys = b := ⟨_, rfl⟩
  obtain ⟨qA1, hA1⟩ : ∃ b, Em.within e.lag2 1 64 = b := ⟨_, rfl⟩
  obtain ⟨qA2, hA2⟩ : ∃ b, Em.within e.lag1 1 64 = b := ⟨_, rfl⟩
  obtain ⟨qA3, hA3⟩ : ∃ b, Em.within e.lagE 1 64 = b := ⟨_, rfl⟩
  obtain ⟨qB1, hB1⟩ : ∃ b, Em.within e.slew 1 1048576 = b := ⟨_, rfl⟩
  obtain ⟨qB2, hB2⟩ : ∃ b, Em.within e.starter 0 1048576 = b := ⟨_, rfl⟩
  obtain ⟨qB3, hB3⟩ : ∃ b, Em.within e.light 0 1048576 = b := ⟨_, rfl⟩
  obtain ⟨qB4, hB4⟩ : ∃ b, Em.within e.lean 0 1048576 = b := ⟨_, rfl⟩
  obtain ⟨qB5, hB5⟩ : ∃ b, Em.within e.disturb 0 1048576 = b := ⟨_, rfl⟩
  have HO : Hid (Em.okB (en e) = (false && bp && bq && bh && (qA1 && qA2 && qA3) && (qB1 && qB2 && qB3 && qB4 && qB5) && (decide (e.light ≤ e.starter) && decide (1 ≤ e.lean) && decide (e.lean ≤ Tb.g e.f.ys 0)))) := by
    subst hp hq hh hA1 hA2 hA3 hB1 hB2 hB3 hB4 hB5
    show Em.okB _ = _
    rw [← h0]
    rfl
  have HF := Lib.hid (fun W (hW : Below w.heap.size w W) => rr_v h0 hE.f hW)
  have HP := Lib.hid (fun W (hW : Below w.heap.size w W) => rr_v hp hE.p hW)
  have HQ := Lib.hid (fun W (hW : Below w.heap.size w W) => rr_v hq hE.q hW)
  have HH := Lib.hid (fun W (hW : Below w.heap.size w W) => rr_v hh hE.h hW)
  have A1 := Lib.hid (rw_v hA1)
  have A2 := Lib.hid (rw_v hA2)
  have A3 := Lib.hid (rw_v hA3)
  have B1 := Lib.hid (rw_v hB1)
  have B2 := Lib.hid (rw_v hB2)
  have B3 := Lib.hid (rw_v hB3)
  have B4 := Lib.hid (rw_v hB4)
  have B5 := Lib.hid (rw_v hB5)
  clear hE h0 hp hq hh hA1 hA2 hA3 hB1 hB2 hB3 hB4 hB5
  obtain ⟨c0, c1, c2, c3, c4, c5, c6, c7, c8, c9, c10, c11, c12, c13, c14, c15⟩ := efld HV.out.head
  go_enter Try.func27, Try.ntmps27
  go_upto_region 5 with (first | (go_at_call 53; (with_reducible refine (HF.out _ HV.out.old).mono ?_); rintro r W ⟨rfl, hb⟩; replace HV := Lib.hid (HV.out.grow hb); clear hb c0 c1 c2 c3 c4 c5 c6 c7 c8 c9 c10 c11 c12 c13 c14 c15; obtain ⟨c0, c1, c2, c3, c4, c5, c6, c7, c8, c9, c10, c11, c12, c13, c14, c15⟩ := efld HV.out.head) | (go_at_call 53; (with_reducible refine (HP.out _ HV.out.old).mono ?_); rintro r W ⟨rfl, hb⟩; replace HV := Lib.hid (HV.out.grow hb); clear hb c0 c1 c2 c3 c4 c5 c6 c7 c8 c9 c10 c11 c12 c13 c14 c15; obtain ⟨c0, c1, c2, c3, c4, c5, c6, c7, c8, c9, c10, c11, c12, c13, c14, c15⟩ := efld HV.out.head) | (go_at_call 53; (with_reducible refine (HQ.out _ HV.out.old).mono ?_); rintro r W ⟨rfl, hb⟩; replace HV := Lib.hid (HV.out.grow hb); clear hb c0 c1 c2 c3 c4 c5 c6 c7 c8 c9 c10 c11 c12 c13 c14 c15; obtain ⟨c0, c1, c2, c3, c4, c5, c6, c7, c8, c9, c10, c11, c12, c13, c14, c15⟩ := efld HV.out.head) | (go_at_call 53; (with_reducible refine (HH.out _ HV.out.old).mono ?_); rintro r W ⟨rfl, hb⟩; replace HV := Lib.hid (HV.out.grow hb); clear hb c0 c1 c2 c3 c4 c5 c6 c7 c8 c9 c10 c11 c12 c13 c14 c15; obtain ⟨c0, c1, c2, c3, c4, c5, c6, c7, c8, c9, c10, c11, c12, c13, c14, c15⟩ := efld HV.out.head) | fail)
  go_cut [7] (fun t wx => t = .bool (qA1 && qA2 && qA3) ∧ Hv w wx [(w.heap.size, eo e)])
  case first =>
    clear HF HP HQ HH B1 B2 B3 B4 B5 HO
    cases qA1
    · go_wp2_with (first | (go_at_call 54; (with_reducible refine (A1.out _).mono ?_); rintro r w' ⟨rfl, rfl⟩) | (go_at_call 54; (with_reducible refine (A2.out _).mono ?_); rintro r w' ⟨rfl, rfl⟩) | (go_at_call 54; (with_reducible refine (A3.out _).mono ?_); rintro r w' ⟨rfl, rfl⟩) | fail)
      go_meet
      case rel => exact ⟨rfl, HV.out⟩
    · skip
      cases qA2
      · go_wp2_with (first | (go_at_call 54; (with_reducible refine (A1.out _).mono ?_); rintro r w' ⟨rfl, rfl⟩) | (go_at_call 54; (with_reducible refine (A2.out _).mono ?_); rintro r w' ⟨rfl, rfl⟩) | (go_at_call 54; (with_reducible refine (A3.out _).mono ?_); rintro r w' ⟨rfl, rfl⟩) | fail)
        go_meet
        case rel => exact ⟨rfl, HV.out⟩
      · skip
        cases qA3
        · go_wp2_with (first | (go_at_call 54; (with_reducible refine (A1.out _).mono ?_); rintro r w' ⟨rfl, rfl⟩) | (go_at_call 54; (with_reducible refine (A2.out _).mono ?_); rintro r w' ⟨rfl, rfl⟩) | (go_at_call 54; (with_reducible refine (A3.out _).mono ?_); rintro r w' ⟨rfl, rfl⟩) | fail)
          go_meet
          case rel => exact ⟨rfl, HV.out⟩
        · skip
          go_wp2_with (first | (go_at_call 54; (with_reducible refine (A1.out _).mono ?_); rintro r w' ⟨rfl, rfl⟩) | (go_at_call 54; (with_reducible refine (A2.out _).mono ?_); rintro r w' ⟨rfl, rfl⟩) | (go_at_call 54; (with_reducible refine (A3.out _).mono ?_); rintro r w' ⟨rfl, rfl⟩) | fail)
          go_meet
          case rel => exact ⟨rfl, HV.out⟩
  obtain ⟨rfl, hv⟩ := hcut
  have HV2 := Lib.hid hv
  clear hv HV c0 c1 c2 c3 c4 c5 c6 c7 c8 c9 c10 c11 c12 c13 c14 c15 A1 A2 A3 HF HP HQ HH
  obtain ⟨c0, c1, c2, c3, c4, c5, c6, c7, c8, c9, c10, c11, c12, c13, c14, c15⟩ := efld HV2.out.head
  generalize (qA1 && qA2 && qA3) = la at HO ⊢
  go_upto_region 6 with fail
  go_cut [8] (fun t wx => t = .bool (qB1 && qB2 && qB3 && qB4 && qB5) ∧ Hv w wx [(w.heap.size, eo e)])
  case first =>
    clear HO
    cases qB1
    · go_wp2_with (first | (go_at_call 54; (with_reducible refine (B1.out _).mono ?_); rintro r w' ⟨rfl, rfl⟩) | (go_at_call 54; (with_reducible refine (B2.out _).mono ?_); rintro r w' ⟨rfl, rfl⟩) | (go_at_call 54; (with_reducible refine (B3.out _).mono ?_); rintro r w' ⟨rfl, rfl⟩) | (go_at_call 54; (with_reducible refine (B4.out _).mono ?_); rintro r w' ⟨rfl, rfl⟩) | (go_at_call 54; (with_reducible refine (B5.out _).mono ?_); rintro r w' ⟨rfl, rfl⟩) | fail)
      go_meet
      case rel => exact ⟨rfl, HV2.out⟩
    · skip
      cases qB2
      · go_wp2_with (first | (go_at_call 54; (with_reducible refine (B1.out _).mono ?_); rintro r w' ⟨rfl, rfl⟩) | (go_at_call 54; (with_reducible refine (B2.out _).mono ?_); rintro r w' ⟨rfl, rfl⟩) | (go_at_call 54; (with_reducible refine (B3.out _).mono ?_); rintro r w' ⟨rfl, rfl⟩) | (go_at_call 54; (with_reducible refine (B4.out _).mono ?_); rintro r w' ⟨rfl, rfl⟩) | (go_at_call 54; (with_reducible refine (B5.out _).mono ?_); rintro r w' ⟨rfl, rfl⟩) | fail)
        go_meet
        case rel => exact ⟨rfl, HV2.out⟩
      · skip
        cases qB3
        · go_wp2_with (first | (go_at_call 54; (with_reducible refine (B1.out _).mono ?_); rintro r w' ⟨rfl, rfl⟩) | (go_at_call 54; (with_reducible refine (B2.out _).mono ?_); rintro r w' ⟨rfl, rfl⟩) | (go_at_call 54; (with_reducible refine (B3.out _).mono ?_); rintro r w' ⟨rfl, rfl⟩) | (go_at_call 54; (with_reducible refine (B4.out _).mono ?_); rintro r w' ⟨rfl, rfl⟩) | (go_at_call 54; (with_reducible refine (B5.out _).mono ?_); rintro r w' ⟨rfl, rfl⟩) | fail)
          go_meet
          case rel => exact ⟨rfl, HV2.out⟩
        · skip
          cases qB4
          · go_wp2_with (first | (go_at_call 54; (with_reducible refine (B1.out _).mono ?_); rintro r w' ⟨rfl, rfl⟩) | (go_at_call 54; (with_reducible refine (B2.out _).mono ?_); rintro r w' ⟨rfl, rfl⟩) | (go_at_call 54; (with_reducible refine (B3.out _).mono ?_); rintro r w' ⟨rfl, rfl⟩) | (go_at_call 54; (with_reducible refine (B4.out _).mono ?_); rintro r w' ⟨rfl, rfl⟩) | (go_at_call 54; (with_reducible refine (B5.out _).mono ?_); rintro r w' ⟨rfl, rfl⟩) | fail)
            go_meet
            case rel => exact ⟨rfl, HV2.out⟩
          · skip
            cases qB5
            · go_wp2_with (first | (go_at_call 54; (with_reducible refine (B1.out _).mono ?_); rintro r w' ⟨rfl, rfl⟩) | (go_at_call 54; (with_reducible refine (B2.out _).mono ?_); rintro r w' ⟨rfl, rfl⟩) | (go_at_call 54; (with_reducible refine (B3.out _).mono ?_); rintro r w' ⟨rfl, rfl⟩) | (go_at_call 54; (with_reducible refine (B4.out _).mono ?_); rintro r w' ⟨rfl, rfl⟩) | (go_at_call 54; (with_reducible refine (B5.out _).mono ?_); rintro r w' ⟨rfl, rfl⟩) | fail)
              go_meet
              case rel => exact ⟨rfl, HV2.out⟩
            · skip
              go_wp2_with (first | (go_at_call 54; (with_reducible refine (B1.out _).mono ?_); rintro r w' ⟨rfl, rfl⟩) | (go_at_call 54; (with_reducible refine (B2.out _).mono ?_); rintro r w' ⟨rfl, rfl⟩) | (go_at_call 54; (with_reducible refine (B3.out _).mono ?_); rintro r w' ⟨rfl, rfl⟩) | (go_at_call 54; (with_reducible refine (B4.out _).mono ?_); rintro r w' ⟨rfl, rfl⟩) | (go_at_call 54; (with_reducible refine (B5.out _).mono ?_); rintro r w' ⟨rfl, rfl⟩) | fail)
              go_meet
              case rel => exact ⟨rfl, HV2.out⟩
  obtain ⟨rfl, hv⟩ := hcut
  have HV := Lib.hid hv
  clear hv HV2 c0 c1 c2 c3 c4 c5 c6 c7 c8 c9 c10 c11 c12 c13 c14 c15 B1 B2 B3 B4 B5
  obtain ⟨c0, c1, c2, c3, c4, c5, c6, c7, c8, c9, c10, c11, c12, c13, c14, c15⟩ := efld HV.out.head
  generalize (qB1 && qB2 && qB3 && qB4 && qB5) = nu at HO ⊢
  go_upto_region 7 with fail
  refine wp_region_noPanic (Lk.wp_region_mix ord_rcheck (fun V => EFld V w.heap.size e) (by kernel_rfl) (by kernel_rfl) (fun _ _ _ _ _ h => h) (efld HV.out.drew.head) ?_)
  repeat (first | (refine Lk.mix_skip rfl ?_; simp only [Act.put, List.setIfInBounds_toArray, List.set_cons_zero, List.set_cons_succ]) | (refine Lk.mix_take ?_ rfl ?_ ?_; rotate_left; (focus (intro w' hS; (try dsimp only at hS); go_simp; try with_reducible rfl)); simp only [Act.put, List.setIfInBounds_toArray, List.set_cons_zero, List.set_cons_succ]))
  refine Lk.mix_nil (NoPanic.normal ?_)
  replace HV := Lib.hid HV.out.drew
  go_wp2_with fail
  go_ret
  exact ⟨ret_int (by rw [err_of HO.out]; simp [*] <;> omega), HV.out.old⟩

set_option maxRecDepth 100000 in
set_option maxHeartbeats 8000000 in
theorem rcheck_go (e : Eg) (w : World) (hE : EngIn w e) (h0 : Tb.rsB e.f.xs e.f.ys = true) : Calls Try.prog 27 #[.agg (ec e)] w fun r w' => r = .returned (.int .i64 (Em.err (en e))) ∧ Below w.heap.size w w' := by
  have h2 : 2 ≤ e.f.ys.length := by
    have hf : Em.Ri e.f.xs e.f.ys := (Em.ri_iff _ _).1 h0
    have := hf.ok.two
    have := hf.ok.same
    omega
  obtain ⟨bf, of, ef, hc⟩ := cellG hE.f.ya (show 0 < e.f.ys.length by omega)
  obtain ⟨⟨fA, fB, fca, fcb, fxs, fys⟩, tp, tq, th, l2, l1, lE, sl, st, li, le, di⟩ := e
  simp only at ef hc h2 h0
  subst ef
  have i1 : 0 < fys.length := by omega
  have HC : Hid (∀ V L, Hv w V L → V.cell? ⟨bf, of, none⟩ = some (.int .i64 (Tb.g fys 0))) := fun V L h => (h.old.cell (World.block_lt_of_cell? _ _ hc)).trans hc
  clear hc h2
  have HV := Lib.hid (one_e w ⟨⟨fA, some ⟨bf, of, none⟩, fca, fcb, fxs, fys⟩, tp, tq, th, l2, l1, lE, sl, st, li, le, di⟩)
  obtain ⟨bp, hp⟩ : ∃ b, Tb.rsB tp.xs tp.ys = b := ⟨_, rfl⟩
  obtain ⟨bq, hq⟩ : ∃ b, Tb.rsB tq.xs tq.ys = b := ⟨_, rfl⟩
  obtain ⟨bh, hh⟩ : ∃ b, Tb.rsB th.xs th.ys = b := ⟨_, rfl⟩
  obtain ⟨qA1, hA1⟩ : ∃ b, Em.within l2 1 64 = b := ⟨_, rfl⟩
  obtain ⟨qA2, hA2⟩ : ∃ b, Em.within l1 1 64 = b := ⟨_, rfl⟩
  obtain ⟨qA3, hA3⟩ : ∃ b, Em.within lE 1 64 = b := ⟨_, rfl⟩
  obtain ⟨qB1, hB1⟩ : ∃ b, Em.within sl 1 1048576 = b := ⟨_, rfl⟩
  obtain ⟨qB2, hB2⟩ : ∃ b, Em.within st 0 1048576 = b := ⟨_, rfl⟩
  obtain ⟨qB3, hB3⟩ : ∃ b, Em.within li 0 1048576 = b := ⟨_, rfl⟩
  obtain ⟨qB4, hB4⟩ : ∃ b, Em.within le 0 1048576 = b := ⟨_, rfl⟩
  obtain ⟨qB5, hB5⟩ : ∃ b, Em.within di 0 1048576 = b := ⟨_, rfl⟩
  have HO : Hid (Em.okB (en ⟨⟨fA, some ⟨bf, of, none⟩, fca, fcb, fxs, fys⟩, tp, tq, th, l2, l1, lE, sl, st, li, le, di⟩) = (true && bp && bq && bh && (qA1 && qA2 && qA3) && (qB1 && qB2 && qB3 && qB4 && qB5) && (decide (li ≤ st) && decide (1 ≤ le) && decide (le ≤ Tb.g fys 0)))) := by
    subst hp hq hh hA1 hA2 hA3 hB1 hB2 hB3 hB4 hB5
    show Em.okB _ = _
    rw [← h0]
    rfl
  have HF : Hid (∀ W, Below w.heap.size w W → Calls Try.prog 53 #[.agg #[.slice fA fxs.length fca, .slice (some ⟨bf, of, none⟩) fys.length fcb]] W fun r w' => r = .returned (.bool true) ∧ Below W.heap.size W w') := fun W hW => rr_v (t := ⟨fA, some ⟨bf, of, none⟩, fca, fcb, fxs, fys⟩) h0 hE.f hW
  have HP := Lib.hid (fun W (hW : Below w.heap.size w W) => rr_v hp hE.p hW)
  have HQ := Lib.hid (fun W (hW : Below w.heap.size w W) => rr_v hq hE.q hW)
  have HH := Lib.hid (fun W (hW : Below w.heap.size w W) => rr_v hh hE.h hW)
  have A1 := Lib.hid (rw_v hA1)
  have A2 := Lib.hid (rw_v hA2)
  have A3 := Lib.hid (rw_v hA3)
  have B1 := Lib.hid (rw_v hB1)
  have B2 := Lib.hid (rw_v hB2)
  have B3 := Lib.hid (rw_v hB3)
  have B4 := Lib.hid (rw_v hB4)
  have B5 := Lib.hid (rw_v hB5)
  clear hE h0 hp hq hh hA1 hA2 hA3 hB1 hB2 hB3 hB4 hB5
  generalize Tb.g fys 0 = y0 at HC HO
  obtain ⟨c0, c1, c2, c3, c4, c5, c6, c7, c8, c9, c10, c11, c12, c13, c14, c15⟩ := efld HV.out.head
  go_enter Try.func27, Try.ntmps27
  go_upto_region 5 with (first | (go_at_call 53; (with_reducible refine (HF.out _ HV.out.old).mono ?_); rintro r W ⟨rfl, hb⟩; replace HV := Lib.hid (HV.out.grow hb); clear hb c0 c1 c2 c3 c4 c5 c6 c7 c8 c9 c10 c11 c12 c13 c14 c15; obtain ⟨c0, c1, c2, c3, c4, c5, c6, c7, c8, c9, c10, c11, c12, c13, c14, c15⟩ := efld HV.out.head) | (go_at_call 53; (with_reducible refine (HP.out _ HV.out.old).mono ?_); rintro r W ⟨rfl, hb⟩; replace HV := Lib.hid (HV.out.grow hb); clear hb c0 c1 c2 c3 c4 c5 c6 c7 c8 c9 c10 c11 c12 c13 c14 c15; obtain ⟨c0, c1, c2, c3, c4, c5, c6, c7, c8, c9, c10, c11, c12, c13, c14, c15⟩ := efld HV.out.head) | (go_at_call 53; (with_reducible refine (HQ.out _ HV.out.old).mono ?_); rintro r W ⟨rfl, hb⟩; replace HV := Lib.hid (HV.out.grow hb); clear hb c0 c1 c2 c3 c4 c5 c6 c7 c8 c9 c10 c11 c12 c13 c14 c15; obtain ⟨c0, c1, c2, c3, c4, c5, c6, c7, c8, c9, c10, c11, c12, c13, c14, c15⟩ := efld HV.out.head) | (go_at_call 53; (with_reducible refine (HH.out _ HV.out.old).mono ?_); rintro r W ⟨rfl, hb⟩; replace HV := Lib.hid (HV.out.grow hb); clear hb c0 c1 c2 c3 c4 c5 c6 c7 c8 c9 c10 c11 c12 c13 c14 c15; obtain ⟨c0, c1, c2, c3, c4, c5, c6, c7, c8, c9, c10, c11, c12, c13, c14, c15⟩ := efld HV.out.head) | fail)
  go_cut [7] (fun t wx => t = .bool (qA1 && qA2 && qA3) ∧ Hv w wx [(w.heap.size, eo ⟨⟨fA, some ⟨bf, of, none⟩, fca, fcb, fxs, fys⟩, tp, tq, th, l2, l1, lE, sl, st, li, le, di⟩)])
  case first =>
    clear HF HP HQ HH B1 B2 B3 B4 B5 HO
    cases qA1
    · go_wp2_with (first | (go_at_call 54; (with_reducible refine (A1.out _).mono ?_); rintro r w' ⟨rfl, rfl⟩) | (go_at_call 54; (with_reducible refine (A2.out _).mono ?_); rintro r w' ⟨rfl, rfl⟩) | (go_at_call 54; (with_reducible refine (A3.out _).mono ?_); rintro r w' ⟨rfl, rfl⟩) | fail)
      go_meet
      case rel => exact ⟨rfl, HV.out⟩
    · skip
      cases qA2
      · go_wp2_with (first | (go_at_call 54; (with_reducible refine (A1.out _).mono ?_); rintro r w' ⟨rfl, rfl⟩) | (go_at_call 54; (with_reducible refine (A2.out _).mono ?_); rintro r w' ⟨rfl, rfl⟩) | (go_at_call 54; (with_reducible refine (A3.out _).mono ?_); rintro r w' ⟨rfl, rfl⟩) | fail)
        go_meet
        case rel => exact ⟨rfl, HV.out⟩
      · skip
        cases qA3
        · go_wp2_with (first | (go_at_call 54; (with_reducible refine (A1.out _).mono ?_); rintro r w' ⟨rfl, rfl⟩) | (go_at_call 54; (with_reducible refine (A2.out _).mono ?_); rintro r w' ⟨rfl, rfl⟩) | (go_at_call 54; (with_reducible refine (A3.out _).mono ?_); rintro r w' ⟨rfl, rfl⟩) | fail)
          go_meet
          case rel => exact ⟨rfl, HV.out⟩
        · skip
          go_wp2_with (first | (go_at_call 54; (with_reducible refine (A1.out _).mono ?_); rintro r w' ⟨rfl, rfl⟩) | (go_at_call 54; (with_reducible refine (A2.out _).mono ?_); rintro r w' ⟨rfl, rfl⟩) | (go_at_call 54; (with_reducible refine (A3.out _).mono ?_); rintro r w' ⟨rfl, rfl⟩) | fail)
          go_meet
          case rel => exact ⟨rfl, HV.out⟩
  obtain ⟨rfl, hv⟩ := hcut
  have HV2 := Lib.hid hv
  clear hv HV c0 c1 c2 c3 c4 c5 c6 c7 c8 c9 c10 c11 c12 c13 c14 c15 A1 A2 A3 HF HP HQ HH
  obtain ⟨c0, c1, c2, c3, c4, c5, c6, c7, c8, c9, c10, c11, c12, c13, c14, c15⟩ := efld HV2.out.head
  generalize (qA1 && qA2 && qA3) = la at HO ⊢
  go_upto_region 6 with fail
  go_cut [8] (fun t wx => t = .bool (qB1 && qB2 && qB3 && qB4 && qB5) ∧ Hv w wx [(w.heap.size, eo ⟨⟨fA, some ⟨bf, of, none⟩, fca, fcb, fxs, fys⟩, tp, tq, th, l2, l1, lE, sl, st, li, le, di⟩)])
  case first =>
    clear HO
    cases qB1
    · go_wp2_with (first | (go_at_call 54; (with_reducible refine (B1.out _).mono ?_); rintro r w' ⟨rfl, rfl⟩) | (go_at_call 54; (with_reducible refine (B2.out _).mono ?_); rintro r w' ⟨rfl, rfl⟩) | (go_at_call 54; (with_reducible refine (B3.out _).mono ?_); rintro r w' ⟨rfl, rfl⟩) | (go_at_call 54; (with_reducible refine (B4.out _).mono ?_); rintro r w' ⟨rfl, rfl⟩) | (go_at_call 54; (with_reducible refine (B5.out _).mono ?_); rintro r w' ⟨rfl, rfl⟩) | fail)
      go_meet
      case rel => exact ⟨rfl, HV2.out⟩
    · skip
      cases qB2
      · go_wp2_with (first | (go_at_call 54; (with_reducible refine (B1.out _).mono ?_); rintro r w' ⟨rfl, rfl⟩) | (go_at_call 54; (with_reducible refine (B2.out _).mono ?_); rintro r w' ⟨rfl, rfl⟩) | (go_at_call 54; (with_reducible refine (B3.out _).mono ?_); rintro r w' ⟨rfl, rfl⟩) | (go_at_call 54; (with_reducible refine (B4.out _).mono ?_); rintro r w' ⟨rfl, rfl⟩) | (go_at_call 54; (with_reducible refine (B5.out _).mono ?_); rintro r w' ⟨rfl, rfl⟩) | fail)
        go_meet
        case rel => exact ⟨rfl, HV2.out⟩
      · skip
        cases qB3
        · go_wp2_with (first | (go_at_call 54; (with_reducible refine (B1.out _).mono ?_); rintro r w' ⟨rfl, rfl⟩) | (go_at_call 54; (with_reducible refine (B2.out _).mono ?_); rintro r w' ⟨rfl, rfl⟩) | (go_at_call 54; (with_reducible refine (B3.out _).mono ?_); rintro r w' ⟨rfl, rfl⟩) | (go_at_call 54; (with_reducible refine (B4.out _).mono ?_); rintro r w' ⟨rfl, rfl⟩) | (go_at_call 54; (with_reducible refine (B5.out _).mono ?_); rintro r w' ⟨rfl, rfl⟩) | fail)
          go_meet
          case rel => exact ⟨rfl, HV2.out⟩
        · skip
          cases qB4
          · go_wp2_with (first | (go_at_call 54; (with_reducible refine (B1.out _).mono ?_); rintro r w' ⟨rfl, rfl⟩) | (go_at_call 54; (with_reducible refine (B2.out _).mono ?_); rintro r w' ⟨rfl, rfl⟩) | (go_at_call 54; (with_reducible refine (B3.out _).mono ?_); rintro r w' ⟨rfl, rfl⟩) | (go_at_call 54; (with_reducible refine (B4.out _).mono ?_); rintro r w' ⟨rfl, rfl⟩) | (go_at_call 54; (with_reducible refine (B5.out _).mono ?_); rintro r w' ⟨rfl, rfl⟩) | fail)
            go_meet
            case rel => exact ⟨rfl, HV2.out⟩
          · skip
            cases qB5
            · go_wp2_with (first | (go_at_call 54; (with_reducible refine (B1.out _).mono ?_); rintro r w' ⟨rfl, rfl⟩) | (go_at_call 54; (with_reducible refine (B2.out _).mono ?_); rintro r w' ⟨rfl, rfl⟩) | (go_at_call 54; (with_reducible refine (B3.out _).mono ?_); rintro r w' ⟨rfl, rfl⟩) | (go_at_call 54; (with_reducible refine (B4.out _).mono ?_); rintro r w' ⟨rfl, rfl⟩) | (go_at_call 54; (with_reducible refine (B5.out _).mono ?_); rintro r w' ⟨rfl, rfl⟩) | fail)
              go_meet
              case rel => exact ⟨rfl, HV2.out⟩
            · skip
              go_wp2_with (first | (go_at_call 54; (with_reducible refine (B1.out _).mono ?_); rintro r w' ⟨rfl, rfl⟩) | (go_at_call 54; (with_reducible refine (B2.out _).mono ?_); rintro r w' ⟨rfl, rfl⟩) | (go_at_call 54; (with_reducible refine (B3.out _).mono ?_); rintro r w' ⟨rfl, rfl⟩) | (go_at_call 54; (with_reducible refine (B4.out _).mono ?_); rintro r w' ⟨rfl, rfl⟩) | (go_at_call 54; (with_reducible refine (B5.out _).mono ?_); rintro r w' ⟨rfl, rfl⟩) | fail)
              go_meet
              case rel => exact ⟨rfl, HV2.out⟩
  obtain ⟨rfl, hv⟩ := hcut
  have HV := Lib.hid hv
  clear hv HV2 c0 c1 c2 c3 c4 c5 c6 c7 c8 c9 c10 c11 c12 c13 c14 c15 B1 B2 B3 B4 B5
  obtain ⟨c0, c1, c2, c3, c4, c5, c6, c7, c8, c9, c10, c11, c12, c13, c14, c15⟩ := efld HV.out.head
  generalize (qB1 && qB2 && qB3 && qB4 && qB5) = nu at HO ⊢
  have x0 := HC.out _ _ HV.out
  cases bp
  · go_upto_region 7 with fail
    refine wp_region_noPanic (Lk.wp_region_mix ord_rcheck (fun V => EFld V w.heap.size ⟨⟨fA, some ⟨bf, of, none⟩, fca, fcb, fxs, fys⟩, tp, tq, th, l2, l1, lE, sl, st, li, le, di⟩ ∧ V.cell? ⟨bf, of, none⟩ = some (.int .i64 y0)) (by kernel_rfl) (by kernel_rfl) (fun _ _ _ _ _ h => h) ⟨efld HV.out.drew.head, HC.out _ _ HV.out.drew⟩ ?_)
    repeat (first | (refine Lk.mix_skip rfl ?_; simp only [Act.put, List.setIfInBounds_toArray, List.set_cons_zero, List.set_cons_succ]) | (refine Lk.mix_take ?_ rfl ?_ ?_; rotate_left; (focus (intro w' hS; (try dsimp only at hS); go_simp; try with_reducible rfl)); simp only [Act.put, List.setIfInBounds_toArray, List.set_cons_zero, List.set_cons_succ]))
    refine Lk.mix_nil (NoPanic.normal ?_)
    replace HV := Lib.hid HV.out.drew
    go_wp2_with fail
    go_ret
    exact ⟨ret_int (by rw [err_of HO.out]; simp [*] <;> omega), HV.out.old⟩
  · skip
    cases bq
    · go_upto_region 7 with fail
      refine wp_region_noPanic (Lk.wp_region_mix ord_rcheck (fun V => EFld V w.heap.size ⟨⟨fA, some ⟨bf, of, none⟩, fca, fcb, fxs, fys⟩, tp, tq, th, l2, l1, lE, sl, st, li, le, di⟩ ∧ V.cell? ⟨bf, of, none⟩ = some (.int .i64 y0)) (by kernel_rfl) (by kernel_rfl) (fun _ _ _ _ _ h => h) ⟨efld HV.out.drew.head, HC.out _ _ HV.out.drew⟩ ?_)
      repeat (first | (refine Lk.mix_skip rfl ?_; simp only [Act.put, List.setIfInBounds_toArray, List.set_cons_zero, List.set_cons_succ]) | (refine Lk.mix_take ?_ rfl ?_ ?_; rotate_left; (focus (intro w' hS; (try dsimp only at hS); go_simp; try with_reducible rfl)); simp only [Act.put, List.setIfInBounds_toArray, List.set_cons_zero, List.set_cons_succ]))
      refine Lk.mix_nil (NoPanic.normal ?_)
      replace HV := Lib.hid HV.out.drew
      go_wp2_with fail
      go_ret
      exact ⟨ret_int (by rw [err_of HO.out]; simp [*] <;> omega), HV.out.old⟩
    · skip
      cases bh
      · go_upto_region 7 with fail
        refine wp_region_noPanic (Lk.wp_region_mix ord_rcheck (fun V => EFld V w.heap.size ⟨⟨fA, some ⟨bf, of, none⟩, fca, fcb, fxs, fys⟩, tp, tq, th, l2, l1, lE, sl, st, li, le, di⟩ ∧ V.cell? ⟨bf, of, none⟩ = some (.int .i64 y0)) (by kernel_rfl) (by kernel_rfl) (fun _ _ _ _ _ h => h) ⟨efld HV.out.drew.head, HC.out _ _ HV.out.drew⟩ ?_)
        repeat (first | (refine Lk.mix_skip rfl ?_; simp only [Act.put, List.setIfInBounds_toArray, List.set_cons_zero, List.set_cons_succ]) | (refine Lk.mix_take ?_ rfl ?_ ?_; rotate_left; (focus (intro w' hS; (try dsimp only at hS); go_simp; try with_reducible rfl)); simp only [Act.put, List.setIfInBounds_toArray, List.set_cons_zero, List.set_cons_succ]))
        refine Lk.mix_nil (NoPanic.normal ?_)
        replace HV := Lib.hid HV.out.drew
        go_wp2_with fail
        go_ret
        exact ⟨ret_int (by rw [err_of HO.out]; simp [*] <;> omega), HV.out.old⟩
      · skip
        cases la
        · go_upto_region 7 with fail
          refine wp_region_noPanic (Lk.wp_region_mix ord_rcheck (fun V => EFld V w.heap.size ⟨⟨fA, some ⟨bf, of, none⟩, fca, fcb, fxs, fys⟩, tp, tq, th, l2, l1, lE, sl, st, li, le, di⟩ ∧ V.cell? ⟨bf, of, none⟩ = some (.int .i64 y0)) (by kernel_rfl) (by kernel_rfl) (fun _ _ _ _ _ h => h) ⟨efld HV.out.drew.head, HC.out _ _ HV.out.drew⟩ ?_)
          repeat (first | (refine Lk.mix_skip rfl ?_; simp only [Act.put, List.setIfInBounds_toArray, List.set_cons_zero, List.set_cons_succ]) | (refine Lk.mix_take ?_ rfl ?_ ?_; rotate_left; (focus (intro w' hS; (try dsimp only at hS); go_simp; try with_reducible rfl)); simp only [Act.put, List.setIfInBounds_toArray, List.set_cons_zero, List.set_cons_succ]))
          refine Lk.mix_nil (NoPanic.normal ?_)
          replace HV := Lib.hid HV.out.drew
          go_wp2_with fail
          go_ret
          exact ⟨ret_int (by rw [err_of HO.out]; simp [*] <;> omega), HV.out.old⟩
        · skip
          cases nu
          · go_upto_region 7 with fail
            refine wp_region_noPanic (Lk.wp_region_mix ord_rcheck (fun V => EFld V w.heap.size ⟨⟨fA, some ⟨bf, of, none⟩, fca, fcb, fxs, fys⟩, tp, tq, th, l2, l1, lE, sl, st, li, le, di⟩ ∧ V.cell? ⟨bf, of, none⟩ = some (.int .i64 y0)) (by kernel_rfl) (by kernel_rfl) (fun _ _ _ _ _ h => h) ⟨efld HV.out.drew.head, HC.out _ _ HV.out.drew⟩ ?_)
            repeat (first | (refine Lk.mix_skip rfl ?_; simp only [Act.put, List.setIfInBounds_toArray, List.set_cons_zero, List.set_cons_succ]) | (refine Lk.mix_take ?_ rfl ?_ ?_; rotate_left; (focus (intro w' hS; (try dsimp only at hS); go_simp; try with_reducible rfl)); simp only [Act.put, List.setIfInBounds_toArray, List.set_cons_zero, List.set_cons_succ]))
            refine Lk.mix_nil (NoPanic.normal ?_)
            replace HV := Lib.hid HV.out.drew
            go_wp2_with fail
            go_ret
            exact ⟨ret_int (by rw [err_of HO.out]; simp [*] <;> omega), HV.out.old⟩
          · skip
            by_cases d12 : li ≤ st
            · have d12' : decide (st < li) = false := by simp; omega
              by_cases d14 : 1 ≤ le
              · have d14' : decide (le < 1) = false := by simp; omega
                by_cases d16 : le ≤ y0
                · have d16' : decide (y0 < le) = false := by simp; omega
                  go_upto_region 7 with fail
                  refine wp_region_noPanic (Lk.wp_region_mix ord_rcheck (fun V => EFld V w.heap.size ⟨⟨fA, some ⟨bf, of, none⟩, fca, fcb, fxs, fys⟩, tp, tq, th, l2, l1, lE, sl, st, li, le, di⟩ ∧ V.cell? ⟨bf, of, none⟩ = some (.int .i64 y0)) (by kernel_rfl) (by kernel_rfl) (fun _ _ _ _ _ h => h) ⟨efld HV.out.drew.head, HC.out _ _ HV.out.drew⟩ ?_)
                  repeat (first | (refine Lk.mix_skip rfl ?_; simp only [Act.put, List.setIfInBounds_toArray, List.set_cons_zero, List.set_cons_succ]) | (refine Lk.mix_take ?_ rfl ?_ ?_; rotate_left; (focus (intro w' hS; (try dsimp only at hS); go_simp; try with_reducible rfl)); simp only [Act.put, List.setIfInBounds_toArray, List.set_cons_zero, List.set_cons_succ]))
                  refine Lk.mix_nil (NoPanic.normal ?_)
                  replace HV := Lib.hid HV.out.drew
                  go_wp2_with fail
                  go_ret
                  exact ⟨ret_int (by rw [err_of HO.out]; simp [*] <;> omega), HV.out.old⟩
                · have d16' : decide (y0 < le) = true := by simp; omega
                  go_upto_region 7 with fail
                  refine wp_region_noPanic (Lk.wp_region_mix ord_rcheck (fun V => EFld V w.heap.size ⟨⟨fA, some ⟨bf, of, none⟩, fca, fcb, fxs, fys⟩, tp, tq, th, l2, l1, lE, sl, st, li, le, di⟩ ∧ V.cell? ⟨bf, of, none⟩ = some (.int .i64 y0)) (by kernel_rfl) (by kernel_rfl) (fun _ _ _ _ _ h => h) ⟨efld HV.out.drew.head, HC.out _ _ HV.out.drew⟩ ?_)
                  repeat (first | (refine Lk.mix_skip rfl ?_; simp only [Act.put, List.setIfInBounds_toArray, List.set_cons_zero, List.set_cons_succ]) | (refine Lk.mix_take ?_ rfl ?_ ?_; rotate_left; (focus (intro w' hS; (try dsimp only at hS); go_simp; try with_reducible rfl)); simp only [Act.put, List.setIfInBounds_toArray, List.set_cons_zero, List.set_cons_succ]))
                  refine Lk.mix_nil (NoPanic.normal ?_)
                  replace HV := Lib.hid HV.out.drew
                  go_wp2_with fail
                  go_ret
                  exact ⟨ret_int (by rw [err_of HO.out]; simp [*] <;> omega), HV.out.old⟩
              · have d14' : decide (le < 1) = true := by simp; omega
                go_upto_region 7 with fail
                refine wp_region_noPanic (Lk.wp_region_mix ord_rcheck (fun V => EFld V w.heap.size ⟨⟨fA, some ⟨bf, of, none⟩, fca, fcb, fxs, fys⟩, tp, tq, th, l2, l1, lE, sl, st, li, le, di⟩ ∧ V.cell? ⟨bf, of, none⟩ = some (.int .i64 y0)) (by kernel_rfl) (by kernel_rfl) (fun _ _ _ _ _ h => h) ⟨efld HV.out.drew.head, HC.out _ _ HV.out.drew⟩ ?_)
                repeat (first | (refine Lk.mix_skip rfl ?_; simp only [Act.put, List.setIfInBounds_toArray, List.set_cons_zero, List.set_cons_succ]) | (refine Lk.mix_take ?_ rfl ?_ ?_; rotate_left; (focus (intro w' hS; (try dsimp only at hS); go_simp; try with_reducible rfl)); simp only [Act.put, List.setIfInBounds_toArray, List.set_cons_zero, List.set_cons_succ]))
                refine Lk.mix_nil (NoPanic.normal ?_)
                replace HV := Lib.hid HV.out.drew
                go_wp2_with fail
                go_ret
                exact ⟨ret_int (by rw [err_of HO.out]; simp [*] <;> omega), HV.out.old⟩
            · have d12' : decide (st < li) = true := by simp; omega
              go_upto_region 7 with fail
              refine wp_region_noPanic (Lk.wp_region_mix ord_rcheck (fun V => EFld V w.heap.size ⟨⟨fA, some ⟨bf, of, none⟩, fca, fcb, fxs, fys⟩, tp, tq, th, l2, l1, lE, sl, st, li, le, di⟩ ∧ V.cell? ⟨bf, of, none⟩ = some (.int .i64 y0)) (by kernel_rfl) (by kernel_rfl) (fun _ _ _ _ _ h => h) ⟨efld HV.out.drew.head, HC.out _ _ HV.out.drew⟩ ?_)
              repeat (first | (refine Lk.mix_skip rfl ?_; simp only [Act.put, List.setIfInBounds_toArray, List.set_cons_zero, List.set_cons_succ]) | (refine Lk.mix_take ?_ rfl ?_ ?_; rotate_left; (focus (intro w' hS; (try dsimp only at hS); go_simp; try with_reducible rfl)); simp only [Act.put, List.setIfInBounds_toArray, List.set_cons_zero, List.set_cons_succ]))
              refine Lk.mix_nil (NoPanic.normal ?_)
              replace HV := Lib.hid HV.out.drew
              go_wp2_with fail
              go_ret
              exact ⟨ret_int (by rw [err_of HO.out]; simp [*] <;> omega), HV.out.old⟩

/-- **The document's Check**, of any engine. -/
theorem rcheck_c (e : Eg) (w : World) (hE : EngIn w e) : Calls Try.prog 27 #[.agg (ec e)] w fun r w' => r = .returned (.int .i64 (Em.err (en e))) ∧ Below w.heap.size w w' := by
  cases h : Tb.rsB e.f.xs e.f.ys with
  | false => exact rcheck_bad e w hE h
  | true => exact rcheck_go e w hE h
theorem rcheck_ok (e : Eg) (w : World) (hE : EngIn w e) (h : Em.okB (en e) = true) : Calls Try.prog 27 #[.agg (ec e)] w fun r w' => r = .returned (.int .i64 0) ∧ Below w.heap.size w w' := by
  have := rcheck_c e w hE
  rwa [show Em.err (en e) = 0 from by simp [Em.err, h]] at this
theorem rcheck_no (e : Eg) (w : World) (hE : EngIn w e) (h : Em.okB (en e) = false) : Calls Try.prog 27 #[.agg (ec e)] w fun r w' => r = .returned (.int .i64 100) ∧ Below w.heap.size w w' := by
  have := rcheck_c e w hE
  rwa [show Em.err (en e) = 100 from by simp [Em.err, h]] at this

end Ew
end Go.Proofs.Ytioiffhbbhlgeaa
