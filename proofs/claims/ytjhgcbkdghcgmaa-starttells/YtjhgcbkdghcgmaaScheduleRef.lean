/- The document's own answer: whether laws may be. Printed by gen_ref.py. -/
import Derived.Test.YtjhgcbkdghcgmaaScheduleIn
import Derived.Test.YtjhgcbkdghcgmaaTabRef3
import Derived.Deep.DeepCutAuto
namespace Go.Proofs.Ytjhgcbkdghcgmaa
namespace Hw
open Go.RowKit TabC Lk Ew

theorem rwithin_c (n lo hi : Int) (w : World) : Calls Try.prog 53 #[.int .i64 n, .int .i64 lo, .int .i64 hi] w fun r w' => r = .returned (.bool (Em.within n lo hi)) ∧ w = w' := by
  go_enter Try.func53, Try.ntmps53
  go_wp2
  all_goals
    go_ret
    exact ⟨ret_bool (by simp [Em.within]; try omega), rfl⟩
theorem rw_v {n lo hi : Int} {b : Bool} (h : Em.within n lo hi = b) (w : World) : Calls Try.prog 53 #[.int .i64 n, .int .i64 lo, .int .i64 hi] w fun r w' => r = .returned (.bool b) ∧ w = w' := h ▸ rwithin_c n lo hi w
theorem rr_v {w : World} {t : Tv} {b : Bool} (h : Tb.rsB t.xs t.ys = b) (hT : TabIn w t.A t.B t.xs t.ys) {W : World} (hW : Below w.heap.size w W) : Calls Try.prog 51 #[.agg #[.slice t.A t.xs.length t.ca, .slice t.B t.ys.length t.cb]] W fun r w' => r = .returned (.bool b) ∧ Below W.heap.size W w' := h ▸ rrising_c t.A t.B t.ca t.cb t.xs t.ys W (hT.below hW)
theorem err_of {l : Sd.Ls} {b : Bool} (h : Sd.okB l = b) : Sd.err l = if b = true then 0 else 140 := by rw [Sd.err, h]

set_option maxRecDepth 100000 in
set_option maxHeartbeats 8000000 in
theorem rcheck_c (l : Lg) (w : World) (hL : LawIn w l) : Calls Try.prog 30 #[.agg (lc l)] w fun r w' => r = .returned (.int .i64 (Sd.err (la l))) ∧ Below w.heap.size w w' := by
  have HV := Lib.hid (one_l w l)
  obtain ⟨ba, ha⟩ : ∃ b, Tb.rsB l.a.xs l.a.ys = b := ⟨_, rfl⟩
  obtain ⟨bd, hd⟩ : ∃ b, Tb.rsB l.d.xs l.d.ys = b := ⟨_, rfl⟩
  obtain ⟨bs, hs⟩ : ∃ b, Tb.rsB l.s.xs l.s.ys = b := ⟨_, rfl⟩
  obtain ⟨qm, hm⟩ : ∃ b, Em.within l.margin 1 1048576 = b := ⟨_, rfl⟩
  obtain ⟨q1, h1⟩ : ∃ b, Em.within l.red1 l.margin 1048576 = b := ⟨_, rfl⟩
  obtain ⟨q2, h2⟩ : ∃ b, Em.within l.red2 l.margin 1048576 = b := ⟨_, rfl⟩
  obtain ⟨qE, hE⟩ : ∃ b, Em.within l.redE l.margin 1048576 = b := ⟨_, rfl⟩
  have HO : Hid (Sd.okB (la l) = (ba && bd && bs && (qm && q1 && q2 && qE) && (decide (1 ≤ l.idle) && decide (l.idle ≤ 1048576) && (decide (1 ≤ l.patience) && decide (l.patience ≤ 10000))))) := by
    show Sd.okB (la l) = _
    rw [show Sd.okB (la l) = ((Tb.rsB l.a.xs l.a.ys && Tb.rsB l.d.xs l.d.ys && Tb.rsB l.s.xs l.s.ys) && (Em.within l.margin 1 1048576 && Em.within l.idle 1 1048576 && Em.within l.patience 1 10000) && (Em.within l.red1 l.margin 1048576 && Em.within l.red2 l.margin 1048576 && Em.within l.redE l.margin 1048576)) from rfl, ha, hd, hs, hm, h1, h2, hE]
    show (ba && bd && bs && (qm && (decide (1 ≤ l.idle) && decide (l.idle ≤ 1048576)) && (decide (1 ≤ l.patience) && decide (l.patience ≤ 10000))) && (q1 && q2 && qE)) = _
    cases ba <;> cases bd <;> cases bs <;> cases qm <;> cases q1 <;> cases q2 <;> cases qE <;> simp
  have HA := Lib.hid (fun W (hW : Below w.heap.size w W) => rr_v ha hL.a hW)
  have HD := Lib.hid (fun W (hW : Below w.heap.size w W) => rr_v hd hL.d hW)
  have HS := Lib.hid (fun W (hW : Below w.heap.size w W) => rr_v hs hL.s hW)
  have A1 := Lib.hid (rw_v hm)
  have A2 := Lib.hid (rw_v h1)
  have A3 := Lib.hid (rw_v h2)
  have A4 := Lib.hid (rw_v hE)
  clear hL ha hd hs hm h1 h2 hE
  obtain ⟨c0, c1, c2, c3, c4, c5, c6, c7, c8, c9, c10, c11⟩ := lfld HV.out.head
  go_enter Try.func30, Try.ntmps30
  go_upto_region 4 with (first | (go_at_call 51; (with_reducible refine (HA.out _ HV.out.old).mono ?_); rintro r W ⟨rfl, hb⟩; replace HV := Lib.hid (HV.out.grow hb); clear hb c0 c1 c2 c3 c4 c5 c6 c7 c8 c9 c10 c11; obtain ⟨c0, c1, c2, c3, c4, c5, c6, c7, c8, c9, c10, c11⟩ := lfld HV.out.head) | (go_at_call 51; (with_reducible refine (HD.out _ HV.out.old).mono ?_); rintro r W ⟨rfl, hb⟩; replace HV := Lib.hid (HV.out.grow hb); clear hb c0 c1 c2 c3 c4 c5 c6 c7 c8 c9 c10 c11; obtain ⟨c0, c1, c2, c3, c4, c5, c6, c7, c8, c9, c10, c11⟩ := lfld HV.out.head) | (go_at_call 51; (with_reducible refine (HS.out _ HV.out.old).mono ?_); rintro r W ⟨rfl, hb⟩; replace HV := Lib.hid (HV.out.grow hb); clear hb c0 c1 c2 c3 c4 c5 c6 c7 c8 c9 c10 c11; obtain ⟨c0, c1, c2, c3, c4, c5, c6, c7, c8, c9, c10, c11⟩ := lfld HV.out.head) | fail)
  go_cut [6] (fun t wx => t = .bool (qm && q1 && q2 && qE) ∧ Hv w wx [(w.heap.size, lo l)])
  case first =>
    clear HA HD HS HO
    cases qm
    · go_wp2_with (first | (go_at_call 53; (with_reducible refine (A1.out _).mono ?_); rintro r w' ⟨rfl, rfl⟩) | (go_at_call 53; (with_reducible refine (A2.out _).mono ?_); rintro r w' ⟨rfl, rfl⟩) | (go_at_call 53; (with_reducible refine (A3.out _).mono ?_); rintro r w' ⟨rfl, rfl⟩) | (go_at_call 53; (with_reducible refine (A4.out _).mono ?_); rintro r w' ⟨rfl, rfl⟩) | fail)
      go_meet
      case rel => exact ⟨rfl, HV.out⟩
    cases q1
    · go_wp2_with (first | (go_at_call 53; (with_reducible refine (A1.out _).mono ?_); rintro r w' ⟨rfl, rfl⟩) | (go_at_call 53; (with_reducible refine (A2.out _).mono ?_); rintro r w' ⟨rfl, rfl⟩) | (go_at_call 53; (with_reducible refine (A3.out _).mono ?_); rintro r w' ⟨rfl, rfl⟩) | (go_at_call 53; (with_reducible refine (A4.out _).mono ?_); rintro r w' ⟨rfl, rfl⟩) | fail)
      go_meet
      case rel => exact ⟨rfl, HV.out⟩
    cases q2
    · go_wp2_with (first | (go_at_call 53; (with_reducible refine (A1.out _).mono ?_); rintro r w' ⟨rfl, rfl⟩) | (go_at_call 53; (with_reducible refine (A2.out _).mono ?_); rintro r w' ⟨rfl, rfl⟩) | (go_at_call 53; (with_reducible refine (A3.out _).mono ?_); rintro r w' ⟨rfl, rfl⟩) | (go_at_call 53; (with_reducible refine (A4.out _).mono ?_); rintro r w' ⟨rfl, rfl⟩) | fail)
      go_meet
      case rel => exact ⟨rfl, HV.out⟩
    cases qE
    · go_wp2_with (first | (go_at_call 53; (with_reducible refine (A1.out _).mono ?_); rintro r w' ⟨rfl, rfl⟩) | (go_at_call 53; (with_reducible refine (A2.out _).mono ?_); rintro r w' ⟨rfl, rfl⟩) | (go_at_call 53; (with_reducible refine (A3.out _).mono ?_); rintro r w' ⟨rfl, rfl⟩) | (go_at_call 53; (with_reducible refine (A4.out _).mono ?_); rintro r w' ⟨rfl, rfl⟩) | fail)
      go_meet
      case rel => exact ⟨rfl, HV.out⟩
    go_wp2_with (first | (go_at_call 53; (with_reducible refine (A1.out _).mono ?_); rintro r w' ⟨rfl, rfl⟩) | (go_at_call 53; (with_reducible refine (A2.out _).mono ?_); rintro r w' ⟨rfl, rfl⟩) | (go_at_call 53; (with_reducible refine (A3.out _).mono ?_); rintro r w' ⟨rfl, rfl⟩) | (go_at_call 53; (with_reducible refine (A4.out _).mono ?_); rintro r w' ⟨rfl, rfl⟩) | fail)
    go_meet
    case rel => exact ⟨rfl, HV.out⟩
  obtain ⟨rfl, hv⟩ := hcut
  have HV2 := Lib.hid hv
  clear hv HV c0 c1 c2 c3 c4 c5 c6 c7 c8 c9 c10 c11 A1 A2 A3 A4 HA HD HS
  obtain ⟨c0, c1, c2, c3, c4, c5, c6, c7, c8, c9, c10, c11⟩ := lfld HV2.out.head
  generalize (qm && q1 && q2 && qE) = rd at HO ⊢
  cases ba
  · go_wp2_with fail
    go_ret
    exact ⟨ret_int (by rw [err_of HO.out]; simp [*] <;> omega), HV2.out.old⟩
  cases bd
  · go_wp2_with fail
    go_ret
    exact ⟨ret_int (by rw [err_of HO.out]; simp [*] <;> omega), HV2.out.old⟩
  cases bs
  · go_wp2_with fail
    go_ret
    exact ⟨ret_int (by rw [err_of HO.out]; simp [*] <;> omega), HV2.out.old⟩
  cases rd
  · go_wp2_with fail
    go_ret
    exact ⟨ret_int (by rw [err_of HO.out]; simp [*] <;> omega), HV2.out.old⟩
  by_cases d0 : l.idle < 1
  · go_wp2_with fail
    go_ret
    exact ⟨ret_int (by rw [err_of HO.out]; simp [*] <;> omega), HV2.out.old⟩
  by_cases d1 : 1048576 < l.idle
  · go_wp2_with fail
    go_ret
    exact ⟨ret_int (by rw [err_of HO.out]; simp [*] <;> omega), HV2.out.old⟩
  by_cases d2 : l.patience < 1
  · go_wp2_with fail
    go_ret
    exact ⟨ret_int (by rw [err_of HO.out]; simp [*] <;> omega), HV2.out.old⟩
  by_cases d3 : 10000 < l.patience
  · go_wp2_with fail
    go_ret
    exact ⟨ret_int (by rw [err_of HO.out]; simp [*] <;> omega), HV2.out.old⟩
  go_wp2_with fail
  go_ret
  exact ⟨ret_int (by rw [err_of HO.out]; simp [*] <;> omega), HV2.out.old⟩
end Hw
end Go.Proofs.Ytjhgcbkdghcgmaa
