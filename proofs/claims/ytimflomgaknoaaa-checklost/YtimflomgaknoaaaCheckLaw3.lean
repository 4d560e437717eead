/- The walk of CheckLost. -/
import Derived.Test.YtimflomgaknoaaaCheckLaw2
namespace Go.Proofs.Ytimflomgaknoaaa
namespace Cw
open Go.RowKit Ck Lk

theorem next_small {n : Int} (h1 : 0 ≤ n) (h2 : n ≤ 1000) : next n = n + 1 := by
  unfold next
  (repeat' split) <;> omega

set_option maxRecDepth 100000 in
set_option maxHeartbeats 16000000 in
theorem lost_true (l : Lm) (hk : Ok l) (la sm cw cr : Int) (lo be : Bool) (v : Int) (h1 : 0 ≤ cw) (h2 : cw ≤ 1000) (_h3 : 0 ≤ cr) (_h4 : cr ≤ 1000) (hb : wrong l ⟨la, sm, cw, cr, lo, be⟩ v = true) :
    ∃ s r z, Ck.step l ⟨la, sm, cw, cr, lo, be⟩ v = ⟨s, r, cw + 1, 0, z, true⟩ ∧ good l ⟨la, sm, cw, cr, lo, be⟩ v = false ∧ z = if l.ba ≤ cw + 1 then true else lo := by
  refine ⟨Fx.sat v, Ck.same ⟨la, sm, cw, cr, lo, be⟩ v, lost l ⟨la, sm, cw, cr, lo, be⟩ true, ?_, ?_, ?_⟩
  · rw [step_ok hk hb]
    unfold Ck.go
    rw [show cnt (⟨la, sm, cw, cr, lo, be⟩ : Wa).wr true = cw + 1 from next_small h1 h2, show cnt (⟨la, sm, cw, cr, lo, be⟩ : Wa).ri (!true) = 0 from rfl]
  · rw [good_w hk hb]
  · rw [lost_w hk, next_small h1 h2]

set_option maxRecDepth 100000 in
set_option maxHeartbeats 16000000 in
theorem lost_false (l : Lm) (hk : Ok l) (la sm cw cr : Int) (lo be : Bool) (v : Int) (_h1 : 0 ≤ cw) (_h2 : cw ≤ 1000) (h3 : 0 ≤ cr) (h4 : cr ≤ 1000) (hb : wrong l ⟨la, sm, cw, cr, lo, be⟩ v = false) :
    ∃ s r z, Ck.step l ⟨la, sm, cw, cr, lo, be⟩ v = ⟨s, r, 0, cr + 1, z, true⟩ ∧ good l ⟨la, sm, cw, cr, lo, be⟩ v = !z ∧ z = if l.fi ≤ cr + 1 then false else lo := by
  refine ⟨Fx.sat v, Ck.same ⟨la, sm, cw, cr, lo, be⟩ v, lost l ⟨la, sm, cw, cr, lo, be⟩ false, ?_, ?_, ?_⟩
  · rw [step_ok hk hb]
    unfold Ck.go
    rw [show cnt (⟨la, sm, cw, cr, lo, be⟩ : Wa).wr false = 0 from rfl, show cnt (⟨la, sm, cw, cr, lo, be⟩ : Wa).ri (!false) = cr + 1 from next_small h3 h4]
  · rw [good_r hk hb]
  · rw [lost_r hk, next_small h3 h4]

set_option maxRecDepth 100000 in
set_option maxHeartbeats 32000000 in
theorem CheckLost_walk (l : Lm) (A : Option Addr) (vs : List Int) (c : Nat) (hvl : vs.length ≤ 9223372036854775807) (w : World) (hA : IntsAt w .i64 A vs) :
    Calls Try.prog 5 #[.agg (lc l), .slice A vs.length c] w fun e w' => e = .returned (.bool true) ∧ Below w.heap.size w w' := by
  have HA := Lib.hid hA
  have HV0 := Lib.hid (one_l w l)
  obtain ⟨n, hn⟩ : ∃ n, vs.length = n := ⟨_, rfl⟩
  rw [hn] at hvl ⊢
  have HN := Lib.hid hn
  clear hA hn
  by_cases h200 : 200 < n
  · have d0 : decide ((200 : Int) < (n : Int)) = true := by simp; omega
    go_enter Try.func5, Try.ntmps5
    go_wp2_with (first | (go_at_call 7; refine (awake_c _).mono ?_; rintro e W ⟨rfl, hb⟩; replace HV0 := Lib.hid (HV0.out.grow hb); clear hb) | fail)
    go_ret
    exact ⟨rfl, HV0.out.old⟩
  have d0 : decide ((200 : Int) < (n : Int)) = false := by simp; omega
  by_cases hk : Ok l
  · have CK := Lib.hid (check_ok hk)
    have OK := Lib.hid hk
    clear hk
    go_enter Try.func5, Try.ntmps5
    go_wp2_with (first
      | (go_at_call 7; refine (awake_c _).mono ?_; rintro e W ⟨rfl, hb⟩; replace HV0 := Lib.hid (HV0.out.grow hb); clear hb)
      | (refine ldl rfl _ rfl _ _ rfl HV0.out.head ?_)
      | (go_at_call 10; (with_reducible refine (CK.out _).mono ?_); rintro e W1 ⟨rfl, hb⟩; replace HV0 := Lib.hid (HV0.out.grow hb); clear hb CK)
      | fail)
    have hl1 : w.heap.size < W1.heap.size := HV0.out.lt (e := (w.heap.size, lob l)) (by simp)
    have HI1 : Hid (Hv w (W1.alloc (wob zw)) [(W1.heap.size, wob zw), (w.heap.size, lob l)]) := HV0.out.made (wob zw)
    clear HV0
    go_loopw [7, 8, 9] (fun a d i wr => ∃ m : Nat, m ≤ n ∧ i = .int .i64 m ∧ ∃ la sm cw cr : Int, ∃ lo be : Bool, a = .int .i64 cw ∧ d = .int .i64 cr ∧ (0 ≤ cw ∧ cw ≤ m) ∧ (0 ≤ cr ∧ cr ≤ m) ∧ Hv w wr [(W1.heap.size, wob ⟨la, sm, cw, cr, lo, be⟩), (w.heap.size, lob l)]) (fun _ _ i _ => n - (intOf i).toNat)
    case atStart => exact ⟨0, Nat.zero_le _, rfl, 0, 0, 0, 0, false, false, rfl, rfl, ⟨by decide, by decide⟩, ⟨by decide, by decide⟩, HI1.out⟩
    case round =>
      obtain ⟨m, hm, rfl, la, sm, cw, cr, lo, be, rfl, rfl, ⟨a1, a2⟩, ⟨a3, a4⟩, hv⟩ := hrel
      have HV := Lib.hid hv
      clear hv HI1
      have hq : W1.heap.size < wr.heap.size := HV.out.lt (e := (W1.heap.size, wob ⟨la, sm, cw, cr, lo, be⟩)) (by simp)
      have ha : w.heap.size < wr.heap.size := by omega
      by_cases hlt : m < n
      · have hlv : m < vs.length := by rw [HN.out]; exact hlt
        obtain ⟨bv, ov, rfl, hc⟩ := val_at HA.out hlv
        obtain ⟨v, ev⟩ : ∃ v, vs.getD m 0 = v := ⟨_, rfl⟩
        rw [ev] at hc
        have HC := Lib.hid hc
        clear hc ev hlv
        have HBw := Lib.hid HV.out.old
        have HR : Hid (Hv wr wr [(W1.heap.size, wob ⟨la, sm, cw, cr, lo, be⟩), (w.heap.size, lob l)]) := ⟨HV.out.has, Below.refl _ _⟩
        have i1 : (0 : Int) ≤ (m : Int) := by omega
        have i2 : (m : Int) < (n : Int) := by omega
        cases hb : wrong l ⟨la, sm, cw, cr, lo, be⟩ v with
        | true =>
          obtain ⟨s, r, z, ey, eb, ez⟩ := lost_true l OK.out la sm cw cr lo be v a1 (by omega) a3 (by omega) hb
          have CW := Lib.hid (fun W => wrong_v hb W)
          have CS := Lib.hid (fun W => step_v ey eb W)
          have EZ := Lib.hid ez
          clear hb ey eb ez
          go_upto_region 10 with fail
          go_region_held3 (fun V => Sv V (w.heap.size) (W1.heap.size) l ⟨la, sm, cw, cr, lo, be⟩ ⟨bv, ov + m, none⟩ v) (first | (exact sve HR.out HBw.out HC.out (by with_reducible rfl)) | (exact sve HR.out.drew HBw.out HC.out (by with_reducible rfl)) | fail)
            (first | (go_at_call 12; (with_reducible refine (CW.out _).mono ?_); rintro e W2 ⟨rfl, hb⟩; replace HR := Lib.hid (HR.out.drew.grow hb); clear hb) | fail)
          replace HV := Lib.hid (HV.out.grow HR.out.old)
          replace HBw := Lib.hid HV.out.old
          replace hq : W1.heap.size < W2.heap.size := Nat.lt_of_lt_of_le hq HR.out.old.size
          replace ha : w.heap.size < W2.heap.size := Nat.lt_of_lt_of_le ha HR.out.old.size
          replace HR : Hid (Hv W2 W2 [(W1.heap.size, wob ⟨la, sm, cw, cr, lo, be⟩), (w.heap.size, lob l)]) := ⟨HV.out.has, Below.refl _ _⟩
          go_upto_region 16 with fail
          go_cut [11, 12] from 24 to 112 (fun t u wx => ∃ k, t = .pointer (some ⟨k, 0, none⟩) ∧ u = .bool false ∧ W2.heap.size ≤ k ∧ Hv W2 wx [(k, wob ⟨s, r, cw + 1, 0, z, true⟩), (W1.heap.size, wob ⟨la, sm, cw, cr, lo, be⟩), (w.heap.size, lob l)])
          case first =>
            have HN : Hid (∀ e ∈ [(W1.heap.size, wob ⟨la, sm, cw, cr, lo, be⟩), (w.heap.size, lob l)], e.1 ≠ W2.heap.size) := ne2 hq ha
            go_region_held3 (fun V => Sv V (w.heap.size) (W1.heap.size) l ⟨la, sm, cw, cr, lo, be⟩ ⟨bv, ov + m, none⟩ v) (first | (exact sve HR.out HBw.out HC.out (by with_reducible rfl)) | (exact sve HR.out.drew HBw.out HC.out (by with_reducible rfl)) | (exact sve (HR.out.alloc _) HBw.out HC.out (by with_reducible rfl)) | (exact sve (HR.out.alloc _).drew HBw.out HC.out (by with_reducible rfl)) | (exact sve (set6 HS.out HN.out (Nat.le_refl _) _ _ _ _ _ _).tail HBw.out HC.out (by with_reducible rfl)) | (exact sve HS.out.tail HBw.out HC.out (by with_reducible rfl)) | fail)
              (first | (go_at_call 8; (with_reducible refine (CS.out _).mono ?_); rintro e Wn ⟨rfl, hb⟩; (first | (with_reducible replace HR := Lib.hid (HR.out.drew.grow hb)) | (have HS := Lib.hid (show Hv W2 Wn ((W2.heap.size, wob zw) :: _) from (HR.out.made _).drew.grow hb); clear HR; obtain ⟨z0, z1, z2, z3, z4, z5⟩ := wfld (x := zw) HS.out.head; have y0 := Joins.unfrozen_of_block HS.out.head 0; have y1 := Joins.unfrozen_of_block HS.out.head 1; have y2 := Joins.unfrozen_of_block HS.out.head 2; have y3 := Joins.unfrozen_of_block HS.out.head 3; have y4 := Joins.unfrozen_of_block HS.out.head 4; have y5 := Joins.unfrozen_of_block HS.out.head 5)); clear hb) | fail)
            all_goals
              go_wp2_with fail
              go_meet
              case rel =>
                first | exact ⟨_, rfl, rfl, HR.out.old.size, HR.out.made _⟩ | (with_reducible exact ⟨_, rfl, rfl, Nat.le_refl _, set6 HS.out HN.out (Nat.le_refl _) _ _ _ _ _ _⟩)
          case rest =>
            obtain ⟨k, rfl, rfl, hkk, hr⟩ := hcut
            have HR2 := Lib.hid hr
            have HV2 : Hid (Hv w wc [(W1.heap.size, wob ⟨la, sm, cw, cr, lo, be⟩), (w.heap.size, lob l)]) := HV.out.grow hr.old
            clear hr HR HV CS CW HC HBw
            obtain ⟨k0, k1, k2, k3, k4, k5⟩ := wfld HR2.out.head
            obtain ⟨x0, x1, x2, x3, x4, x5⟩ := wfld HR2.out.h2
            obtain ⟨q0, q1, q2, q3, q4, q5⟩ := lfld HR2.out.h3
            have e5 : decide (0 < l.fi) = true := decide_eq_true (by have := OK.out.2.2.2.2.2.1; omega)
            have e6 : decide (l.fi ≤ 0) = false := decide_eq_false (by have := OK.out.2.2.2.2.2.1; omega)
            by_cases h7 : l.ba ≤ cw + 1
            · have ez := EZ.out
              rw [if_pos h7] at ez
              have e3 : decide (l.ba ≤ cw + 1) = true := decide_eq_true h7
              have e4 : decide (cw + 1 < l.ba) = false := decide_eq_false (by omega)
              clear h7 EZ
              subst ez
              cases lo
              all_goals
                go_wp2_with (first | (refine ldw rfl _ rfl _ _ rfl HR2.out.head ?_) | (refine stw rfl _ _ rfl rfl _ _ _ rfl rfl HR2.out.h2 ?_; intro W6 h1 h2; replace HV2 := Lib.hid (HV2.out.change h2 h1 (by simp; omega) (by omega)); clear h1 h2) | fail)
                go_roundw
                case rel => exact ⟨m + 1, by omega, by go_num, _, _, _, _, _, _, by go_num, by go_num, ⟨by omega, by omega⟩, ⟨by omega, by omega⟩, HV2.out⟩
                case measure => simp [intOf]; omega
            · have ez := EZ.out
              rw [if_neg h7] at ez
              have e3 : decide (l.ba ≤ cw + 1) = false := decide_eq_false h7
              have e4 : decide (cw + 1 < l.ba) = true := decide_eq_true (by omega)
              clear h7 EZ
              subst ez
              cases z
              all_goals
                go_wp2_with (first | (refine ldw rfl _ rfl _ _ rfl HR2.out.head ?_) | (refine stw rfl _ _ rfl rfl _ _ _ rfl rfl HR2.out.h2 ?_; intro W6 h1 h2; replace HV2 := Lib.hid (HV2.out.change h2 h1 (by simp; omega) (by omega)); clear h1 h2) | fail)
                go_roundw
                case rel => exact ⟨m + 1, by omega, by go_num, _, _, _, _, _, _, by go_num, by go_num, ⟨by omega, by omega⟩, ⟨by omega, by omega⟩, HV2.out⟩
                case measure => simp [intOf]; omega
        | false =>
          obtain ⟨s, r, z, ey, eb, ez⟩ := lost_false l OK.out la sm cw cr lo be v a1 (by omega) a3 (by omega) hb
          have CW := Lib.hid (fun W => wrong_v hb W)
          have CS := Lib.hid (fun W => step_v ey eb W)
          have EZ := Lib.hid ez
          clear hb ey eb ez
          go_upto_region 10 with fail
          go_region_held3 (fun V => Sv V (w.heap.size) (W1.heap.size) l ⟨la, sm, cw, cr, lo, be⟩ ⟨bv, ov + m, none⟩ v) (first | (exact sve HR.out HBw.out HC.out (by with_reducible rfl)) | (exact sve HR.out.drew HBw.out HC.out (by with_reducible rfl)) | fail)
            (first | (go_at_call 12; (with_reducible refine (CW.out _).mono ?_); rintro e W2 ⟨rfl, hb⟩; replace HR := Lib.hid (HR.out.drew.grow hb); clear hb) | fail)
          replace HV := Lib.hid (HV.out.grow HR.out.old)
          replace HBw := Lib.hid HV.out.old
          replace hq : W1.heap.size < W2.heap.size := Nat.lt_of_lt_of_le hq HR.out.old.size
          replace ha : w.heap.size < W2.heap.size := Nat.lt_of_lt_of_le ha HR.out.old.size
          replace HR : Hid (Hv W2 W2 [(W1.heap.size, wob ⟨la, sm, cw, cr, lo, be⟩), (w.heap.size, lob l)]) := ⟨HV.out.has, Below.refl _ _⟩
          go_upto_region 16 with fail
          go_cut [11, 12] from 24 to 112 (fun t u wx => ∃ k, t = .pointer (some ⟨k, 0, none⟩) ∧ u = .bool (!z) ∧ W2.heap.size ≤ k ∧ Hv W2 wx [(k, wob ⟨s, r, 0, cr + 1, z, true⟩), (W1.heap.size, wob ⟨la, sm, cw, cr, lo, be⟩), (w.heap.size, lob l)])
          case first =>
            have HN : Hid (∀ e ∈ [(W1.heap.size, wob ⟨la, sm, cw, cr, lo, be⟩), (w.heap.size, lob l)], e.1 ≠ W2.heap.size) := ne2 hq ha
            go_region_held3 (fun V => Sv V (w.heap.size) (W1.heap.size) l ⟨la, sm, cw, cr, lo, be⟩ ⟨bv, ov + m, none⟩ v) (first | (exact sve HR.out HBw.out HC.out (by with_reducible rfl)) | (exact sve HR.out.drew HBw.out HC.out (by with_reducible rfl)) | (exact sve (HR.out.alloc _) HBw.out HC.out (by with_reducible rfl)) | (exact sve (HR.out.alloc _).drew HBw.out HC.out (by with_reducible rfl)) | (exact sve (set6 HS.out HN.out (Nat.le_refl _) _ _ _ _ _ _).tail HBw.out HC.out (by with_reducible rfl)) | (exact sve HS.out.tail HBw.out HC.out (by with_reducible rfl)) | fail)
              (first | (go_at_call 8; (with_reducible refine (CS.out _).mono ?_); rintro e Wn ⟨rfl, hb⟩; (first | (with_reducible replace HR := Lib.hid (HR.out.drew.grow hb)) | (have HS := Lib.hid (show Hv W2 Wn ((W2.heap.size, wob zw) :: _) from (HR.out.made _).drew.grow hb); clear HR; obtain ⟨z0, z1, z2, z3, z4, z5⟩ := wfld (x := zw) HS.out.head; have y0 := Joins.unfrozen_of_block HS.out.head 0; have y1 := Joins.unfrozen_of_block HS.out.head 1; have y2 := Joins.unfrozen_of_block HS.out.head 2; have y3 := Joins.unfrozen_of_block HS.out.head 3; have y4 := Joins.unfrozen_of_block HS.out.head 4; have y5 := Joins.unfrozen_of_block HS.out.head 5)); clear hb) | fail)
            all_goals
              go_wp2_with fail
              go_meet
              case rel =>
                first | exact ⟨_, rfl, rfl, HR.out.old.size, HR.out.made _⟩ | (with_reducible exact ⟨_, rfl, rfl, Nat.le_refl _, set6 HS.out HN.out (Nat.le_refl _) _ _ _ _ _ _⟩)
          case rest =>
            obtain ⟨k, rfl, rfl, hkk, hr⟩ := hcut
            have HR2 := Lib.hid hr
            have HV2 : Hid (Hv w wc [(W1.heap.size, wob ⟨la, sm, cw, cr, lo, be⟩), (w.heap.size, lob l)]) := HV.out.grow hr.old
            clear hr HR HV CS CW HC HBw
            obtain ⟨k0, k1, k2, k3, k4, k5⟩ := wfld HR2.out.head
            obtain ⟨x0, x1, x2, x3, x4, x5⟩ := wfld HR2.out.h2
            obtain ⟨q0, q1, q2, q3, q4, q5⟩ := lfld HR2.out.h3
            have e5 : decide (0 < l.ba) = true := decide_eq_true (by have := OK.out.2.2.2.2.1.1; omega)
            have e6 : decide (l.ba ≤ 0) = false := decide_eq_false (by have := OK.out.2.2.2.2.1.1; omega)
            by_cases h7 : l.fi ≤ cr + 1
            · have ez := EZ.out
              rw [if_pos h7] at ez
              have e3 : decide (l.fi ≤ cr + 1) = true := decide_eq_true h7
              have e4 : decide (cr + 1 < l.fi) = false := decide_eq_false (by omega)
              clear h7 EZ
              subst ez
              cases lo
              all_goals
                go_wp2_with (first | (refine ldw rfl _ rfl _ _ rfl HR2.out.head ?_) | (refine stw rfl _ _ rfl rfl _ _ _ rfl rfl HR2.out.h2 ?_; intro W6 h1 h2; replace HV2 := Lib.hid (HV2.out.change h2 h1 (by simp; omega) (by omega)); clear h1 h2) | fail)
                go_roundw
                case rel => exact ⟨m + 1, by omega, by go_num, _, _, _, _, _, _, by go_num, by go_num, ⟨by omega, by omega⟩, ⟨by omega, by omega⟩, HV2.out⟩
                case measure => simp [intOf]; omega
            · have ez := EZ.out
              rw [if_neg h7] at ez
              have e3 : decide (l.fi ≤ cr + 1) = false := decide_eq_false h7
              have e4 : decide (cr + 1 < l.fi) = true := decide_eq_true (by omega)
              clear h7 EZ
              subst ez
              cases z
              all_goals
                go_wp2_with (first | (refine ldw rfl _ rfl _ _ rfl HR2.out.head ?_) | (refine stw rfl _ _ rfl rfl _ _ _ rfl rfl HR2.out.h2 ?_; intro W6 h1 h2; replace HV2 := Lib.hid (HV2.out.change h2 h1 (by simp; omega) (by omega)); clear h1 h2) | fail)
                go_roundw
                case rel => exact ⟨m + 1, by omega, by go_num, _, _, _, _, _, _, by go_num, by go_num, ⟨by omega, by omega⟩, ⟨by omega, by omega⟩, HV2.out⟩
                case measure => simp [intOf]; omega
      · obtain rfl : m = n := by omega
        go_wp2_with fail
        go_ret
        exact ⟨rfl, HV.out.old⟩
  · have CK := Lib.hid (check_no hk)
    clear hk
    go_enter Try.func5, Try.ntmps5
    go_wp2_with (first
      | (go_at_call 7; refine (awake_c _).mono ?_; rintro e W ⟨rfl, hb⟩; replace HV0 := Lib.hid (HV0.out.grow hb); clear hb)
      | (refine ldl rfl _ rfl _ _ rfl HV0.out.head ?_)
      | (go_at_call 10; (with_reducible refine (CK.out _).mono ?_); rintro e W1 ⟨rfl, hb⟩; replace HV0 := Lib.hid (HV0.out.grow hb); clear hb CK)
      | fail)
    go_ret
    exact ⟨rfl, HV0.out.old⟩
end Cw
end Go.Proofs.Ytimflomgaknoaaa
