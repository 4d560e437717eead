/- The walk of CheckPlays. -/
import Derived.Test.YtimflomgaknoaaaCheckLaw1
namespace Go.Proofs.Ytimflomgaknoaaa
namespace Cw
open Go.RowKit Ck Lk

theorem plays_at (l : Lm) (w : Wa) (vs : List Int) {m : Nat} (h : m < vs.length) : (plays l w vs).getD m false = good l (runs l w (vs.take m)) (vs.getD m 0) := by
  induction vs generalizing w m with
  | nil => cases h
  | cons x vs ih =>
    cases m with
    | zero => rfl
    | succ m => exact ih (Ck.step l w x) (by simpa using h)
/-- What was told, one of them. -/
theorem told_at {W1 : World} {base n : Nat} {B : Option Addr} {P : List Bool} {m : Nat} (h : ∀ i, i < n → ∃ g, B = some ⟨g, 0, none⟩ ∧ base ≤ g ∧ W1.cell? ⟨g, i, none⟩ = some (.bool (P.getD i false))) (hm : m < n) :
    ∃ g, B = some ⟨g, 0, none⟩ ∧ ∀ V, Below W1.heap.size W1 V → V.cell? ⟨g, m, none⟩ = some (.bool (P.getD m false)) := by
  obtain ⟨g, e, _, hc⟩ := h m hm
  exact ⟨g, e, fun V hb => (hb.cell (World.block_lt_of_cell? _ _ hc)).trans hc⟩

set_option maxRecDepth 100000 in
set_option maxHeartbeats 16000000 in
theorem CheckPlays_walk (l : Lm) (A : Option Addr) (vs : List Int) (c : Nat) (hvl : vs.length ≤ 9223372036854775807) (w : World) (hA : IntsAt w .i64 A vs) :
    Calls Try.prog 4 #[.agg (lc l), .slice A vs.length c] w fun e w' => e = .returned (.bool true) ∧ Below w.heap.size w w' := by
  have HA := Lib.hid hA
  have HV0 := Lib.hid (one_l w l)
  obtain ⟨n, hn⟩ : ∃ n, vs.length = n := ⟨_, rfl⟩
  rw [hn] at hvl ⊢
  have HN := Lib.hid hn
  clear hA hn
  by_cases h200 : 200 < n
  · have d0 : decide ((200 : Int) < (n : Int)) = true := by simp; omega
    go_enter Try.func4, Try.ntmps4
    go_wp2_with (first | (go_at_call 7; refine (awake_c _).mono ?_; rintro e W ⟨rfl, hb⟩; replace HV0 := Lib.hid (HV0.out.grow hb); clear hb) | fail)
    go_ret
    exact ⟨rfl, HV0.out.old⟩
  · have d0 : decide ((200 : Int) < (n : Int)) = false := by simp; omega
    have CP : Hid (∀ W, IntsAt W .i64 A vs → Calls Try.prog 14 #[.agg (lc l), .slice A n c] W fun e w' => ∃ B c', e = .returned (.slice B n c') ∧ (∀ i, i < n → ∃ g, B = some ⟨g, 0, none⟩ ∧ W.heap.size + 2 ≤ g ∧ w'.cell? ⟨g, i, none⟩ = some (.bool ((plays l zw vs).getD i false))) ∧ Below W.heap.size W w') := fun W hI =>
      (played_c l A vs n c HN.out (by omega) W hI).mono fun e w' ⟨v, he, hbl, hb⟩ => by
        obtain ⟨B, c', rfl, _, hc⟩ := hbl.form (n := n) (by rw [plays_len, HN.out])
        exact ⟨B, c', he, hc, hb⟩
    go_enter Try.func4, Try.ntmps4
    go_wp2_with (first
      | (go_at_call 7; refine (awake_c _).mono ?_; rintro e W ⟨rfl, hb⟩; replace HV0 := Lib.hid (HV0.out.grow hb); clear hb)
      | (refine ldl rfl _ rfl _ _ rfl HV0.out.head ?_)
      | (go_at_call 14; (with_reducible refine (CP.out _ (HA.out.below HV0.out.old)).mono ?_); rintro e W1 ⟨B, c', rfl, hg, hb⟩; replace HV0 := Lib.hid (HV0.out.grow hb); have HG := Lib.hid hg; clear hb hg CP)
      | fail)
    have hl1 : w.heap.size < W1.heap.size := HV0.out.lt (e := (w.heap.size, lob l)) (by simp)
    have HB1 := Lib.hid HV0.out.old
    have HI1 : Hid (Hv W1 (W1.alloc (wob zw)) [(W1.heap.size, wob zw), (w.heap.size, lob l)]) := (Hv.mk (L := [(w.heap.size, lob l)]) HV0.out.has (Below.refl W1.heap.size W1)).made (wob zw)
    clear HV0
    go_loopw [8] (fun i wr => ∃ m : Nat, m ≤ n ∧ i = .int .i64 m ∧ Hv W1 wr [(W1.heap.size, wob (runs l zw (vs.take m))), (w.heap.size, lob l)]) (fun i _ => n - (intOf i).toNat)
    case atStart => exact ⟨0, Nat.zero_le _, rfl, HI1.out⟩
    case round =>
      obtain ⟨m, hm, rfl, hv⟩ := hrel
      have HV := Lib.hid hv
      clear hv HI1
      have hq : W1.heap.size < wr.heap.size := HV.out.lt (e := (W1.heap.size, wob (runs l zw (vs.take m)))) (by simp)
      have ha : w.heap.size < wr.heap.size := by omega
      by_cases hlt : m < n
      · have hlv : m < vs.length := by rw [HN.out]; exact hlt
        obtain ⟨bv, ov, rfl, hc⟩ := val_at HA.out hlv
        obtain ⟨gb, rfl, hgc⟩ := told_at HG.out hlt
        have ER := Lib.hid (runs_take l zw hlv)
        rw [plays_at l zw vs hlv] at hgc
        obtain ⟨v, ev⟩ : ∃ v, vs.getD m 0 = v := ⟨_, rfl⟩
        rw [ev] at hc ER hgc
        obtain ⟨x, ex⟩ : ∃ x, runs l zw (vs.take m) = x := ⟨_, rfl⟩
        rw [ex] at HV ER hgc
        obtain ⟨y, ey⟩ : ∃ y, Ck.step l x v = y := ⟨_, rfl⟩
        obtain ⟨b, eb⟩ : ∃ b, good l x v = b := ⟨_, rfl⟩
        rw [ey] at ER
        rw [eb] at hgc
        have CS := Lib.hid (fun W => rstep_v ey eb W)
        have HC := Lib.hid hc
        have HGC := Lib.hid hgc
        clear hc ev ex ey eb hlv hgc
        have HBw := Lib.hid (HB1.out.trans (HV.out.old.mono HB1.out.size))
        have HR : Hid (Hv wr wr [(W1.heap.size, wob x), (w.heap.size, lob l)]) := ⟨HV.out.has, Below.refl _ _⟩
        have i1 : (0 : Int) ≤ (m : Int) := by omega
        have i2 : (m : Int) < (n : Int) := by omega
        go_upto_region 9 with fail
        go_cut [9, 10] from 20 to 42 (fun t u wx => ∃ k, t = .pointer (some ⟨k, 0, none⟩) ∧ u = .bool b ∧ wr.heap.size ≤ k ∧ Hv wr wx [(k, wob y), (W1.heap.size, wob x), (w.heap.size, lob l)])
        case first =>
          have HN : Hid (∀ e ∈ [(W1.heap.size, wob x), (w.heap.size, lob l)], e.1 ≠ wr.heap.size) := ne2 hq ha
          go_region_held3 (fun V => Sv V (w.heap.size) (W1.heap.size) l x ⟨bv, ov + m, none⟩ v) (first | (exact sve HR.out HBw.out HC.out (by with_reducible rfl)) | (exact sve HR.out.drew HBw.out HC.out (by with_reducible rfl)) | (exact sve (HR.out.alloc _) HBw.out HC.out (by with_reducible rfl)) | (exact sve (HR.out.alloc _).drew HBw.out HC.out (by with_reducible rfl)) | (exact sve (set6 HS.out HN.out (Nat.le_refl _) _ _ _ _ _ _).tail HBw.out HC.out (by with_reducible rfl)) | (exact sve HS.out.tail HBw.out HC.out (by with_reducible rfl)) | fail)
            (first | (go_at_call 9; (with_reducible refine (CS.out _).mono ?_); rintro e Wn ⟨rfl, hb⟩; (first | (with_reducible replace HR := Lib.hid (HR.out.drew.grow hb)) | (have HS := Lib.hid (show Hv wr Wn ((wr.heap.size, wob zw) :: _) from (HR.out.made _).drew.grow hb); clear HR; obtain ⟨z0, z1, z2, z3, z4, z5⟩ := wfld (x := zw) HS.out.head; have y0 := Joins.unfrozen_of_block HS.out.head 0; have y1 := Joins.unfrozen_of_block HS.out.head 1; have y2 := Joins.unfrozen_of_block HS.out.head 2; have y3 := Joins.unfrozen_of_block HS.out.head 3; have y4 := Joins.unfrozen_of_block HS.out.head 4; have y5 := Joins.unfrozen_of_block HS.out.head 5)); clear hb) | fail)
          all_goals
            go_wp2_with fail
            go_meet
            case rel =>
              first | exact ⟨_, rfl, rfl, HR.out.old.size, HR.out.made _⟩ | (with_reducible exact ⟨_, rfl, rfl, Nat.le_refl _, set6 HS.out HN.out (Nat.le_refl _) _ _ _ _ _ _⟩)
        case rest =>
          obtain ⟨k, rfl, rfl, hk, hr⟩ := hcut
          have HR2 := Lib.hid hr
          have HV2 : Hid (Hv W1 wc [(W1.heap.size, wob x), (w.heap.size, lob l)]) := HV.out.grow hr.old
          clear hr HR HV CS HC HBw
          go_wp2_with (first | (refine ldw rfl _ rfl _ _ rfl HR2.out.head ?_) | (refine stw rfl _ _ rfl rfl _ x y rfl rfl HR2.out.h2 ?_; intro W6 h1 h2; replace HV2 := Lib.hid (HV2.out.change h2 h1 (by simp; omega) (Nat.le_refl _)); have cg := HGC.out _ HV2.out.old; clear h1 h2) | fail)
          go_roundw
          case rel => exact ⟨m + 1, by omega, by go_num, by rw [ER.out]; exact HV2.out⟩
          case measure => simp [intOf]; omega
      · obtain rfl : m = n := by omega
        go_wp2_with fail
        go_ret
        exact ⟨rfl, HB1.out.trans (HV.out.old.mono HB1.out.size)⟩
end Cw
end Go.Proofs.Ytimflomgaknoaaa
