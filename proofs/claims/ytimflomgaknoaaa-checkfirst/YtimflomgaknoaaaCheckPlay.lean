/- What a signal is told to be, value by value: played. -/
import Derived.Test.YtimflomgaknoaaaCheckPlayKit
import Derived.Deep.CutRange
namespace Go.Proofs.Ytimflomgaknoaaa
namespace Cw
open Go.RowKit Ck Lk

set_option maxRecDepth 100000 in
set_option maxHeartbeats 16000000 in
theorem played_c (l : Lm) (A : Option Addr) (vs : List Int) (n c : Nat) (hn : vs.length = n) (hl : n ≤ 1000) (w : World) (hA : IntsAt w .i64 A vs) :
    Calls Try.prog 14 #[.agg (lc l), .slice A n c] w fun e w' => ∃ v, e = .returned v ∧ Bl w' (w.heap.size + 2) v (plays l zw vs) ∧ Below w.heap.size w w' := by
  have HA := Lib.hid hA
  have HN := Lib.hid hn
  have HV0 : Hid (Hv w ((w.alloc (lob l)).alloc (wob zw)) [(w.heap.size + 1, wob zw), (w.heap.size, lob l)]) := two_lw w l zw
  clear hA hn
  go_enter Try.func14, Try.ntmps14
  go_wp2_with fail
  go_loopw [6, 7] (fun g i wr => ∃ m : Nat, m ≤ n ∧ i = .int .i64 m ∧ Bl wr (w.heap.size + 2) g (plays l zw (vs.take m)) ∧ Hv w wr [(w.heap.size + 1, wob (runs l zw (vs.take m))), (w.heap.size, lob l)]) (fun _ i _ => n - (intOf i).toNat)
  case atStart => exact ⟨0, Nat.zero_le _, rfl, Bl.nil _ _, HV0.out⟩
  case round =>
    obtain ⟨m, hm, rfl, hbl, hv⟩ := hrel
    have BL := Lib.hid hbl
    have HV := Lib.hid hv
    clear hbl hv HV0
    have hq : w.heap.size + 1 < wr.heap.size := HV.out.lt (e := (w.heap.size + 1, wob (runs l zw (vs.take m)))) (by simp)
    have ha : w.heap.size < wr.heap.size := by omega
    by_cases hlt : m < n
    · have hlv : m < vs.length := by rw [HN.out]; exact hlt
      obtain ⟨bv, ov, rfl, hc⟩ := val_at HA.out hlv
      have ER := Lib.hid (runs_take l zw hlv)
      have EP := Lib.hid (plays_take l zw hlv)
      obtain ⟨v, ev⟩ : ∃ v, vs.getD m 0 = v := ⟨_, rfl⟩
      rw [ev] at hc ER EP
      obtain ⟨x, ex⟩ : ∃ x, runs l zw (vs.take m) = x := ⟨_, rfl⟩
      rw [ex] at HV ER EP
      obtain ⟨y, ey⟩ : ∃ y, Ck.step l x v = y := ⟨_, rfl⟩
      obtain ⟨b, eb⟩ : ∃ b, good l x v = b := ⟨_, rfl⟩
      rw [ey] at ER
      rw [eb] at EP
      have CS := Lib.hid (fun W => step_v ey eb W)
      have HC := Lib.hid hc
      have HP : Hid ((plays l zw (vs.take m)).length ≤ 1000000) := by show _ ≤ _; rw [plays_len, List.length_take]; omega
      clear hc ev ex ey eb hlv
      have HBw := Lib.hid HV.out.old
      have HR : Hid (Hv wr wr [(w.heap.size + 1, wob x), (w.heap.size, lob l)]) := ⟨HV.out.has, Below.refl _ _⟩
      have i1 : (0 : Int) ≤ (m : Int) := by omega
      have i2 : (m : Int) < (n : Int) := by omega
      go_upto_region 6 with fail
      go_cut [8, 9] from 11 to 31 (fun t u wx => ∃ k, t = .pointer (some ⟨k, 0, none⟩) ∧ u = .bool b ∧ wr.heap.size ≤ k ∧ Hv wr wx [(k, wob y), (w.heap.size + 1, wob x), (w.heap.size, lob l)])
      case first =>
        have HN : Hid (∀ e ∈ [(w.heap.size + 1, wob x), (w.heap.size, lob l)], e.1 ≠ wr.heap.size) := ne2 hq ha
        go_region_held3 (fun V => Sv V (w.heap.size) (w.heap.size + 1) l x ⟨bv, ov + m, none⟩ v) (first | (exact sve HR.out HBw.out HC.out (by with_reducible rfl)) | (exact sve HR.out.drew HBw.out HC.out (by with_reducible rfl)) | (exact sve (HR.out.alloc _) HBw.out HC.out (by with_reducible rfl)) | (exact sve (HR.out.alloc _).drew HBw.out HC.out (by with_reducible rfl)) | (exact sve (set6 HS.out HN.out (Nat.le_refl _) _ _ _ _ _ _).tail HBw.out HC.out (by with_reducible rfl)) | (exact sve HS.out.tail HBw.out HC.out (by with_reducible rfl)) | fail)
          (first | (go_at_call 8; (with_reducible refine (CS.out _).mono ?_); rintro e Wn ⟨rfl, hb⟩; (first | (with_reducible replace HR := Lib.hid (HR.out.drew.grow hb)) | (have HS := Lib.hid (show Hv wr Wn ((wr.heap.size, wob zw) :: _) from (HR.out.made _).drew.grow hb); clear HR; obtain ⟨z0, z1, z2, z3, z4, z5⟩ := wfld (x := zw) HS.out.head; have y0 := Joins.unfrozen_of_block HS.out.head 0; have y1 := Joins.unfrozen_of_block HS.out.head 1; have y2 := Joins.unfrozen_of_block HS.out.head 2; have y3 := Joins.unfrozen_of_block HS.out.head 3; have y4 := Joins.unfrozen_of_block HS.out.head 4; have y5 := Joins.unfrozen_of_block HS.out.head 5)); clear hb) | fail)
        all_goals
          go_wp2_with fail
          go_meet
          case rel =>
            first | exact ⟨_, rfl, rfl, HR.out.old.size, HR.out.made _⟩ | (with_reducible exact ⟨_, rfl, rfl, Nat.le_refl _, set6 HS.out HN.out (Nat.le_refl _) _ _ _ _ _ _⟩)
      case rest =>
        obtain ⟨k, rfl, rfl, hk, hr⟩ := hcut
        have HR2 := Lib.hid hr
        have HV2 : Hid (Hv w wc [(w.heap.size + 1, wob x), (w.heap.size, lob l)]) := HV.out.grow hr.old
        have BL2 := Lib.hid (BL.out.below hr.old)
        clear hr HR HV BL CS HC HBw i1 i2
        go_wp2_with (first | (refine ldw rfl _ rfl _ _ rfl HR2.out.head ?_) | (refine stw rfl _ _ rfl rfl _ x y rfl rfl HR2.out.h2 ?_; intro W6 h1 h2; replace HV2 := Lib.hid (HV2.out.change h2 h1 (by simp) (by omega)); replace BL2 := Lib.hid (BL2.out.off h2 (by omega)); have HZ := Lib.hid h2.size; clear h1 h2) | (at_builtin; refine app_b rfl _ _ rfl (w.heap.size + 2) _ _ rfl (BL2.out.below ((Below.refl _ _).alloc (Nat.le_refl _) (.cells #[.bool b] 4))) W6.heap.size 1 b rfl (Joins.cell_of_block (heap_alloc_last W6 _) 0) HP.out (by have := HV2.out.lt (e := (w.heap.size + 1, wob y)) (by simp); simp; omega) ?_; intro v' W7 hown hbel; have BL3 := Lib.hid hown; have HV3 := Lib.hid (low2 (HV2.out.alloc _) hbel (by omega) (by omega) (by omega)); clear hown hbel) | fail)
        go_roundw
        case rel => exact ⟨m + 1, by omega, by go_num, by rw [EP.out]; exact BL3.out, by rw [ER.out]; exact HV3.out⟩
        case measure => simp [intOf]; omega
    · obtain rfl : m = n := by omega
      have E : Hid (vs.take m = vs) := List.take_of_length_le (by rw [HN.out]; exact Nat.le_refl _)
      rw [E.out] at BL
      go_wp2_with fail
      go_ret
      exact ⟨_, rfl, BL.out, HV.out.old⟩
end Cw
end Go.Proofs.Ytimflomgaknoaaa
