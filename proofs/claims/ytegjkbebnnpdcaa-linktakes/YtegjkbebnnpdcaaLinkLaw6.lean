/- The document's Take; the walk of LinkTakes. -/
import Derived.Test.YtegjkbebnnpdcaaLinkRef2
namespace Go.Proofs.Ytegjkbebnnpdcaa
namespace Lw
open Go.RowKit

/-- What the document's Take keeps. -/
structure Tr (w W : World) : Prop where
  res : Pkt W w.heap.size Ln.zero
  old : Below w.heap.size w W
namespace Tr
variable {w W W' : World}
theorem grow (h : Tr w W) (hb : Below W.heap.size W W') : Tr w W' := ⟨h.res.below hb h.res.lt, h.old.trans (hb.mono h.old.size)⟩
theorem put {o : Obj} (h : Tr w W) (ho : Crc.Off W.heap.size (W.alloc o) W') : Tr w W' := by
  have hl := h.res.lt
  have h2 := h.grow ((Below.refl W.heap.size W).alloc (Nat.le_refl _) o)
  exact ⟨(ho.block _ (by omega)).trans h2.res, h2.old.trans (ho.below (Nat.le_of_lt hl))⟩
theorem last (h : Tr w W) (ho : Crc.Off w.heap.size W W') : Below w.heap.size w W' := h.old.trans (ho.below (Nat.le_refl _))
end Tr
theorem inb_sl {W : World} {q o : Nat} {l : List Nat} (h : Crc.InB W (some ⟨q, o, none⟩) l) {i : Nat} (hi : i + 32 ≤ l.length) : Crc.InB W (some ⟨q, o + i, none⟩) (Ln.sl l i) := by
  intro j hj
  rw [Ln.sl_len hi] at hj
  obtain ⟨q', o', e, hc⟩ := h (i + j) (by omega)
  cases e
  refine ⟨q, o + i, rfl, ?_⟩
  rw [Ln.sl_getD hj, Nat.add_assoc]
  exact hc

set_option maxRecDepth 100000 in
set_option maxHeartbeats 4000000 in
theorem rtake_c (N : Nat) (A : Option Addr) (l : List Nat) (c : Nat) (w : World) (hN : l.length = N) (hb : Cr.Bytes l) (hc : N ≤ c) (h1m : N ≤ 1000000) (hA : Crc.InB w A l) :
    Calls Try.prog 17 #[.slice A N c] w fun e w' => ∃ p n x, Ln.Res l p n x ∧ e = .returned (.tuple #[.agg (pc p), .int .i64 (n : Int), .int .i64 x]) ∧ Below w.heap.size w w' := by
  have HA := Lib.hid hA
  have HB := Lib.hid hb
  have HL := Lib.hid hN
  have HT : Hid (Tr w (w.alloc (.cells #[.int .i64 0, .int .i64 0, .int .i64 0, .int .i64 0, .int .i64 0, .int .i64 0, .int .i64 0, .bool false, .bool false, .bool false, .bool false, .bool false, .int .i64 0, .int .i64 0] 26))) := ⟨Pkt.new w Ln.zero, (Below.refl _ _).alloc (Nat.le_refl _) _⟩
  clear hA hb hN
  go_enter Try.func17, Try.ntmps17
  go_wp2_with fail
  generalize World.alloc _ _ = W0 at *
  go_loopw [5] (fun i wr => ∃ k : Nat, k ≤ N + 1 ∧ i = .int .i64 k ∧ (∀ j, j < k → Ln.good (Ln.sl l j) = false) ∧ Tr w wr) (fun i _ => N + 1 - (intOf i).toNat)
  case atStart => exact ⟨0, by omega, rfl, fun j hj => absurd hj (Nat.not_lt_zero _), HT.out⟩
  case round =>
    obtain ⟨k, hk, rfl, hbad, ht⟩ := hrel
    clear HT
    have HT := Lib.hid ht
    have HBd := Lib.hid hbad
    clear ht hbad
    have hkw : wrap64 ((k : Int) + 32) = (k : Int) + 32 := by unfold wrap64; omega
    by_cases h32 : k + 32 ≤ N
    · have d1 : decide ((k : Int) + 32 ≤ (N : Int)) = true := by simp; omega
      have h32l : k + 32 ≤ l.length := by rw [HL.out]; exact h32
      obtain ⟨q, o, rfl, _⟩ := HA.out 0 (by omega)
      have t1 : (k : Int) + 32 ≤ (c : Int) := by omega
      have t4 : ¬ c = k := by omega
      have CD := Lib.hid (fun W h => rdec_c 32 (some ⟨q, o + k, none⟩) (Ln.sl l k) (c - k) W (Ln.sl_len h32l) (sl_bytes HB.out k) (by omega) h)
      cases hg : Ln.good (Ln.sl l k)
      · have HB2 : Hid (∀ j, j < k + 1 → Ln.good (Ln.sl l j) = false) := fun j hj => by
          by_cases e : j = k
          · rw [e]; exact hg
          · exact HBd.out j (by omega)
        rw [decE_of.2 hg] at CD
        clear hg h32l
        go_wp2_with fail
        rw [show k + 32 - k = 32 from by omega]
        refine (CD.out _ (inb_sl (HA.out.below HT.out.old) (by rw [HL.out]; exact h32))).mono ?_
        rintro e W1 ⟨rfl, hb⟩
        replace HT := Lib.hid (HT.out.grow hb)
        clear hb CD
        generalize Ln.decP (Ln.sl l k) = p at *
        go_wp2_with (first | (refine st_pk rfl _ _ rfl rfl _ Ln.zero p rfl rfl (Pkt.new W1 Ln.zero) ?_; intro W2 h1 h2; have HK := Lib.hid h1; replace HT := Lib.hid (HT.out.put h2); clear h1 h2))
        go_roundw
        case rel => exact ⟨k + 1, by omega, by go_num, HB2.out, HT.out⟩
        case measure => simp [intOf]; omega
      · have HR : Hid (Ln.Res l (Ln.decP (Ln.sl l k)) (k + 32) 0) := by
          show Ln.Res _ _ _ _
          have e : Ln.decP (Ln.sl l k) = Ln.rd (Ln.sl l k) := by unfold Ln.decP; rw [if_pos hg]
          rw [e]
          exact .hit k h32l hg HBd.out
        rw [decE_of.1 hg] at CD
        clear hg h32l
        go_wp2_with fail
        rw [show k + 32 - k = 32 from by omega]
        refine (CD.out _ (inb_sl (HA.out.below HT.out.old) (by rw [HL.out]; exact h32))).mono ?_
        rintro e W1 ⟨rfl, hb⟩
        replace HT := Lib.hid (HT.out.grow hb)
        clear hb CD
        generalize Ln.decP (Ln.sl l k) = p at *
        go_wp2_with (first
          | (refine st_pk rfl _ _ rfl rfl _ Ln.zero p rfl rfl (Pkt.new W1 Ln.zero) ?_; intro W2 h1 h2; have HK := Lib.hid h1; replace HT := Lib.hid (HT.out.put h2); clear h1 h2)
          | (refine ld_pk rfl _ rfl _ _ rfl HK.out ?_)
          | (refine st_pk rfl _ _ rfl rfl _ _ p rfl rfl HT.out.res ?_; intro W6 h1 h2; have HP := Lib.hid h1; have HO := Lib.hid h2; clear h1 h2))
        refine bodyPost_ret (res3 rfl _ _ _ _ rfl HP.out) rfl ?_
        exact ⟨_, _, _, HR.out, rfl, HT.out.last HO.out⟩
    · have d1 : decide ((k : Int) + 32 ≤ (N : Int)) = false := by simp; omega
      have HBA : Hid (∀ j, j + 32 ≤ l.length → Ln.good (Ln.sl l j) = false) := fun j hj => HBd.out j (by rw [HL.out] at hj; omega)
      clear HBd
      by_cases h31 : 31 < N
      · have d2 : decide ((31 : Int) < (N : Int)) = true := by simp; omega
        have hw31 : wrap64 ((N : Int) - 31) = (N : Int) - 31 := by unfold wrap64; omega
        go_wp2_with fail
        go_loopw [8] (fun i wr => ∃ k : Nat, k ≤ N ∧ N ≤ k + 31 ∧ i = .int .i64 k ∧ (∀ j, N ≤ j + 31 → j < k → l.getD j 0 ≠ 213) ∧ Tr w wr) (fun i _ => N - (intOf i).toNat)
        case atStart => exact ⟨N - 31, by omega, by omega, by rw [show ((N - 31 : Nat) : Int) = (N : Int) - 31 from by omega], fun j h1 h2 => by omega, HT.out⟩
        case round =>
          obtain ⟨i, hiN, hi31, rfl, hno, ht⟩ := hrel
          clear HT
          have HT := Lib.hid ht
          have HNo := Lib.hid hno
          clear ht hno
          by_cases hilt : i < N
          · have e1 : decide ((i : Int) < (N : Int)) = true := by simp; omega
            obtain ⟨q, o, rfl, hcell⟩ := HA.out.below HT.out.old i (by rw [HL.out]; exact hilt)
            by_cases hx : l.getD i 0 = 213
            · have HR : Hid (Ln.Res l Ln.zero i 50) := .none i HBA.out (by rw [HL.out]; exact hiN) (by rw [HL.out]; exact hi31) (fun j h1 h2 => HNo.out j (by rw [HL.out] at h1; exact h1) h2) (fun _ => hx)
              rw [hx] at hcell
              clear hx
              go_wp2_with (first
                | (refine st_pk rfl _ _ rfl rfl _ _ Ln.zero rfl rfl HT.out.res ?_; intro W6 h1 h2; have HP := Lib.hid h1; have HO := Lib.hid h2; clear h1 h2))
              refine bodyPost_ret (res3 rfl _ _ _ _ rfl HP.out) rfl ?_
              exact ⟨_, _, _, HR.out, rfl, HT.out.last HO.out⟩
            · have HN2 : Hid (∀ j, N ≤ j + 31 → j < i + 1 → l.getD j 0 ≠ 213) := fun j h1 h2 => by
                by_cases e : j = i
                · rw [e]; exact hx
                · exact HNo.out j h1 (by omega)
              have d2 : (((l.getD i 0 : Nat) : Int) != 213) = true := by rw [bne_iff_ne]; omega
              clear hx
              generalize l.getD i 0 = x at *
              go_wp2_with fail
              go_roundw
              case rel => exact ⟨i + 1, by omega, by omega, by go_num, HN2.out, HT.out⟩
              case measure => simp [intOf]; omega
          · obtain rfl : i = N := by omega
            have HR : Hid (Ln.Res l Ln.zero i 50) := .none i HBA.out (by rw [HL.out]; exact Nat.le_refl _) (by rw [HL.out]; omega) (fun j h1 h2 => HNo.out j (by rw [HL.out] at h1; exact h1) h2) (fun h => by rw [HL.out] at h; omega)
            go_wp2_with (first
              | (refine st_pk rfl _ _ rfl rfl _ _ Ln.zero rfl rfl HT.out.res ?_; intro W6 h1 h2; have HP := Lib.hid h1; have HO := Lib.hid h2; clear h1 h2))
            refine bodyPost_ret (res3 rfl _ _ _ _ rfl HP.out) rfl ?_
            exact ⟨_, _, _, HR.out, rfl, HT.out.last HO.out⟩
      · have d2 : decide ((31 : Int) < (N : Int)) = false := by simp; omega
        go_wp2_with fail
        go_loopw [8] (fun i wr => ∃ k : Nat, k ≤ N ∧ N ≤ k + 31 ∧ i = .int .i64 k ∧ (∀ j, N ≤ j + 31 → j < k → l.getD j 0 ≠ 213) ∧ Tr w wr) (fun i _ => N - (intOf i).toNat)
        case atStart => exact ⟨0, by omega, by omega, rfl, fun j h1 h2 => absurd h2 (Nat.not_lt_zero _), HT.out⟩
        case round =>
          obtain ⟨i, hiN, hi31, rfl, hno, ht⟩ := hrel
          clear HT
          have HT := Lib.hid ht
          have HNo := Lib.hid hno
          clear ht hno
          by_cases hilt : i < N
          · have e1 : decide ((i : Int) < (N : Int)) = true := by simp; omega
            obtain ⟨q, o, rfl, hcell⟩ := HA.out.below HT.out.old i (by rw [HL.out]; exact hilt)
            by_cases hx : l.getD i 0 = 213
            · have HR : Hid (Ln.Res l Ln.zero i 50) := .none i HBA.out (by rw [HL.out]; exact hiN) (by rw [HL.out]; exact hi31) (fun j h1 h2 => HNo.out j (by rw [HL.out] at h1; exact h1) h2) (fun _ => hx)
              rw [hx] at hcell
              clear hx
              go_wp2_with (first
                | (refine st_pk rfl _ _ rfl rfl _ _ Ln.zero rfl rfl HT.out.res ?_; intro W6 h1 h2; have HP := Lib.hid h1; have HO := Lib.hid h2; clear h1 h2))
              refine bodyPost_ret (res3 rfl _ _ _ _ rfl HP.out) rfl ?_
              exact ⟨_, _, _, HR.out, rfl, HT.out.last HO.out⟩
            · have HN2 : Hid (∀ j, N ≤ j + 31 → j < i + 1 → l.getD j 0 ≠ 213) := fun j h1 h2 => by
                by_cases e : j = i
                · rw [e]; exact hx
                · exact HNo.out j h1 (by omega)
              have d2 : (((l.getD i 0 : Nat) : Int) != 213) = true := by rw [bne_iff_ne]; omega
              clear hx
              generalize l.getD i 0 = x at *
              go_wp2_with fail
              go_roundw
              case rel => exact ⟨i + 1, by omega, by omega, by go_num, HN2.out, HT.out⟩
              case measure => simp [intOf]; omega
          · obtain rfl : i = N := by omega
            have HR : Hid (Ln.Res l Ln.zero i 50) := .none i HBA.out (by rw [HL.out]; exact Nat.le_refl _) (by rw [HL.out]; omega) (fun j h1 h2 => HNo.out j (by rw [HL.out] at h1; exact h1) h2) (fun h => by rw [HL.out] at h; omega)
            go_wp2_with (first
              | (refine st_pk rfl _ _ rfl rfl _ _ Ln.zero rfl rfl HT.out.res ?_; intro W6 h1 h2; have HP := Lib.hid h1; have HO := Lib.hid h2; clear h1 h2))
            refine bodyPost_ret (res3 rfl _ _ _ _ rfl HP.out) rfl ?_
            exact ⟨_, _, _, HR.out, rfl, HT.out.last HO.out⟩

/-- Two packets and what else two calls answer, compared. -/
theorem takes_eq {l : List Nat} {p p' : Ln.Pk} {n n' : Nat} {x x' : Int} (h : Ln.Res l p n x) (h' : Ln.Res l p' n' x') : p' = p ∧ n' = n ∧ x' = x := by
  obtain ⟨rfl, rfl, rfl⟩ := h.uniq h'
  exact ⟨rfl, rfl, rfl⟩

set_option maxRecDepth 100000 in
set_option maxHeartbeats 4000000 in
theorem takes_long (A : Option Addr) (l : List Nat) (c : Nat) (hl : 300 < l.length) (w : World) :
    Calls Try.prog 5 #[.slice A l.length c] w fun e w' => e = .returned (.bool true) ∧ Below w.heap.size w w' := by
  have d1 : decide ((300 : Int) < (l.length : Int)) = true := by simp; omega
  go_enter Try.func5, Try.ntmps5
  go_wp2_with fail
  refine (awake_c _).mono ?_
  rintro e w1 ⟨rfl, hb⟩
  have HB := Lib.hid hb
  clear hb
  go_wp2_with fail
  go_ret
  exact ⟨rfl, HB.out⟩

set_option maxRecDepth 100000 in
set_option maxHeartbeats 8000000 in
theorem takes_ok (A : Option Addr) (l : List Nat) (c : Nat) (N : Nat) (hN : l.length = N) (h3 : N ≤ 300) (hc : N ≤ c) (hb : Cr.Bytes l) (w : World) (hA : Crc.InB w A l) :
    Calls Try.prog 5 #[.slice A N c] w fun e w' => e = .returned (.bool true) ∧ Below w.heap.size w w' := by
  have d1 : decide ((300 : Int) < (N : Int)) = false := by simp; omega
  have HA := Lib.hid hA
  have CD := Lib.hid (fun W h => dec_c N A l c W hN hb hc h)
  have CR := Lib.hid (fun W h => rdec_c N A l c W hN hb hc h)
  have CT := Lib.hid (fun W h => take_c N A l c W hN hb hc (by omega) h)
  have CS := Lib.hid (fun W h => rtake_c N A l c W hN hb hc (by omega) h)
  have HV := Lib.hid (Hv.nil w)
  clear hA hb hN
  have E1 := eq_pk (Ln.decP l) (Ln.decP l)
  rw [same_refl] at E1
  generalize Ln.decP l = dp at *
  generalize Ln.decE l = dx at *
  go_enter Try.func5, Try.ntmps5
  go_wp2_with fail
  refine (awake_c _).mono ?_
  rintro e w1 ⟨rfl, hb⟩
  replace HV := Lib.hid (HV.out.grow hb)
  clear hb
  go_wp2_with fail
  refine (CD.out _ (HA.out.below HV.out.old)).mono ?_
  rintro e W1 ⟨rfl, hb⟩
  replace HV := Lib.hid (HV.out.grow hb)
  clear hb CD
  go_wp2_with (first | (refine st_pk rfl _ _ rfl rfl _ Ln.zero dp rfl rfl (Pkt.new W1 Ln.zero) ?_; intro W2 h1 h2; replace HV := Lib.hid (HV.out.put h1 h2); clear h1 h2))
  refine (CR.out _ (HA.out.below HV.out.old)).mono ?_
  rintro e W3 ⟨rfl, hb⟩
  replace HV := Lib.hid (HV.out.grow hb)
  clear hb CR
  go_wp2_with (first | (refine st_pk rfl _ _ rfl rfl _ Ln.zero dp rfl rfl (Pkt.new W3 Ln.zero) ?_; intro W4 h1 h2; replace HV := Lib.hid (HV.out.put h1 h2); clear h1 h2))
  refine (CT.out _ (HA.out.below HV.out.old)).mono ?_
  rintro e W5 ⟨tp, tn, tx, hr, rfl, hb⟩
  replace HV := Lib.hid (HV.out.grow hb)
  have HR := Lib.hid hr
  clear hb CT hr
  go_wp2_with (first | (refine st_pk rfl _ _ rfl rfl _ Ln.zero tp rfl rfl (Pkt.new W5 Ln.zero) ?_; intro W6 h1 h2; replace HV := Lib.hid (HV.out.put h1 h2); clear h1 h2))
  refine (CS.out _ (HA.out.below HV.out.old)).mono ?_
  rintro e W7 ⟨tp', tn', tx', hr, rfl, hb⟩
  obtain ⟨rfl, rfl, rfl⟩ := takes_eq HR.out hr
  replace HV := Lib.hid (HV.out.grow hb)
  clear hb CS hr HR HA
  have E2 := eq_pk tp' tp'
  rw [same_refl] at E2
  go_wp2_with (first
    | (refine st_pk rfl _ _ rfl rfl _ Ln.zero tp' rfl rfl (Pkt.new W7 Ln.zero) ?_; intro W8 h1 h2; replace HV := Lib.hid (HV.out.put h1 h2); clear h1 h2; have P1 : Hid (Pkt W8 W7.heap.size tp') := HV.out.has (W7.heap.size, .cells (pc tp') 26 (0, 0)) (by simp); have P2 : Hid (Pkt W8 W5.heap.size tp') := HV.out.has (W5.heap.size, .cells (pc tp') 26 (0, 0)) (by simp); have P3 : Hid (Pkt W8 W3.heap.size dp) := HV.out.has (W3.heap.size, .cells (pc dp) 26 (0, 0)) (by simp); have P4 : Hid (Pkt W8 W1.heap.size dp) := HV.out.has (W1.heap.size, .cells (pc dp) 26 (0, 0)) (by simp))
    | (refine ld_pk rfl _ rfl _ _ rfl P1.out ?_)
    | (refine ld_pk rfl _ rfl _ _ rfl P2.out ?_)
    | (refine ld_pk rfl _ rfl _ _ rfl P3.out ?_)
    | (refine ld_pk rfl _ rfl _ _ rfl P4.out ?_))
  go_ret
  exact ⟨rfl, HV.out.old⟩

theorem LinkTakes_walk (A : Option Addr) (l : List Nat) (c : Nat) (_ : l.length ≤ 9223372036854775807) (hc : l.length ≤ c) (hb : Cr.Bytes l) (w : World) (hA : Crc.InB w A l) :
    Calls Try.prog 5 #[.slice A l.length c] w fun e w' => e = .returned (.bool true) ∧ Below w.heap.size w w' := by
  by_cases h : l.length ≤ 300
  · exact takes_ok A l c _ rfl h hc hb w hA
  · exact takes_long A l c (by omega) w
end Lw
end Go.Proofs.Ytegjkbebnnpdcaa
