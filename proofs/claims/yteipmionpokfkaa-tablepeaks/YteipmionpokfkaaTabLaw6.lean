/- The walk of TablePeaks. -/
import Derived.Test.YteipmionpokfkaaTabLawKit
import Derived.Test.YteipmionpokfkaaTabMath2
import Derived.Deep.RegionHeld3
namespace Go.Proofs.Yteipmionpokfkaa
namespace TabC
open Go.RowKit

set_option maxRecDepth 100000 in
set_option maxHeartbeats 8000000 in
theorem peaks_few (A B : Option Addr) (ca cb : Nat) (xs ys : List Int) (w : World) (hT : TabIn w A B xs ys) (hf : 40 < xs.length ∨ 40 < ys.length) :
    Calls Try.prog 10 #[.agg #[.slice A xs.length ca, .slice B ys.length cb]] w fun e w' => e = .returned (.bool true) ∧ Below w.heap.size w w' := by
  have HH := Lib.hid (Held.new (ca := ca) (cb := cb) hT)
  clear hT
  go_enter Try.func10, Try.ntmps10
  go_wp2_with (first
      | (go_at_call 11; refine (awake_c _).mono ?_; rintro e w9 ⟨rfl, hb⟩; replace HH := Lib.hid (HH.out.below hb); replace c0 := HH.out.c0; replace c1 := HH.out.c1; clear hb)
      | (go_at_call 12; refine (few_no A B ca cb xs ys _ hf).mono ?_; rintro e w9 ⟨rfl, hb⟩; replace HH := Lib.hid (HH.out.below hb); replace c0 := HH.out.c0; replace c1 := HH.out.c1; clear hb)
      | (go_at_call 13; refine (check_ok A B ca cb xs ys _ HH.out.tab HO.out).mono ?_; rintro e w9 ⟨rfl, hb⟩; replace HH := Lib.hid (HH.out.below hb); replace c0 := HH.out.c0; replace c1 := HH.out.c1; clear hb))
  go_ret
  exact ⟨rfl, HH.out.old⟩

set_option maxRecDepth 100000 in
set_option maxHeartbeats 8000000 in
theorem peaks_no (A B : Option Addr) (ca cb : Nat) (xs ys : List Int) (w : World) (hT : TabIn w A B xs ys) (hf1 : xs.length ≤ 40) (hf2 : ys.length ≤ 40) (hO : Tb.okB xs ys = false) :
    Calls Try.prog 10 #[.agg #[.slice A xs.length ca, .slice B ys.length cb]] w fun e w' => e = .returned (.bool true) ∧ Below w.heap.size w w' := by
  have HH := Lib.hid (Held.new (ca := ca) (cb := cb) hT)
  clear hT
  have HO := Lib.hid hO
  clear hO
  go_enter Try.func10, Try.ntmps10
  go_wp2_with (first
      | (go_at_call 11; refine (awake_c _).mono ?_; rintro e w9 ⟨rfl, hb⟩; replace HH := Lib.hid (HH.out.below hb); replace c0 := HH.out.c0; replace c1 := HH.out.c1; clear hb)
      | (go_at_call 12; refine (few_yes A B ca cb xs ys _ hf1 hf2).mono ?_; rintro e w9 ⟨rfl, hb⟩; replace HH := Lib.hid (HH.out.below hb); replace c0 := HH.out.c0; replace c1 := HH.out.c1; clear hb)
      | (go_at_call 13; refine (check_no A B ca cb xs ys _ HH.out.tab HO.out).mono ?_; rintro e w9 ⟨rfl, hb⟩; replace HH := Lib.hid (HH.out.below hb); replace c0 := HH.out.c0; replace c1 := HH.out.c1; clear hb))
  go_ret
  exact ⟨rfl, HH.out.old⟩

set_option maxRecDepth 100000 in
set_option maxHeartbeats 8000000 in
theorem peaks_far (b1 o1 b3 o3 ca cb : Nat) (xs ys : List Int) (XL : Int) (w : World) (hT : TabIn w (some ⟨b1, o1, none⟩) (some ⟨b3, o3, none⟩) xs ys) (hO : Tb.okB xs ys = true) (hxl : w.cell? ⟨b1, o1 + (xs.length - 1), none⟩ = some (.int .i64 XL)) (hfar : 2000 < XL) :
    Calls Try.prog 10 #[.agg #[.slice (some ⟨b1, o1, none⟩) xs.length ca, .slice (some ⟨b3, o3, none⟩) ys.length cb]] w fun e w' => e = .returned (.bool true) ∧ Below w.heap.size w w' := by
  have HH := Lib.hid (Held.new (ca := ca) (cb := cb) hT)
  have HO := Lib.hid hO
  have hok := (Tb.ok_iff xs ys).1 hO
  have h2 := hok.two
  have h16 := hok.most
  have hs := hok.same
  have hf1 : xs.length ≤ 40 := by omega
  have hf2 : ys.length ≤ 40 := by omega
  have CXL := Lib.hid hxl
  have d1 : decide (2000 < XL) = true := by simpa using hfar
  have e2 : 0 ≤ (xs.length : Int) - 1 := by omega
  have e1 : (xs.length : Int) - 1 < (xs.length : Int) := by omega
  have e3 : ((xs.length : Int) - 1).toNat = xs.length - 1 := by omega
  have e5 : (1 : Int) ≤ (xs.length : Int) := by omega
  have e6 : 1 ≤ xs.length := by omega
  clear hT hO hok hs hxl
  go_enter Try.func10, Try.ntmps10
  go_wp2_with (first
      | (go_at_call 11; refine (awake_c _).mono ?_; rintro e w9 ⟨rfl, hb⟩; replace HH := Lib.hid (HH.out.below hb); replace c0 := HH.out.c0; replace c1 := HH.out.c1; replace cxl := HH.out.cell CXL.out; clear hb)
      | (go_at_call 12; refine (few_yes _ _ ca cb xs ys _ hf1 hf2).mono ?_; rintro e w9 ⟨rfl, hb⟩; replace HH := Lib.hid (HH.out.below hb); replace c0 := HH.out.c0; replace c1 := HH.out.c1; replace cxl := HH.out.cell CXL.out; clear hb)
      | (go_at_call 13; refine (check_ok _ _ ca cb xs ys _ HH.out.tab HO.out).mono ?_; rintro e w9 ⟨rfl, hb⟩; replace HH := Lib.hid (HH.out.below hb); replace c0 := HH.out.c0; replace c1 := HH.out.c1; replace cxl := HH.out.cell CXL.out; clear hb))
  go_ret
  exact ⟨rfl, HH.out.old⟩

/-- Whether one of the first k values is the greatest. -/
def pkB (ys : List Int) (k : Nat) : Bool := (List.range k).any fun j => Tb.g ys j == Tb.mx ys
theorem pkB_succ (ys : List Int) (k : Nat) : pkB ys (k + 1) = (pkB ys k || (Tb.g ys k == Tb.mx ys)) := by simp [pkB, List.range_succ]
theorem pkB_all {xs ys : List Int} (h : Tb.Ok xs ys) : pkB ys xs.length = true := by
  obtain ⟨k, hk, e⟩ := Tb.mx_point h
  exact List.any_eq_true.2 ⟨k, List.mem_range.2 hk, by rw [e]; simp⟩
theorem df_of {xs ys : List Int} (h : Tb.okB xs ys = true) (x : Int) : Tb.df xs ys x = max (Tb.atv xs ys x) (Tb.atv xs ys (x + 1)) - min (Tb.atv xs ys x) (Tb.atv xs ys (x + 1)) := by
  rw [atv_ok h, atv_ok h]; rfl

set_option maxRecDepth 100000 in
set_option maxHeartbeats 8000000 in
theorem peaks_ok (b1 o1 b3 o3 ca cb : Nat) (xs ys : List Int) (w : World) (hT : TabIn w (some ⟨b1, o1, none⟩) (some ⟨b3, o3, none⟩) xs ys) (hO : Tb.okB xs ys = true) (L : Lies w (some ⟨b1, o1, none⟩) (some ⟨b3, o3, none⟩) xs ys b1 o1 b3 o3) (hnear : Tb.g xs (xs.length - 1) ≤ 2000) :
    Calls Try.prog 10 #[.agg #[.slice (some ⟨b1, o1, none⟩) xs.length ca, .slice (some ⟨b3, o3, none⟩) ys.length cb]] w fun e w' => e = .returned (.bool true) ∧ Below w.heap.size w w' := by
  have HH := Lib.hid (Held.new (ca := ca) (cb := cb) hT)
  have HO := Lib.hid hO
  have HK := Lib.hid ((Tb.ok_iff xs ys).1 hO)
  have h2 := HK.out.two
  have h16 := HK.out.most
  have HSM := Lib.hid HK.out.same
  have hf1 : xs.length ≤ 40 := by omega
  have hf2 : ys.length ≤ 40 := by rw [HSM.out]; omega
  have HL := Lib.hid L
  have hlx : 0 < xs.length := by omega
  have hxl := L.xc (xs.length - 1) (by omega)
  have hx0 := L.xc 0 hlx
  rw [Nat.add_zero] at hx0
  have HW := Lib.hid (Tb.wid_eq HK.out)
  have x00 := (HK.out.xb 0 hlx).1
  have EST := Lib.hid ((st_ok hO).trans (Tb.dm_all HK.out).symm)
  generalize hXL : Tb.g xs (xs.length - 1) = XL at hxl hnear HW
  clear hXL
  have CXL := Lib.hid hxl
  have CX0 := Lib.hid hx0
  have d1 : decide (2000 < XL) = false := by simp; omega
  have e2 : 0 ≤ (xs.length : Int) - 1 := by omega
  have e1 : (xs.length : Int) - 1 < (xs.length : Int) := by omega
  have e3 : ((xs.length : Int) - 1).toNat = xs.length - 1 := by omega
  have e5 : (1 : Int) ≤ (xs.length : Int) := by omega
  have e6 : 1 ≤ xs.length := by omega
  clear hT hO L hxl hx0
  go_enter Try.func10, Try.ntmps10
  go_wp2_with (first
      | (go_at_call 11; refine (awake_c _).mono ?_; rintro e w9 ⟨rfl, hb⟩; replace HH := Lib.hid (HH.out.below hb); replace c0 := HH.out.c0; replace c1 := HH.out.c1; replace cxl := HH.out.cell CXL.out; clear hb)
      | (go_at_call 12; refine (few_yes _ _ ca cb xs ys _ hf1 hf2).mono ?_; rintro e w9 ⟨rfl, hb⟩; replace HH := Lib.hid (HH.out.below hb); replace c0 := HH.out.c0; replace c1 := HH.out.c1; replace cxl := HH.out.cell CXL.out; clear hb)
      | (go_at_call 13; refine (check_ok _ _ ca cb xs ys _ HH.out.tab HO.out).mono ?_; rintro e w9 ⟨rfl, hb⟩; replace HH := Lib.hid (HH.out.below hb); replace c0 := HH.out.c0; replace c1 := HH.out.c1; replace cxl := HH.out.cell CXL.out; clear hb))
  go_loopw [4, 5] (fun p i wr => ∃ k : Nat, k ≤ xs.length ∧ i = .int .i64 k ∧ p = .bool (pkB ys k) ∧ Held w.heap.size (some ⟨b1, o1, none⟩) (some ⟨b3, o3, none⟩) ca cb xs ys w wr) (fun _ i _ => xs.length - (intOf i).toNat)
  case atStart => exact ⟨0, Nat.zero_le _, rfl, rfl, HH.out⟩
  case round =>
    clear HH c0 c1 cxl
    obtain ⟨k, hk, rfl, rfl, hh⟩ := hrel
    have HH := Lib.hid hh
    have c0 := HH.out.c0
    have c1 := HH.out.c1
    clear hh
    by_cases hlt : k < xs.length
    · have cx := HL.out.xc k hlt
      have HP := Lib.hid (pkB_succ ys k)
      have HA := Lib.hid (show Tb.atv xs ys (Tb.g xs k) = Tb.g ys k by rw [atv_ok HO.out, Tb.at_point HK.out hlt])
      have HM := Lib.hid (pk_ok HO.out)
      generalize Tb.g xs k = X at cx HA
      have CX := Lib.hid cx
      have KP : Hid (∀ W, Held w.heap.size (some ⟨b1, o1, none⟩) (some ⟨b3, o3, none⟩) ca cb xs ys w W → (fun W => Held w.heap.size (some ⟨b1, o1, none⟩) (some ⟨b3, o3, none⟩) ca cb xs ys w W ∧ W.cell? ⟨w.heap.size, 0, none⟩ = some (.slice (some ⟨b1, o1, none⟩) xs.length ca) ∧ W.cell? ⟨w.heap.size, 1, none⟩ = some (.slice (some ⟨b3, o3, none⟩) ys.length cb) ∧ W.cell? ⟨b1, o1 + k, none⟩ = some (.int .i64 X)) W) := fun W h => ⟨h, h.c0, h.c1, h.cell CX.out⟩
      clear cx
      cases hpb : pkB ys k with
      | true =>
        have HN : Hid (pkB ys (k + 1) = true) := by show _ = _; rw [HP.out, hpb]; rfl
        clear hpb
        go_wp2_with fail
        go_quiet (fail)
        replace HH := Lib.hid (HH.out.below (below_drewN (Below.refl _ _) nq))
        go_wp2_with fail
        go_roundw
        case rel => exact ⟨k + 1, by omega, by go_num, by rw [HN.out], HH.out⟩
        case measure => simp [intOf]; omega
      | false =>
        have HN : Hid (pkB ys (k + 1) = (Tb.atv xs ys X == Tb.pk xs ys)) := by show _ = _; rw [HP.out, hpb, HA.out, HM.out]; rfl
        clear hpb
        cases hq : (Tb.atv xs ys X == Tb.pk xs ys) with
        | true =>
          rw [hq] at HN
          go_wp2_with fail
          go_region_held3 (fun W => Held w.heap.size (some ⟨b1, o1, none⟩) (some ⟨b3, o3, none⟩) ca cb xs ys w W ∧ W.cell? ⟨w.heap.size, 0, none⟩ = some (.slice (some ⟨b1, o1, none⟩) xs.length ca) ∧ W.cell? ⟨w.heap.size, 1, none⟩ = some (.slice (some ⟨b3, o3, none⟩) ys.length cb) ∧ W.cell? ⟨b1, o1 + k, none⟩ = some (.int .i64 X))
            (first | exact KP.out _ HH.out | exact KP.out _ HH.out.drew | exact KP.out _ (Held.below (And.left (by assumption)) (by assumption)) | go_keep)
            (first | (go_at_call 17; refine (atv_c _ _ ca cb xs ys _ _ (Held.tab (And.left (by assumption)))).mono ?_; rintro e w9 ⟨rfl, hb⟩) | (go_at_call 19; refine (peak_c _ _ ca cb xs ys _ (Held.tab (And.left (by assumption)))).mono ?_; rintro e w9 ⟨rfl, hb⟩))
          all_goals
            have hk9 : Held w.heap.size (some ⟨b1, o1, none⟩) (some ⟨b3, o3, none⟩) ca cb xs ys w w9 := And.left (by assumption)
            go_wp2_with fail
            go_roundw
            case rel => exact ⟨k + 1, by omega, by go_num, by rw [HN.out], hk9⟩
            case measure => simp [intOf]; omega
        | false =>
          rw [hq] at HN
          go_wp2_with fail
          go_region_held3 (fun W => Held w.heap.size (some ⟨b1, o1, none⟩) (some ⟨b3, o3, none⟩) ca cb xs ys w W ∧ W.cell? ⟨w.heap.size, 0, none⟩ = some (.slice (some ⟨b1, o1, none⟩) xs.length ca) ∧ W.cell? ⟨w.heap.size, 1, none⟩ = some (.slice (some ⟨b3, o3, none⟩) ys.length cb) ∧ W.cell? ⟨b1, o1 + k, none⟩ = some (.int .i64 X))
            (first | exact KP.out _ HH.out | exact KP.out _ HH.out.drew | exact KP.out _ (Held.below (And.left (by assumption)) (by assumption)) | go_keep)
            (first | (go_at_call 17; refine (atv_c _ _ ca cb xs ys _ _ (Held.tab (And.left (by assumption)))).mono ?_; rintro e w9 ⟨rfl, hb⟩) | (go_at_call 19; refine (peak_c _ _ ca cb xs ys _ (Held.tab (And.left (by assumption)))).mono ?_; rintro e w9 ⟨rfl, hb⟩))
          all_goals
            have hk9 : Held w.heap.size (some ⟨b1, o1, none⟩) (some ⟨b3, o3, none⟩) ca cb xs ys w w9 := And.left (by assumption)
            go_wp2_with fail
            go_roundw
            case rel => exact ⟨k + 1, by omega, by go_num, by rw [HN.out], hk9⟩
            case measure => simp [intOf]; omega
    · obtain rfl : k = xs.length := by omega
      rw [pkB_all HK.out]
      have cx0 := HH.out.cell CX0.out
      go_wp2_with fail
      go_loopw [6, 7] (fun p i wr => ∃ j : Nat, j ≤ Tb.wid xs ∧ i = .int .i64 (Tb.g xs 0 + (j : Nat)) ∧ p = .int .i64 (Tb.dm xs ys j) ∧ Held w.heap.size (some ⟨b1, o1, none⟩) (some ⟨b3, o3, none⟩) ca cb xs ys w wr) (fun _ i _ => (XL - intOf i).toNat)
      case atStart => exact ⟨0, Nat.zero_le _, by simp, rfl, HH.out⟩
      case round =>
        clear HH c0 c1 cx0
        obtain ⟨j, hj, rfl, rfl, hh⟩ := hrel
        have HH := Lib.hid hh
        have c0 := HH.out.c0
        have c1 := HH.out.c1
        have cxl := HH.out.cell CXL.out
        have hw := HW.out
        have j0 : 0 ≤ (j : Int) := by omega
        clear hh
        by_cases hlt2 : Tb.g xs 0 + (j : Nat) < XL
        · have HD := Lib.hid (Tb.dm_succ xs ys j)
          have HDF := Lib.hid (df_of HO.out (Tb.g xs 0 + (j : Nat)))
          have b1' := Tb.at_bd HK.out (Tb.g xs 0 + (j : Nat))
          have b2' := Tb.at_bd HK.out (Tb.g xs 0 + (j : Nat) + 1)
          rw [← atv_ok HO.out] at b1' b2'
          have a1 : ∀ W, TabIn W (some ⟨b1, o1, none⟩) (some ⟨b3, o3, none⟩) xs ys → Calls Try.prog 17 #[.agg #[.slice (some ⟨b1, o1, none⟩) xs.length ca, .slice (some ⟨b3, o3, none⟩) ys.length cb], .int .i64 (Tb.g xs 0 + (j : Nat))] W fun e w' => e = .returned (.int .i64 (Tb.atv xs ys (Tb.g xs 0 + (j : Nat)))) ∧ Below W.heap.size W w' := fun W h => atv_c _ _ ca cb xs ys _ W h
          have a2 : ∀ W, TabIn W (some ⟨b1, o1, none⟩) (some ⟨b3, o3, none⟩) xs ys → Calls Try.prog 17 #[.agg #[.slice (some ⟨b1, o1, none⟩) xs.length ca, .slice (some ⟨b3, o3, none⟩) ys.length cb], .int .i64 (Tb.g xs 0 + (j : Nat) + 1)] W fun e w' => e = .returned (.int .i64 (Tb.atv xs ys (Tb.g xs 0 + (j : Nat) + 1))) ∧ Below W.heap.size W w' := fun W h => atv_c _ _ ca cb xs ys _ W h
          have A1 := Lib.hid a1
          have A2 := Lib.hid a2
          clear a1 a2
          rw [HDF.out] at HD
          generalize Tb.atv xs ys (Tb.g xs 0 + (j : Nat)) = a at HD b1' A1
          generalize Tb.atv xs ys (Tb.g xs 0 + (j : Nat) + 1) = b at HD b2' A2
          generalize Tb.dm xs ys j = m at HD ⊢
          by_cases hab : a < b
          · have hba : ¬ b < a := by omega
            replace HD : Hid (Tb.dm xs ys (j + 1) = max m (b - a)) := by show _ = _; rw [HD.out]; omega
            go_wp2_with fail
            refine (A1.out _ HH.out.tab).mono ?_
            rintro e w9 ⟨rfl, hb⟩
            replace HH := Lib.hid (HH.out.below hb)
            replace c0 := HH.out.c0
            replace c1 := HH.out.c1
            clear hb
            go_wp2_with fail
            refine (A2.out _ HH.out.tab).mono ?_
            rintro e w9 ⟨rfl, hb⟩
            replace HH := Lib.hid (HH.out.below hb)
            replace c0 := HH.out.c0
            replace c1 := HH.out.c1
            clear hb
            go_wp2_with fail
            go_roundw
            case rel => exact ⟨j + 1, by omega, by go_num, by rw [HD.out, ← max_if], HH.out⟩
            case measure => simp [intOf]; omega
          · by_cases hba : b < a
            · replace HD : Hid (Tb.dm xs ys (j + 1) = max m (a - b)) := by show _ = _; rw [HD.out]; omega
              go_wp2_with fail
              refine (A1.out _ HH.out.tab).mono ?_
              rintro e w9 ⟨rfl, hb⟩
              replace HH := Lib.hid (HH.out.below hb)
              replace c0 := HH.out.c0
              replace c1 := HH.out.c1
              clear hb
              go_wp2_with fail
              refine (A2.out _ HH.out.tab).mono ?_
              rintro e w9 ⟨rfl, hb⟩
              replace HH := Lib.hid (HH.out.below hb)
              replace c0 := HH.out.c0
              replace c1 := HH.out.c1
              clear hb
              go_wp2_with fail
              go_roundw
              case rel => exact ⟨j + 1, by omega, by go_num, by rw [HD.out, ← max_if], HH.out⟩
              case measure => simp [intOf]; omega
            · obtain rfl : a = b := by omega
              replace HD : Hid (Tb.dm xs ys (j + 1) = max m 0) := by show _ = _; rw [HD.out]; omega
              go_wp2_with fail
              refine (A1.out _ HH.out.tab).mono ?_
              rintro e w9 ⟨rfl, hb⟩
              replace HH := Lib.hid (HH.out.below hb)
              replace c0 := HH.out.c0
              replace c1 := HH.out.c1
              clear hb
              go_wp2_with fail
              refine (A2.out _ HH.out.tab).mono ?_
              rintro e w9 ⟨rfl, hb⟩
              replace HH := Lib.hid (HH.out.below hb)
              replace c0 := HH.out.c0
              replace c1 := HH.out.c1
              clear hb
              go_wp2_with fail
              go_roundw
              case rel => exact ⟨j + 1, by omega, by go_num, by rw [HD.out, ← max_if], HH.out⟩
              case measure => simp [intOf]; omega
        · obtain rfl : j = Tb.wid xs := by omega
          rw [← EST.out]
          have q9 : (Tb.st xs ys == Tb.st xs ys) = true := by simp
          go_wp2_with fail
          refine (st_c _ _ ca cb xs ys _ HH.out.tab).mono ?_
          rintro e w9 ⟨rfl, hb⟩
          replace HH := Lib.hid (HH.out.below hb)
          replace c0 := HH.out.c0
          replace c1 := HH.out.c1
          clear hb
          go_wp2_with fail
          go_ret
          exact ⟨rfl, HH.out.old⟩

theorem TablePeaks_walk (A B : Option Addr) (ca cb : Nat) (xs ys : List Int) (w : World) (hT : TabIn w A B xs ys) :
    Calls Try.prog 10 #[.agg #[.slice A xs.length ca, .slice B ys.length cb]] w fun e w' => e = .returned (.bool true) ∧ Below w.heap.size w w' := by
  by_cases hf : 40 < xs.length ∨ 40 < ys.length
  · exact peaks_few A B ca cb xs ys w hT hf
  · have hf1 : xs.length ≤ 40 := by omega
    have hf2 : ys.length ≤ 40 := by omega
    cases hO : Tb.okB xs ys with
    | false => exact peaks_no A B ca cb xs ys w hT hf1 hf2 hO
    | true =>
      have hok := (Tb.ok_iff xs ys).1 hO
      have h2 := hok.two
      obtain ⟨b1, o1, b3, o3, L⟩ := lies_of hT hok
      obtain rfl := L.ea
      obtain rfl := L.eb
      by_cases hx : 2000 < Tb.g xs (xs.length - 1)
      · exact peaks_far b1 o1 b3 o3 ca cb xs ys _ w hT hO (L.xc (xs.length - 1) (by omega)) hx
      · exact peaks_ok b1 o1 b3 o3 ca cb xs ys w hT hO L (by omega)

end TabC
end Go.Proofs.Yteipmionpokfkaa
