/- The walk of TablePoints. -/
import Derived.Test.YteipmionpokfkaaTabLawKit
import Derived.Deep.RegionHeld3
namespace Go.Proofs.Yteipmionpokfkaa
namespace TabC
open Go.RowKit

set_option maxRecDepth 100000 in
set_option maxHeartbeats 8000000 in
theorem points_few (A B : Option Addr) (ca cb : Nat) (xs ys : List Int) (more : Int) (w : World) (hT : TabIn w A B xs ys) (hf : 40 < xs.length ∨ 40 < ys.length) :
    Calls Try.prog 6 #[.agg #[.slice A xs.length ca, .slice B ys.length cb], .int .u16 more] w fun e w' => e = .returned (.bool true) ∧ Below w.heap.size w w' := by
  have HH := Lib.hid (Held.new (ca := ca) (cb := cb) hT)
  clear hT
  go_enter Try.func6, Try.ntmps6
  go_wp2_with (first
      | (go_at_call 11; refine (awake_c _).mono ?_; rintro e w9 ⟨rfl, hb⟩; replace HH := Lib.hid (HH.out.below hb); replace c0 := HH.out.c0; replace c1 := HH.out.c1; clear hb)
      | (go_at_call 12; refine (few_no A B ca cb xs ys _ hf).mono ?_; rintro e w9 ⟨rfl, hb⟩; replace HH := Lib.hid (HH.out.below hb); replace c0 := HH.out.c0; replace c1 := HH.out.c1; clear hb)
      | (go_at_call 13; refine (check_ok A B ca cb xs ys _ HH.out.tab HO.out).mono ?_; rintro e w9 ⟨rfl, hb⟩; replace HH := Lib.hid (HH.out.below hb); replace c0 := HH.out.c0; replace c1 := HH.out.c1; clear hb))
  go_ret
  exact ⟨rfl, HH.out.old⟩

set_option maxRecDepth 100000 in
set_option maxHeartbeats 8000000 in
theorem points_no (A B : Option Addr) (ca cb : Nat) (xs ys : List Int) (more : Int) (w : World) (hT : TabIn w A B xs ys) (hf1 : xs.length ≤ 40) (hf2 : ys.length ≤ 40) (hO : Tb.okB xs ys = false) :
    Calls Try.prog 6 #[.agg #[.slice A xs.length ca, .slice B ys.length cb], .int .u16 more] w fun e w' => e = .returned (.bool true) ∧ Below w.heap.size w w' := by
  have HH := Lib.hid (Held.new (ca := ca) (cb := cb) hT)
  clear hT
  have HO := Lib.hid hO
  clear hO
  go_enter Try.func6, Try.ntmps6
  go_wp2_with (first
      | (go_at_call 11; refine (awake_c _).mono ?_; rintro e w9 ⟨rfl, hb⟩; replace HH := Lib.hid (HH.out.below hb); replace c0 := HH.out.c0; replace c1 := HH.out.c1; clear hb)
      | (go_at_call 12; refine (few_yes A B ca cb xs ys _ hf1 hf2).mono ?_; rintro e w9 ⟨rfl, hb⟩; replace HH := Lib.hid (HH.out.below hb); replace c0 := HH.out.c0; replace c1 := HH.out.c1; clear hb)
      | (go_at_call 13; refine (check_no A B ca cb xs ys _ HH.out.tab HO.out).mono ?_; rintro e w9 ⟨rfl, hb⟩; replace HH := Lib.hid (HH.out.below hb); replace c0 := HH.out.c0; replace c1 := HH.out.c1; clear hb))
  go_ret
  exact ⟨rfl, HH.out.old⟩

set_option maxRecDepth 100000 in
set_option maxHeartbeats 8000000 in
theorem points_ok (b1 o1 b3 o3 ca cb : Nat) (xs ys : List Int) (more : Int) (w : World) (hm0 : 0 ≤ more) (hm1 : more ≤ 65535) (hT : TabIn w (some ⟨b1, o1, none⟩) (some ⟨b3, o3, none⟩) xs ys) (hO : Tb.okB xs ys = true) (L : Lies w (some ⟨b1, o1, none⟩) (some ⟨b3, o3, none⟩) xs ys b1 o1 b3 o3) :
    Calls Try.prog 6 #[.agg #[.slice (some ⟨b1, o1, none⟩) xs.length ca, .slice (some ⟨b3, o3, none⟩) ys.length cb], .int .u16 more] w fun e w' => e = .returned (.bool true) ∧ Below w.heap.size w w' := by
  have HH := Lib.hid (Held.new (ca := ca) (cb := cb) hT)
  have HO := Lib.hid hO
  have HK := Lib.hid ((Tb.ok_iff xs ys).1 hO)
  have h2 := HK.out.two
  have h16 := HK.out.most
  have HSM := Lib.hid HK.out.same
  have hf1 : xs.length ≤ 40 := by omega
  have hf2 : ys.length ≤ 40 := by rw [HSM.out]; omega
  have HL := Lib.hid L
  have hlx : 0 < xs.length := by omega
  have hly : 0 < ys.length := by rw [HSM.out]; omega
  clear hT hO L
  go_enter Try.func6, Try.ntmps6
  go_wp2_with (first
      | (go_at_call 11; refine (awake_c _).mono ?_; rintro e w9 ⟨rfl, hb⟩; replace HH := Lib.hid (HH.out.below hb); replace c0 := HH.out.c0; replace c1 := HH.out.c1; clear hb)
      | (go_at_call 12; refine (few_yes _ _ ca cb xs ys _ hf1 hf2).mono ?_; rintro e w9 ⟨rfl, hb⟩; replace HH := Lib.hid (HH.out.below hb); replace c0 := HH.out.c0; replace c1 := HH.out.c1; clear hb)
      | (go_at_call 13; refine (check_ok _ _ ca cb xs ys _ HH.out.tab HO.out).mono ?_; rintro e w9 ⟨rfl, hb⟩; replace HH := Lib.hid (HH.out.below hb); replace c0 := HH.out.c0; replace c1 := HH.out.c1; clear hb))
  go_loopw [7] (fun i wr => ∃ k : Nat, k ≤ xs.length ∧ i = .int .i64 k ∧ Held w.heap.size (some ⟨b1, o1, none⟩) (some ⟨b3, o3, none⟩) ca cb xs ys w wr) (fun i _ => xs.length - (intOf i).toNat)
  case atStart => exact ⟨0, Nat.zero_le _, rfl, HH.out⟩
  case round =>
    clear HH c0 c1
    obtain ⟨k, hk, rfl, hh⟩ := hrel
    have HH := Lib.hid hh
    have c0 := HH.out.c0
    have c1 := HH.out.c1
    clear hh
    by_cases hlt : k < xs.length
    · have cx := HL.out.xc k hlt
      have cy := HL.out.yc k hlt
      have hlt2 : k < ys.length := by rw [HSM.out]; exact hlt
      have q : (Tb.atv xs ys (Tb.g xs k) != Tb.g ys k) = false := by rw [atv_ok HO.out, Tb.at_point HK.out hlt]; simp
      generalize Tb.g xs k = X at cx q
      generalize Tb.g ys k = Y at cy q
      have CX := Lib.hid cx
      have CY := Lib.hid cy
      have KP : Hid (∀ W, Held w.heap.size (some ⟨b1, o1, none⟩) (some ⟨b3, o3, none⟩) ca cb xs ys w W → (fun W => Held w.heap.size (some ⟨b1, o1, none⟩) (some ⟨b3, o3, none⟩) ca cb xs ys w W ∧ W.cell? ⟨w.heap.size, 0, none⟩ = some (.slice (some ⟨b1, o1, none⟩) xs.length ca) ∧ W.cell? ⟨w.heap.size, 1, none⟩ = some (.slice (some ⟨b3, o3, none⟩) ys.length cb) ∧ W.cell? ⟨b1, o1 + k, none⟩ = some (.int .i64 X) ∧ W.cell? ⟨b3, o3 + k, none⟩ = some (.int .i64 Y)) W) := fun W h => ⟨h, h.c0, h.c1, h.cell CX.out, h.cell CY.out⟩
      clear cx cy
      go_wp2_with fail
      go_region_held3 (fun W => Held w.heap.size (some ⟨b1, o1, none⟩) (some ⟨b3, o3, none⟩) ca cb xs ys w W ∧ W.cell? ⟨w.heap.size, 0, none⟩ = some (.slice (some ⟨b1, o1, none⟩) xs.length ca) ∧ W.cell? ⟨w.heap.size, 1, none⟩ = some (.slice (some ⟨b3, o3, none⟩) ys.length cb) ∧ W.cell? ⟨b1, o1 + k, none⟩ = some (.int .i64 X) ∧ W.cell? ⟨b3, o3 + k, none⟩ = some (.int .i64 Y))
        (first | exact KP.out _ HH.out | exact KP.out _ HH.out.drew | exact KP.out _ (Held.below (And.left (by assumption)) (by assumption)) | go_keep)
        (first | (go_at_call 17; refine (atv_c _ _ ca cb xs ys _ _ (Held.tab (And.left (by assumption)))).mono ?_; rintro e w9 ⟨rfl, hb⟩))
      all_goals
        have hk9 : Held w.heap.size (some ⟨b1, o1, none⟩) (some ⟨b3, o3, none⟩) ca cb xs ys w w9 := And.left (by assumption)
        go_wp2_with fail
        go_roundw
        case rel => exact ⟨k + 1, by omega, by go_num, hk9⟩
        case measure => simp [intOf]; omega
    · have cx0 := HL.out.xc 0 hlx
      have cy0 := HL.out.yc 0 hlx
      have cxl := HL.out.xc (xs.length - 1) (by omega)
      have cyl := HL.out.yc (xs.length - 1) (by omega)
      rw [Nat.add_zero] at cx0 cy0
      have xb0 := HK.out.xb 0 hlx
      have xbl := HK.out.xb (xs.length - 1) (by omega)
      have q1 : (Tb.atv xs ys (Tb.g xs 0 - more) == Tb.g ys 0) = true := by rw [atv_ok HO.out, Tb.at_lo HK.out (by omega)]; simp
      have q2 : (Tb.atv xs ys (Tb.g xs (xs.length - 1) + more) == Tb.g ys (xs.length - 1)) = true := by rw [atv_ok HO.out, Tb.at_hi HK.out (by omega)]; simp
      have q3 : (Tb.atv xs ys (-9223372036854775808) == Tb.g ys 0) = true := by rw [atv_ok HO.out, Tb.at_lo HK.out (by omega)]; simp
      have q4 : (Tb.atv xs ys 9223372036854775807 == Tb.g ys (xs.length - 1)) = true := by rw [atv_ok HO.out, Tb.at_hi HK.out (by omega)]; simp
      generalize Tb.g xs 0 = X0 at cx0 q1 xb0
      generalize Tb.g ys 0 = Y0 at cy0 q1 q3
      generalize Tb.g xs (xs.length - 1) = XL at cxl q2 xbl
      generalize Tb.g ys (xs.length - 1) = YL at cyl q2 q4
      have C1 := Lib.hid cx0
      have C2 := Lib.hid cy0
      have C3 := Lib.hid cxl
      have C4 := Lib.hid cyl
      have KP : Hid (∀ W, Held w.heap.size (some ⟨b1, o1, none⟩) (some ⟨b3, o3, none⟩) ca cb xs ys w W → (fun W => Held w.heap.size (some ⟨b1, o1, none⟩) (some ⟨b3, o3, none⟩) ca cb xs ys w W ∧ W.cell? ⟨w.heap.size, 0, none⟩ = some (.slice (some ⟨b1, o1, none⟩) xs.length ca) ∧ W.cell? ⟨w.heap.size, 1, none⟩ = some (.slice (some ⟨b3, o3, none⟩) ys.length cb) ∧ W.cell? ⟨b1, o1, none⟩ = some (.int .i64 X0) ∧ W.cell? ⟨b3, o3, none⟩ = some (.int .i64 Y0) ∧ W.cell? ⟨b1, o1 + (xs.length - 1), none⟩ = some (.int .i64 XL) ∧ W.cell? ⟨b3, o3 + (xs.length - 1), none⟩ = some (.int .i64 YL)) W) := fun W h => ⟨h, h.c0, h.c1, h.cell C1.out, h.cell C2.out, h.cell C3.out, h.cell C4.out⟩
      have v1 : IntKind.i64.wrap (X0 - more) = X0 - more := IntWalk.i64_in _ (by omega)
      have v2 : IntKind.i64.wrap (XL + more) = XL + more := IntWalk.i64_in _ (by omega)
      have v3 : IntKind.i64.wrap more = more := IntWalk.i64_in _ (by omega)
      have e2 : 0 ≤ (xs.length : Int) - 1 := by omega
      have e1 : (xs.length : Int) - 1 < (xs.length : Int) := by omega
      have e1y : (xs.length : Int) - 1 < (ys.length : Int) := by have := HSM.out; omega
      have e3 : ((xs.length : Int) - 1).toNat = xs.length - 1 := by omega
      have e5 : (1 : Int) ≤ (xs.length : Int) := by omega
      have e6 : 1 ≤ xs.length := by omega
      have e4 : IntKind.i64.wrap ((xs.length : Int) - 1) = (xs.length : Int) - 1 := IntWalk.i64_in _ (by omega)
      clear cx0 cy0 cxl cyl
      go_wp2_with fail
      go_region_held3 (fun W => Held w.heap.size (some ⟨b1, o1, none⟩) (some ⟨b3, o3, none⟩) ca cb xs ys w W ∧ W.cell? ⟨w.heap.size, 0, none⟩ = some (.slice (some ⟨b1, o1, none⟩) xs.length ca) ∧ W.cell? ⟨w.heap.size, 1, none⟩ = some (.slice (some ⟨b3, o3, none⟩) ys.length cb) ∧ W.cell? ⟨b1, o1, none⟩ = some (.int .i64 X0) ∧ W.cell? ⟨b3, o3, none⟩ = some (.int .i64 Y0) ∧ W.cell? ⟨b1, o1 + (xs.length - 1), none⟩ = some (.int .i64 XL) ∧ W.cell? ⟨b3, o3 + (xs.length - 1), none⟩ = some (.int .i64 YL))
        (first | exact KP.out _ HH.out | exact KP.out _ HH.out.drew | exact KP.out _ (Held.below (And.left (by assumption)) (by assumption)) | go_keep)
        (first | (go_at_call 17; refine (atv_c _ _ ca cb xs ys _ _ (Held.tab (And.left (by assumption)))).mono ?_; rintro e w9 ⟨rfl, hb⟩))
      all_goals
        have hk9 : Held w.heap.size (some ⟨b1, o1, none⟩) (some ⟨b3, o3, none⟩) ca cb xs ys w w9 := And.left (by assumption)
        go_wp2_with fail
        go_ret
        exact ⟨rfl, hk9.old⟩

theorem TablePoints_walk (A B : Option Addr) (ca cb : Nat) (xs ys : List Int) (more : Int) (hmw : (Lit.int .u16 more).wf = true) (w : World) (hT : TabIn w A B xs ys) :
    Calls Try.prog 6 #[.agg #[.slice A xs.length ca, .slice B ys.length cb], .int .u16 more] w fun e w' => e = .returned (.bool true) ∧ Below w.heap.size w w' := by
  have hb := bounds_u16 hmw
  cases hO : Tb.okB xs ys with
  | false =>
    by_cases hf : 40 < xs.length ∨ 40 < ys.length
    · exact points_few A B ca cb xs ys more w hT hf
    · exact points_no A B ca cb xs ys more w hT (by omega) (by omega) hO
  | true =>
    obtain ⟨b1, o1, b3, o3, L⟩ := lies_of hT ((Tb.ok_iff xs ys).1 hO)
    obtain rfl := L.ea
    obtain rfl := L.eb
    exact points_ok b1 o1 b3 o3 ca cb xs ys more w hb.1 hb.2 hT hO L

end TabC
end Go.Proofs.Yteipmionpokfkaa
