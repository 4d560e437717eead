/- The walk of GridTables. -/
import Derived.Test.YthjefnkgfmkijaaGridLaw1
import Derived.Deep.RegionHeld3
namespace Go.Proofs.Ythjefnkgfmkijaa
namespace GridC
open Go.RowKit TabC

set_option maxRecDepth 100000 in
set_option maxHeartbeats 8000000 in
theorem tabs_few (A B : Option Addr) (ca cb : Nat) (zs : List Int) (n : Nat) (T : Nat → Tv) (x m : Int) (w : World) (hG : GridIn w A B zs n T) (hf : fewG zs n T = false) :
    Calls Try.prog 5 #[.agg #[.slice A zs.length ca, .slice B n cb], .int .i64 x, .int .u16 m] w fun e w' => e = .returned (.bool true) ∧ Below w.heap.size w w' := by
  have HH := Lib.hid (GHeld.new (ca := ca) (cb := cb) hG)
  have HF := Lib.hid hf
  clear hG hf
  go_enter Try.func5, Try.ntmps5
  go_wp2_with fail
  refine (awake_c _).mono ?_
  rintro e w9 ⟨rfl, hb⟩
  replace HH := Lib.hid (HH.out.below hb)
  replace c0 := HH.out.c0
  replace c1 := HH.out.c1
  clear hb
  go_wp2_with fail
  refine (few_is HH.out.grid HF.out).mono ?_
  rintro e w9 ⟨rfl, hb⟩
  replace HH := Lib.hid (HH.out.below hb)
  replace c0 := HH.out.c0
  replace c1 := HH.out.c1
  clear hb
  go_wp2_with fail
  go_ret
  exact ⟨rfl, HH.out.old⟩

set_option maxRecDepth 100000 in
set_option maxHeartbeats 8000000 in
theorem tabs_no (A B : Option Addr) (ca cb : Nat) (zs : List Int) (n : Nat) (T : Nat → Tv) (x m : Int) (w : World) (hG : GridIn w A B zs n T) (hf : fewG zs n T = true) (ho : Gd.okB zs n (X T) (Y T) = false) :
    Calls Try.prog 5 #[.agg #[.slice A zs.length ca, .slice B n cb], .int .i64 x, .int .u16 m] w fun e w' => e = .returned (.bool true) ∧ Below w.heap.size w w' := by
  have HH := Lib.hid (GHeld.new (ca := ca) (cb := cb) hG)
  have HF := Lib.hid hf
  have HO := Lib.hid ho
  clear hG hf ho
  go_enter Try.func5, Try.ntmps5
  go_wp2_with fail
  refine (awake_c _).mono ?_
  rintro e w9 ⟨rfl, hb⟩
  replace HH := Lib.hid (HH.out.below hb)
  replace c0 := HH.out.c0
  replace c1 := HH.out.c1
  clear hb
  go_wp2_with fail
  refine (few_is HH.out.grid HF.out).mono ?_
  rintro e w9 ⟨rfl, hb⟩
  replace HH := Lib.hid (HH.out.below hb)
  replace c0 := HH.out.c0
  replace c1 := HH.out.c1
  clear hb
  go_wp2_with fail
  refine (gcheck_no _ _ ca cb zs n T _ HH.out.grid HO.out).mono ?_
  rintro e w9 ⟨rfl, hb⟩
  replace HH := Lib.hid (HH.out.below hb)
  replace c0 := HH.out.c0
  replace c1 := HH.out.c1
  clear hb
  go_wp2_with fail
  go_ret
  exact ⟨rfl, HH.out.old⟩

set_option maxRecDepth 100000 in
set_option maxHeartbeats 8000000 in
theorem tabs_ok (b1 o1 b2 o2 ca cb : Nat) (zs : List Int) (n : Nat) (T : Nat → Tv) (x m : Int) (w : World) (hG : GridIn w (some ⟨b1, o1, none⟩) (some ⟨b2, o2, none⟩) zs n T) (hf : fewG zs n T = true) (ho : Gd.okB zs n (X T) (Y T) = true) (L : GLies w (some ⟨b1, o1, none⟩) (some ⟨b2, o2, none⟩) zs n T b1 o1 b2 o2) (hm0 : 0 ≤ m) (hm1 : m ≤ 65535) :
    Calls Try.prog 5 #[.agg #[.slice (some ⟨b1, o1, none⟩) zs.length ca, .slice (some ⟨b2, o2, none⟩) n cb], .int .i64 x, .int .u16 m] w fun e w' => e = .returned (.bool true) ∧ Below w.heap.size w w' := by
  have HH := Lib.hid (GHeld.new (ca := ca) (cb := cb) hG)
  have HF := Lib.hid hf
  have HO := Lib.hid ho
  have HK := Lib.hid ((Gd.ok_iff _ _ _ _).1 ho)
  have HL := Lib.hid L
  have h1 := HK.out.one
  have h8 := HK.out.most
  have HS := Lib.hid HK.out.same
  have hn1 : 0 < n := by rw [HS.out]; omega
  have hz1 : 0 < zs.length := by omega
  clear hG hf ho L
  go_enter Try.func5, Try.ntmps5
  go_wp2_with fail
  refine (awake_c _).mono ?_
  rintro e w9 ⟨rfl, hb⟩
  replace HH := Lib.hid (HH.out.below hb)
  replace c0 := HH.out.c0
  replace c1 := HH.out.c1
  clear hb
  go_wp2_with fail
  refine (few_is HH.out.grid HF.out).mono ?_
  rintro e w9 ⟨rfl, hb⟩
  replace HH := Lib.hid (HH.out.below hb)
  replace c0 := HH.out.c0
  replace c1 := HH.out.c1
  clear hb
  go_wp2_with fail
  refine (gcheck_ok _ _ ca cb zs n T _ HH.out.grid HO.out).mono ?_
  rintro e w9 ⟨rfl, hb⟩
  replace HH := Lib.hid (HH.out.below hb)
  replace c0 := HH.out.c0
  replace c1 := HH.out.c1
  clear hb
  go_wp2_with fail
  go_loopw [9] (fun i wr => ∃ k : Nat, k ≤ zs.length ∧ i = .int .i64 k ∧ GHeld w.heap.size (some ⟨b1, o1, none⟩) (some ⟨b2, o2, none⟩) ca cb zs n T w wr) (fun i _ => zs.length - (intOf i).toNat)
  case atStart => exact ⟨0, Nat.zero_le _, rfl, HH.out⟩
  case round =>
    clear HH c0 c1
    obtain ⟨k, hk, rfl, hh⟩ := hrel
    have HH := Lib.hid hh
    clear hh
    by_cases hlt : k < zs.length
    · have hltn : k < n := by rw [HS.out]; exact hlt
      have CZ := Lib.hid (HL.out.zc k hlt)
      have T0 := Lib.hid (HL.out.tc0 k hltn)
      have T1 := Lib.hid (HL.out.tc1 k hltn)
      have q0 : Gd.atv zs n (X T) (Y T) (Tb.g zs k) x = Tb.atv (T k).xs (T k).ys x := by rw [gatv_ok HO.out, Gd.at_point HK.out hlt]; rfl
      generalize Tb.g zs k = Z at CZ q0
      generalize hv : Tb.atv (T k).xs (T k).ys x = V at q0
      have EQ := Lib.hid q0
      have EV := Lib.hid hv
      clear q0 hv
      have KP : Hid (∀ W, GHeld w.heap.size (some ⟨b1, o1, none⟩) (some ⟨b2, o2, none⟩) ca cb zs n T w W → (fun W => GHeld w.heap.size (some ⟨b1, o1, none⟩) (some ⟨b2, o2, none⟩) ca cb zs n T w W ∧ W.cell? ⟨w.heap.size, 0, none⟩ = some (.slice (some ⟨b1, o1, none⟩) zs.length ca) ∧ W.cell? ⟨w.heap.size, 1, none⟩ = some (.slice (some ⟨b2, o2, none⟩) n cb) ∧ W.cell? ⟨b1, o1 + k, none⟩ = some (.int .i64 Z) ∧ W.cell? ⟨b2, o2 + k * 2, none⟩ = some (.slice (T k).A (T k).xs.length (T k).ca) ∧ W.cell? ⟨b2, o2 + k * 2 + 1, none⟩ = some (.slice (T k).B (T k).ys.length (T k).cb)) W) := fun W h => ⟨h, h.c0, h.c1, h.cell CZ.out, h.cell T0.out, h.cell T1.out⟩
      go_wp2_with fail
      go_region_held3 (fun W => GHeld w.heap.size (some ⟨b1, o1, none⟩) (some ⟨b2, o2, none⟩) ca cb zs n T w W ∧ W.cell? ⟨w.heap.size, 0, none⟩ = some (.slice (some ⟨b1, o1, none⟩) zs.length ca) ∧ W.cell? ⟨w.heap.size, 1, none⟩ = some (.slice (some ⟨b2, o2, none⟩) n cb) ∧ W.cell? ⟨b1, o1 + k, none⟩ = some (.int .i64 Z) ∧ W.cell? ⟨b2, o2 + k * 2, none⟩ = some (.slice (T k).A (T k).xs.length (T k).ca) ∧ W.cell? ⟨b2, o2 + k * 2 + 1, none⟩ = some (.slice (T k).B (T k).ys.length (T k).cb))
        (first | exact KP.out _ HH.out | exact KP.out _ HH.out.drew | exact KP.out _ (GHeld.below (And.left (by assumption)) (by assumption)) | go_keep)
        (first | (go_at_call 12; refine (at_is (GHeld.grid (And.left (by assumption))) EQ.out).mono ?_; rintro e w9 ⟨rfl, hb⟩) | (go_at_call 19; refine (tat_is (GHeld.tab (And.left (by assumption)) hltn) EV.out).mono ?_; rintro e w9 ⟨rfl, hb⟩))
      all_goals
        have hk9 : GHeld w.heap.size (some ⟨b1, o1, none⟩) (some ⟨b2, o2, none⟩) ca cb zs n T w w9 := And.left (by assumption)
        go_wp2_with fail
        go_roundw
        case rel => exact ⟨k + 1, by omega, by go_num, hk9⟩
        case measure => simp [intOf]; omega
    · have hl : zs.length - 1 < zs.length := by omega
      have hln : zs.length - 1 < n := by rw [HS.out]; omega
      have CZ0 := Lib.hid (HL.out.zc 0 hz1)
      have CZL := Lib.hid (HL.out.zc (zs.length - 1) hl)
      have T0 := Lib.hid (HL.out.tc0 0 hn1)
      have T1 := Lib.hid (HL.out.tc1 0 hn1)
      have S0 := Lib.hid (HL.out.tc0 (zs.length - 1) hln)
      have S1 := Lib.hid (HL.out.tc1 (zs.length - 1) hln)
      rw [Nat.zero_mul, Nat.add_zero] at T0 T1
      rw [Nat.add_zero] at CZ0
      have zb0 := HK.out.zb 0 hz1
      have zbl := HK.out.zb (zs.length - 1) hl
      have q1 : Gd.atv zs n (X T) (Y T) (Tb.g zs 0 - m) x = Tb.atv (T 0).xs (T 0).ys x := by rw [gatv_ok HO.out, Gd.at_lo HK.out (by omega)]; rfl
      have q2 : Gd.atv zs n (X T) (Y T) (Tb.g zs (zs.length - 1) + m) x = Tb.atv (T (zs.length - 1)).xs (T (zs.length - 1)).ys x := by rw [gatv_ok HO.out, Gd.at_hi HK.out (by omega)]; rfl
      generalize Tb.g zs 0 = Z0 at CZ0 q1 zb0
      generalize Tb.g zs (zs.length - 1) = ZL at CZL q2 zbl
      generalize hv : Tb.atv (T 0).xs (T 0).ys x = V at q1
      generalize hu : Tb.atv (T (zs.length - 1)).xs (T (zs.length - 1)).ys x = U at q2
      have Q1 := Lib.hid q1
      have Q2 := Lib.hid q2
      have EV := Lib.hid hv
      have EU := Lib.hid hu
      clear q1 q2 hv hu
      have v1 : IntKind.i64.wrap (Z0 - m) = Z0 - m := IntWalk.i64_in _ (by omega)
      have v2 : IntKind.i64.wrap (ZL + m) = ZL + m := IntWalk.i64_in _ (by omega)
      have v3 : IntKind.i64.wrap m = m := IntWalk.i64_in _ (by omega)
      have e2 : 0 ≤ (zs.length : Int) - 1 := by omega
      have e1 : (zs.length : Int) - 1 < (zs.length : Int) := by omega
      have e1n : (zs.length : Int) - 1 < (n : Int) := by have := HS.out; omega
      have e3 : ((zs.length : Int) - 1).toNat = zs.length - 1 := by omega
      have e5 : (1 : Int) ≤ (zs.length : Int) := by omega
      have e6 : 1 ≤ zs.length := by omega
      have e4 : IntKind.i64.wrap ((zs.length : Int) - 1) = (zs.length : Int) - 1 := IntWalk.i64_in _ (by omega)
      have KP : Hid (∀ W, GHeld w.heap.size (some ⟨b1, o1, none⟩) (some ⟨b2, o2, none⟩) ca cb zs n T w W → (fun W => GHeld w.heap.size (some ⟨b1, o1, none⟩) (some ⟨b2, o2, none⟩) ca cb zs n T w W ∧ W.cell? ⟨w.heap.size, 0, none⟩ = some (.slice (some ⟨b1, o1, none⟩) zs.length ca) ∧ W.cell? ⟨w.heap.size, 1, none⟩ = some (.slice (some ⟨b2, o2, none⟩) n cb) ∧ W.cell? ⟨b1, o1, none⟩ = some (.int .i64 Z0) ∧ W.cell? ⟨b1, o1 + (zs.length - 1), none⟩ = some (.int .i64 ZL) ∧ W.cell? ⟨b2, o2, none⟩ = some (.slice (T 0).A (T 0).xs.length (T 0).ca) ∧ W.cell? ⟨b2, o2 + 1, none⟩ = some (.slice (T 0).B (T 0).ys.length (T 0).cb) ∧ W.cell? ⟨b2, o2 + (zs.length - 1) * 2, none⟩ = some (.slice (T (zs.length - 1)).A (T (zs.length - 1)).xs.length (T (zs.length - 1)).ca) ∧ W.cell? ⟨b2, o2 + (zs.length - 1) * 2 + 1, none⟩ = some (.slice (T (zs.length - 1)).B (T (zs.length - 1)).ys.length (T (zs.length - 1)).cb)) W) := fun W h => ⟨h, h.c0, h.c1, h.cell CZ0.out, h.cell CZL.out, h.cell T0.out, h.cell T1.out, h.cell S0.out, h.cell S1.out⟩
      go_wp2_with fail
      go_region_held3 (fun W => GHeld w.heap.size (some ⟨b1, o1, none⟩) (some ⟨b2, o2, none⟩) ca cb zs n T w W ∧ W.cell? ⟨w.heap.size, 0, none⟩ = some (.slice (some ⟨b1, o1, none⟩) zs.length ca) ∧ W.cell? ⟨w.heap.size, 1, none⟩ = some (.slice (some ⟨b2, o2, none⟩) n cb) ∧ W.cell? ⟨b1, o1, none⟩ = some (.int .i64 Z0) ∧ W.cell? ⟨b1, o1 + (zs.length - 1), none⟩ = some (.int .i64 ZL) ∧ W.cell? ⟨b2, o2, none⟩ = some (.slice (T 0).A (T 0).xs.length (T 0).ca) ∧ W.cell? ⟨b2, o2 + 1, none⟩ = some (.slice (T 0).B (T 0).ys.length (T 0).cb) ∧ W.cell? ⟨b2, o2 + (zs.length - 1) * 2, none⟩ = some (.slice (T (zs.length - 1)).A (T (zs.length - 1)).xs.length (T (zs.length - 1)).ca) ∧ W.cell? ⟨b2, o2 + (zs.length - 1) * 2 + 1, none⟩ = some (.slice (T (zs.length - 1)).B (T (zs.length - 1)).ys.length (T (zs.length - 1)).cb))
        (first | exact KP.out _ HH.out | exact KP.out _ HH.out.drew | exact KP.out _ (GHeld.below (And.left (by assumption)) (by assumption)) | go_keep)
        (first | (go_at_call 12; (with_reducible refine (at_is (GHeld.grid (And.left (by assumption))) Q1.out).mono ?_); rintro e w9 ⟨rfl, hb⟩) | (go_at_call 12; (with_reducible refine (at_is (GHeld.grid (And.left (by assumption))) Q2.out).mono ?_); rintro e w9 ⟨rfl, hb⟩) | (go_at_call 19; (with_reducible refine (tat_is (GHeld.tab (And.left (by assumption)) hn1) EV.out).mono ?_); rintro e w9 ⟨rfl, hb⟩) | (go_at_call 19; (with_reducible refine (tat_is (GHeld.tab (And.left (by assumption)) hln) EU.out).mono ?_); rintro e w9 ⟨rfl, hb⟩))
      all_goals
        have hk9 : GHeld w.heap.size (some ⟨b1, o1, none⟩) (some ⟨b2, o2, none⟩) ca cb zs n T w w9 := And.left (by assumption)
        go_wp2_with fail
        go_ret
        exact ⟨rfl, hk9.old⟩

theorem GridTables_walk (A B : Option Addr) (ca cb : Nat) (zs : List Int) (n : Nat) (T : Nat → Tv) (x m : Int) (hmw : (Lit.int .u16 m).wf = true) (w : World) (hG : GridIn w A B zs n T) :
    Calls Try.prog 5 #[.agg #[.slice A zs.length ca, .slice B n cb], .int .i64 x, .int .u16 m] w fun e w' => e = .returned (.bool true) ∧ Below w.heap.size w w' := by
  have bm := bounds_u16 hmw
  cases hf : fewG zs n T with
  | false => exact tabs_few A B ca cb zs n T x m w hG hf
  | true =>
    cases ho : Gd.okB zs n (X T) (Y T) with
    | false => exact tabs_no A B ca cb zs n T x m w hG hf ho
    | true =>
      have ok := (Gd.ok_iff _ _ _ _).1 ho
      have h1 := ok.one
      have hs := ok.same
      obtain ⟨b1, o1, b2, o2, L⟩ := glies_of hG (by omega) (by omega)
      obtain rfl := L.ea
      obtain rfl := L.eb
      exact tabs_ok b1 o1 b2 o2 ca cb zs n T x m w hG hf ho L bm.1 bm.2

end GridC
end Go.Proofs.Ythjefnkgfmkijaa
