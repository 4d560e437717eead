/- The walk of TableRises. -/
import Derived.Test.YteipmionpokfkaaTabLawKit
import Derived.Deep.RegionHeld3
namespace Go.Proofs.Yteipmionpokfkaa
namespace TabC
open Go.RowKit

theorem rkept {n : Nat} {A B : Option Addr} {ca cb : Nat} {xs ys : List Int} {w W : World} {p : Addr} {v : Value} (h : Held n A B ca cb xs ys w W) (hp : w.cell? p = some v) :
    W.cell? ⟨n, 0, none⟩ = some (.slice A xs.length ca) ∧ W.cell? ⟨n, 1, none⟩ = some (.slice B ys.length cb) ∧ W.cell? p = some v ∧ Held n A B ca cb xs ys w W := ⟨h.c0, h.c1, h.cell hp, h⟩

set_option maxRecDepth 100000 in
set_option maxHeartbeats 8000000 in
theorem TableRises_walk (A B : Option Addr) (ca cb : Nat) (xs ys : List Int) (a b : Int) (w : World) (hT : TabIn w A B xs ys) :
    Calls Try.prog 8 #[.agg #[.slice A xs.length ca, .slice B ys.length cb], .int .i64 a, .int .i64 b] w fun e w' => e = .returned (.bool true) ∧ Below w.heap.size w w' := by
  have HH := Lib.hid (Held.new (ca := ca) (cb := cb) hT)
  have HT := Lib.hid hT
  clear hT
  by_cases hf : 40 < xs.length ∨ 40 < ys.length
  · go_enter Try.func8, Try.ntmps8
    go_wp2_with (first
      | (go_at_call 11; refine (awake_c _).mono ?_; rintro e w9 ⟨rfl, hb⟩; replace HH := Lib.hid (HH.out.below hb); replace c0 := HH.out.c0; replace c1 := HH.out.c1; clear hb)
      | (go_at_call 12; refine (few_no A B ca cb xs ys _ hf).mono ?_; rintro e w9 ⟨rfl, hb⟩; replace HH := Lib.hid (HH.out.below hb); replace c0 := HH.out.c0; replace c1 := HH.out.c1; clear hb)
      | (go_at_call 13; refine (check_ok A B ca cb xs ys _ HH.out.tab HO.out).mono ?_; rintro e w9 ⟨rfl, hb⟩; replace HH := Lib.hid (HH.out.below hb); replace c0 := HH.out.c0; replace c1 := HH.out.c1; clear hb))
    go_ret
    exact ⟨rfl, HH.out.old⟩
  · have hf1 : xs.length ≤ 40 := by omega
    have hf2 : ys.length ≤ 40 := by omega
    clear hf
    cases hr : Tb.rsB xs ys with
    | false =>
      have rc : ∀ W, TabIn W A B xs ys → Calls Try.prog 15 #[.agg #[.slice A xs.length ca, .slice B ys.length cb]] W fun e w' => e = .returned (.bool false) ∧ Below W.heap.size W w' := fun W h => by
        have := rising_c A B ca cb xs ys W h; rwa [hr] at this
      have RC := Lib.hid rc
      clear rc hr
      go_enter Try.func8, Try.ntmps8
      go_wp2_with (first
      | (go_at_call 11; refine (awake_c _).mono ?_; rintro e w9 ⟨rfl, hb⟩; replace HH := Lib.hid (HH.out.below hb); replace c0 := HH.out.c0; replace c1 := HH.out.c1; clear hb)
      | (go_at_call 12; refine (few_yes A B ca cb xs ys _ hf1 hf2).mono ?_; rintro e w9 ⟨rfl, hb⟩; replace HH := Lib.hid (HH.out.below hb); replace c0 := HH.out.c0; replace c1 := HH.out.c1; clear hb)
      | (go_at_call 13; refine (check_ok A B ca cb xs ys _ HH.out.tab HO.out).mono ?_; rintro e w9 ⟨rfl, hb⟩; replace HH := Lib.hid (HH.out.below hb); replace c0 := HH.out.c0; replace c1 := HH.out.c1; clear hb)
      | (go_at_call 15; refine (RC.out _ HH.out.tab).mono ?_; rintro e w9 ⟨rfl, hb⟩; replace HH := Lib.hid (HH.out.below hb); replace c0 := HH.out.c0; replace c1 := HH.out.c1; clear hb))
      go_ret
      exact ⟨rfl, HH.out.old⟩
    | true =>
      have rc : ∀ W, TabIn W A B xs ys → Calls Try.prog 15 #[.agg #[.slice A xs.length ca, .slice B ys.length cb]] W fun e w' => e = .returned (.bool true) ∧ Below W.heap.size W w' := fun W h => by
        have := rising_c A B ca cb xs ys W h; rwa [hr] at this
      have RC := Lib.hid rc
      simp only [Tb.rsB, Bool.and_eq_true] at hr
      have HO := Lib.hid hr.1
      have HR := Lib.hid hr.2
      clear rc hr
      by_cases hab : b < a
      · go_enter Try.func8, Try.ntmps8
        go_wp2_with (first
      | (go_at_call 11; refine (awake_c _).mono ?_; rintro e w9 ⟨rfl, hb⟩; replace HH := Lib.hid (HH.out.below hb); replace c0 := HH.out.c0; replace c1 := HH.out.c1; clear hb)
      | (go_at_call 12; refine (few_yes A B ca cb xs ys _ hf1 hf2).mono ?_; rintro e w9 ⟨rfl, hb⟩; replace HH := Lib.hid (HH.out.below hb); replace c0 := HH.out.c0; replace c1 := HH.out.c1; clear hb)
      | (go_at_call 13; refine (check_ok A B ca cb xs ys _ HH.out.tab HO.out).mono ?_; rintro e w9 ⟨rfl, hb⟩; replace HH := Lib.hid (HH.out.below hb); replace c0 := HH.out.c0; replace c1 := HH.out.c1; clear hb)
      | (go_at_call 15; refine (RC.out _ HH.out.tab).mono ?_; rintro e w9 ⟨rfl, hb⟩; replace HH := Lib.hid (HH.out.below hb); replace c0 := HH.out.c0; replace c1 := HH.out.c1; clear hb))
        go_ret
        exact ⟨rfl, HH.out.old⟩
      · have hok := (Tb.ok_iff xs ys).1 HO.out
        have hlen : 0 < ys.length := by have := hok.two; have := hok.same; omega
        have r1 : Tb.atv xs ys a ≤ Tb.atv xs ys b := by rw [atv_ok HO.out, atv_ok HO.out]; exact Tb.at_mono hok HR.out (by omega)
        have r2 : Tb.bk xs ys a ≤ Tb.bk xs ys b := by rw [bk_ok HO.out, bk_ok HO.out]; exact Tb.bk_mono hok (by omega)
        have r3 : (Tb.pk xs ys == Tb.g ys (ys.length - 1)) = true := by rw [pk_ok HO.out, Tb.mx_last hok HR.out]; simp
        have q1 : decide (Tb.atv xs ys a ≤ Tb.atv xs ys b) = true := by simpa using r1
        have q2 : decide (Tb.bk xs ys a ≤ Tb.bk xs ys b) = true := by simpa using r2
        obtain ⟨b3, o3, rfl, hcy⟩ := cellG HT.out.ya (i := ys.length - 1) (by omega)
        have HCY := Lib.hid hcy
        have e2 : 0 ≤ (ys.length : Int) - 1 := by omega
        have e1 : (ys.length : Int) - 1 < (ys.length : Int) := by omega
        have e3 : ((ys.length : Int) - 1).toNat = ys.length - 1 := by omega
        have e5 : (1 : Int) ≤ (ys.length : Int) := by omega
        have e6 : 1 ≤ ys.length := by omega
        have e7 : decide (0 ≤ (ys.length : Int) - 1) = true := by simp; omega
        have e4 : IntKind.i64.wrap ((ys.length : Int) - 1) = (ys.length : Int) - 1 := IntWalk.i64_in _ (by omega)
        clear hok r1 r2 hcy
        go_enter Try.func8, Try.ntmps8
        go_wp2_with (first
      | (go_at_call 11; refine (awake_c _).mono ?_; rintro e w9 ⟨rfl, hb⟩; replace HH := Lib.hid (HH.out.below hb); replace c0 := HH.out.c0; replace c1 := HH.out.c1; replace cy := HH.out.cell HCY.out; clear hb)
      | (go_at_call 12; refine (few_yes A (some ⟨b3, o3, none⟩) ca cb xs ys _ hf1 hf2).mono ?_; rintro e w9 ⟨rfl, hb⟩; replace HH := Lib.hid (HH.out.below hb); replace c0 := HH.out.c0; replace c1 := HH.out.c1; replace cy := HH.out.cell HCY.out; clear hb)
      | (go_at_call 13; refine (check_ok A (some ⟨b3, o3, none⟩) ca cb xs ys _ HH.out.tab HO.out).mono ?_; rintro e w9 ⟨rfl, hb⟩; replace HH := Lib.hid (HH.out.below hb); replace c0 := HH.out.c0; replace c1 := HH.out.c1; replace cy := HH.out.cell HCY.out; clear hb)
      | (go_at_call 15; refine (RC.out _ HH.out.tab).mono ?_; rintro e w9 ⟨rfl, hb⟩; replace HH := Lib.hid (HH.out.below hb); replace c0 := HH.out.c0; replace c1 := HH.out.c1; replace cy := HH.out.cell HCY.out; clear hb))
        go_region_held3 (fun W => W.cell? ⟨w.heap.size, 0, none⟩ = some (.slice A xs.length ca) ∧ W.cell? ⟨w.heap.size, 1, none⟩ = some (.slice (some ⟨b3, o3, none⟩) ys.length cb) ∧ W.cell? ⟨b3, o3 + (ys.length - 1), none⟩ = some (.int .i64 (Tb.g ys (ys.length - 1))) ∧ Held w.heap.size A (some ⟨b3, o3, none⟩) ca cb xs ys w W)
          (first | exact rkept HH.out HCY.out | exact rkept HH.out.drew HCY.out | exact rkept (Held.below (And.right (And.right (And.right (by assumption)))) (by assumption)) HCY.out | go_keep)
          (first
            | (go_at_call 17; refine (atv_c _ _ ca cb xs ys _ _ (Held.tab (And.right (And.right (And.right (by assumption)))))).mono ?_; rintro e w9 ⟨rfl, hb⟩)
            | (go_at_call 23; refine (bk_c _ _ ca cb xs ys _ _ (Held.tab (And.right (And.right (And.right (by assumption)))))).mono ?_; rintro e w9 ⟨rfl, hb⟩)
            | (go_at_call 19; refine (peak_c _ _ ca cb xs ys _ (Held.tab (And.right (And.right (And.right (by assumption)))))).mono ?_; rintro e w9 ⟨rfl, hb⟩)
            | (go_at_call 13; refine (check_ok _ _ ca cb xs ys _ (Held.tab (And.right (And.right (And.right (by assumption))))) HO.out).mono ?_; rintro e w9 ⟨rfl, hb⟩))
        all_goals
          have hk : Held w.heap.size A (some ⟨b3, o3, none⟩) ca cb xs ys w w9 := And.right (And.right (And.right (by assumption)))
          go_wp2_with fail
          go_ret
          exact ⟨rfl, hk.old⟩

end TabC
end Go.Proofs.Yteipmionpokfkaa
