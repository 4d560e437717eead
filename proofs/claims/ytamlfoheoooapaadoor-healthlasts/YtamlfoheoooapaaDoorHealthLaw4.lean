/- The walk of HealthLasts. -/
import Derived.Test.YtamlfoheoooapaaDoorHealthKit
import Derived.Deep.DeepCutAuto
import Derived.Test.YtamlfoheoooapaaDoorHealthOpen
import Derived.Test.YtamlfoheoooapaaDoorHeldWp
import Derived.Deep.RegionHeld3
namespace Go.Proofs.YtamlfoheoooapaaDoor
namespace Qw
open Go.RowKit Lk

abbrev SH (M : Nat) (c s : Int) (g o : Nat) (b : Bool) (V : World) : Prop := V.heap[M]? = some (ho c s) ∧ V.cell? ⟨g, o, none⟩ = some (.bool b)
set_option maxRecDepth 100000 in
set_option maxHeartbeats 8000000 in
theorem lasts_go (A : Option Addr) (L : List Bool) (n cap : Nat) (hn : L.length = n) (t : TypeId) (w : World) (hR : w.heap[0]? = some (.cells cc t (0, 0))) (hA : Bls w A L) :
    Calls Tryd.prog 5 #[.slice A n cap] w fun r w' => r = .returned (.bool true) ∧ Below w.heap.size w w' := by
  have HV := Lib.hid ((Hv.nil w).add (RO t) hR)
  have AW := Lib.hid (fun W hR => awake_c t W hR)
  have HA := Lib.hid (fun W (hW : Below w.heap.size w W) => hA.below hW)
  have HN := Lib.hid hn
  have ST := Lib.hid (fun (c s : Int) (b : Bool) (p : Int) (hp : Hh.nq c b = p) W hR => step_v c s Hh.no b p (Hh.sc Hh.no p) hp rfl t W hR)
  clear hR hA hn
  go_enter Tryd.func5, Tryd.ntmps5
  go_upto_region 4 with (first | (go_at_call 8; (with_reducible refine (AW.out _ HV.out.head).mono ?_); rintro r W ⟨rfl, hb⟩; replace HV := Lib.hid (HV.out.grow hb); clear hb) | fail)
  have NE := Lib.hid (ne_made HV.out)
  have GE := Lib.hid HV.out.old.size
  replace HV := Lib.hid (HV.out.made (ho 0 255))
  generalize W.heap.size = M at *
  go_wp2_with fail
  go_loopw [5, 6] (fun q i wr => ∃ (k : Nat) (c s : Int), (k ≤ n ∧ k ≤ 200) ∧ i = .int .i64 k ∧ q = .int .i64 c ∧ (0 ≤ c ∧ c ≤ k) ∧ Hv w wr [(M, ho c s), RO t]) (fun _ i _ => 200 - (intOf i).toNat)
  case atStart => exact ⟨0, 0, 255, ⟨Nat.zero_le _, by decide⟩, rfl, rfl, ⟨by decide, by decide⟩, HV.out⟩
  case round =>
    clear HV AW
    obtain ⟨k, c, s, ⟨hk, hk2⟩, rfl, rfl, ⟨hc0, hck⟩, hv⟩ := hrel
    have HV := Lib.hid hv
    clear hv
    by_cases hlt : k < n
    · have hkn : (k : Int) < n := by omega
      by_cases h200 : k < 200
      · have h2 : (k : Int) < 200 := by omega
        obtain ⟨b, hb⟩ : ∃ b, L[k]? = some b := ⟨L[k]'(by rw [HN.out]; exact hlt), List.getElem?_eq_getElem _⟩
        obtain ⟨g, o, rfl, hg, hx⟩ := HA.out _ HV.out.old k b hb
        have HB := Lib.hid hb
        have HX : Hid (∀ W', Below w.heap.size w W' → W'.cell? ⟨g, o + k, none⟩ = some (.bool b)) := fun W' hW => by
          obtain ⟨g', o', e, _, hx'⟩ := HA.out W' hW k b HB.out
          cases e
          exact hx'
        clear HB hx hg hb
        go_upto_region 7 with fail
        refine wp_region_noPanic (Lk.wp_region_ord 6 (SH M c s g (o + k) b) (by kernel_rfl) (by kernel_rfl) (fun _ _ _ _ _ h => h) ⟨HV.out.drew.head, HX.out _ HV.out.drew.old⟩ ?_)
        replace HV := Lib.hid HV.out.drew
        simp only [List.take_succ_cons, List.take_zero, List.drop_succ_cons, List.drop_zero]
        iterate 6 (refine Lk.wpHeldQ_step ?_ rfl ?_ ?_; rotate_left; (focus (intro w' hS; obtain ⟨s1, s2⟩ := hS; first | (refine (rH _ rfl _ rfl s1).trans ?_; with_reducible rfl) | (go_simp; try with_reducible rfl))); simp only [Act.put, List.setIfInBounds_toArray, List.set_cons_zero, List.set_cons_succ])
        show Lk.wpSeqQ _ _ _ _ _ _ _
        obtain ⟨p, hp⟩ : ∃ p, Hh.nq c b = p := ⟨_, rfl⟩
        have C1 := Lib.hid (fun W hR => ST.out c s b p hp W hR)
        have HP := Lib.hid hp
        have pn : 0 ≤ p := by
          rw [← hp, Hh.nq]
          split
          · omega
          · unfold Hh.lg; omega
        have HW := Lib.hid (Hh.well_quiet p pn)
        generalize Hh.sc Hh.no p = y at C1 HW
        clear pn
        clear hp
        refine Lk.wpSeqQ_step rfl (fun K hK => ?_)
        have HK := Lib.hid hK
        clear hK
        go_simp
        refine (C1.out _ HV.out.h2).mono ?_
        rintro r W2 ⟨rfl, hb⟩
        replace HV := Lib.hid (HV.out.grow hb)
        clear hb C1
        refine HK.out _ _ (.inr ⟨HV.out.head, HX.out _ HV.out.old⟩) ?_
        clear HK K
        try simp only [Act.put, List.setIfInBounds_toArray, List.set_cons_zero, List.set_cons_succ]
        refine Lk.wpSeqQ_step rfl (fun K hK => ?_)
        refine wp_store_row 23 _ _ rfl M (Qw.hc p y) rfl rfl 23 (Qw.hc c s) HV.out.head info_h rfl (by simp [Value.oneCell']) ?_
        replace HV := Lib.hid (HV.out.change (Off.row _ M (Qw.hc p y)) (setRow_heap _ M (Qw.hc c s) (Qw.hc p y) 23 (0, 0) HV.out.head) NE.out GE.out)
        refine hK _ _ (.inl rfl) ?_
        clear hK K
        refine Lk.wpSeqQ_nil ?_
        refine NoPanic.normal ?_
        generalize W2.setRow M (Qw.hc p y) = W3 at *
        clear W2
        have cx := HX.out _ HV.out.old
        cases b with
        | true =>
          obtain rfl : 0 = p := HP.out
          replace HW : Hid (Hh.well 0 y = true) := HW.out
          have CW := Lib.hid (fun W => well_v 0 y true (HW.out) W)
          clear HW
          go_wp2_with (first
            | go_big_skip
            | (refine ldh rfl _ rfl _ _ _ rfl HV.out.head ?_)
            | (go_at_call 13; (with_reducible refine (CW.out _).mono ?_); rintro r W4 ⟨rfl, hb⟩; replace HV := Lib.hid (HV.out.grow hb); clear hb CW; have cq : W4.cell? ⟨M, 0, none⟩ = some (.int .i64 0) := Joins.cell_of_block HV.out.head 0)
            | fail)
          go_roundw
          case rel => exact ⟨k + 1, 0, y, ⟨by omega, by omega⟩, by go_num, rfl, ⟨by omega, by omega⟩, HV.out⟩
          case measure => simp only [intOf, Int.toNat_natCast]; omega
        | false =>
          obtain rfl : c + 1 = p := by rw [← HP.out]; show _ = min (max c 0) 999 + 1; omega
          by_cases h5 : c + 1 ≤ 5
          · have d5 : decide (c + 1 ≤ 5) = true := by simpa using h5
            rw [d5] at HW
            clear h5
            have CW := Lib.hid (fun W => well_v (c + 1) y true (HW.out) W)
            clear HW
            go_wp2_with (first
              | go_big_skip
              | (refine ldh rfl _ rfl _ _ _ rfl HV.out.head ?_)
              | (go_at_call 13; (with_reducible refine (CW.out _).mono ?_); rintro r W4 ⟨rfl, hb⟩; replace HV := Lib.hid (HV.out.grow hb); clear hb CW; have cq : W4.cell? ⟨M, 0, none⟩ = some (.int .i64 (c + 1)) := Joins.cell_of_block HV.out.head 0)
              | fail)
            go_roundw
            case rel => exact ⟨k + 1, (c + 1), y, ⟨by omega, by omega⟩, by go_num, rfl, ⟨by omega, by omega⟩, HV.out⟩
            case measure => simp only [intOf, Int.toNat_natCast]; omega
          · have d5 : decide (c + 1 ≤ 5) = false := by simpa using h5
            rw [d5] at HW
            clear h5
            have CW := Lib.hid (fun W => well_v (c + 1) y false (HW.out) W)
            clear HW
            go_wp2_with (first
              | go_big_skip
              | (refine ldh rfl _ rfl _ _ _ rfl HV.out.head ?_)
              | (go_at_call 13; (with_reducible refine (CW.out _).mono ?_); rintro r W4 ⟨rfl, hb⟩; replace HV := Lib.hid (HV.out.grow hb); clear hb CW; have cq : W4.cell? ⟨M, 0, none⟩ = some (.int .i64 (c + 1)) := Joins.cell_of_block HV.out.head 0)
              | fail)
            go_roundw
            case rel => exact ⟨k + 1, (c + 1), y, ⟨by omega, by omega⟩, by go_num, rfl, ⟨by omega, by omega⟩, HV.out⟩
            case measure => simp only [intOf, Int.toNat_natCast]; omega
      · obtain rfl : k = 200 := by omega
        go_wp2_with fail
        go_ret
        exact ⟨rfl, HV.out.old⟩
    · obtain rfl : k = n := by omega
      go_wp2_with (first | go_big_skip | fail)
      go_ret
      exact ⟨rfl, HV.out.old⟩

theorem HealthLasts_walk (A : Option Addr) (L : List Bool) (cap : Nat) (t : TypeId) (w : World) (hR : w.heap[0]? = some (.cells cc t (0, 0))) (hA : Bls w A L) :
    Calls Tryd.prog 5 #[.slice A L.length cap] w fun r w' => r = .returned (.bool true) ∧ Below w.heap.size w w' := lasts_go A L _ cap rfl t w hR hA
end Qw
end Go.Proofs.YtamlfoheoooapaaDoor
