/- The walk of CrcCounts. -/
import Derived.Test.YtikpmiphjaciiaaCrcTexts
namespace Go.Proofs.Ytikpmiphjaciiaa
namespace Crc
open Go.RowKit

set_option maxRecDepth 100000 in
set_option maxHeartbeats 4000000 in
theorem CrcCounts_walk (A : Option Addr) (n c : Nat) (T : Nat → Bt) (w : World) (hT : Texts w A n T) :
    Calls Try.prog 7 #[.slice A n c] w fun e w' => e = .returned (.bool true) ∧ Below w.heap.size w w' := by
  have HT := Lib.hid hT
  have hn := hT.len
  clear hT
  go_enter Try.func7, Try.ntmps7
  go_wp2_with fail
  refine (awake_c _).mono ?_
  rintro e w1 ⟨rfl, hb⟩
  have HN := Lib.hid (Own.new_after hb)
  clear hb
  go_wp2_with fail
  refine (new_c _).mono ?_
  rintro e w2 ⟨rfl, hw⟩
  rw [← hw] at HN
  clear hw
  generalize w1.heap.size = b at *
  go_wp2_with fail
  go_loopw [5, 6] (fun q i wr => ∃ k m : Nat, k ≤ n ∧ k ≤ 50 ∧ i = .int .i64 k ∧ q = .int .i64 m ∧ m ≤ 2 * k ∧ Own w.heap.size b m w wr) (fun _ i _ => 50 - (intOf i).toNat)
  case atStart => exact ⟨0, 0, Nat.zero_le _, Nat.zero_le _, rfl, rfl, Nat.zero_le _, HN.out⟩
  case round =>
    clear HN
    obtain ⟨k, m, hk, hk5, rfl, rfl, hm, hN⟩ := hrel
    have HN := Lib.hid hN
    clear hN
    by_cases h1 : k < n
    · have d1 : decide ((k : Int) < (n : Int)) = true := by simp; omega
      by_cases h2 : k < 50
      · have d2 : decide ((k : Int) < 50) = true := by simp; omega
        obtain ⟨a, o, rfl, hc⟩ := HT.out.at_ k h1
        have HC := Lib.hid hc
        have hlt := World.block_lt_of_cell? _ _ hc
        have cc : wr.cell? ⟨a, o + k, none⟩ = _ := (HN.out.old.cell (p := ⟨a, o + k, none⟩) hlt).trans hc
        clear hc
        have hsm := HT.out.small k h1
        have HBy := Lib.hid (HT.out.bytes k h1)
        have HIn := Lib.hid (HT.out.in_ k h1)
        generalize T k = t at *
        obtain ⟨tA, tc, tl⟩ := t
        by_cases h3 : 300 < tl.length
        · have d3 : decide ((300 : Int) < (tl.length : Int)) = true := by simp; omega
          go_wp2_with fail
          go_roundw
          case rel => exact ⟨k + 1, m, by omega, by omega, by go_num, rfl, by omega, HN.out⟩
          case measure => simp [intOf]; omega
        · have d3 : decide ((300 : Int) < (tl.length : Int)) = false := by simp; omega
          have KP : Hid (∀ j W, Own w.heap.size b j w W → W.cell? ⟨a, o + k, none⟩ = some (.slice tA tl.length tc)) := fun j W h => (h.old.cell (p := ⟨a, o + k, none⟩) hlt).trans HC.out
          have hm1 : m + 1 < 4611686018427387904 := by omega
          have hm2 : m + 1 + 1 < 4611686018427387904 := by omega
          go_wp2_with fail
          clear cc
          go_region_held3 (fun W => W.cell? ⟨a, o + k, none⟩ = some (.slice tA tl.length tc) ∧ True)
            (first | exact ⟨KP.out _ _ HN.out, trivial⟩ | exact ⟨KP.out _ _ HN.out.drew, trivial⟩ | exact ⟨KP.out _ _ (by assumption), trivial⟩ | go_keep)
            (first | (go_at_call 14; refine (many_c b m _ HN.out.drew.is).mono ?_; rintro e w9 ⟨rfl, rfl⟩) | (go_at_call 13; refine (of_c b m tA tl tc _ HBy.out (by omega) HN.out.drew.is hm1 (HIn.out.own HN.out.drew)).mono ?_; rintro e w9 ⟨rfl, hi, ho⟩; have hO9 := HN.out.drew.step hi ho; clear hi ho) | (go_at_call 11; refine (more_c b (m + 1) 65535 tA tl tc _ (by decide) HBy.out (by omega) hO9.is hm2 (HIn.out.own hO9)).mono ?_; rintro e w10 ⟨rfl, hi, ho⟩; have hO10 := hO9.step hi ho; clear hi ho))
          have HP := Lib.hid hO10
          clear hO10 hO9
          go_wp2_with fail
          go_roundw
          case rel => exact ⟨k + 1, m + 1 + 1, by omega, by omega, by go_num, by go_num, by omega, HP.out⟩
          case measure => simp [intOf]; omega
      · have d2 : decide ((k : Int) < 50) = false := by simp; omega
        have hcv := Joins.run_convert_bytes_const_at (P := Try.prog) wr 23 5 #[.int .u8 97] 1 1 wr.heap.size rfl Try.underlying23 Try.underlying5
        rw [show (#[Value.int .u8 97]).size = 1 from rfl] at hcv
        go_wp2_with fail
        refine (many_c b m _ HN.out.is).mono ?_
        rintro e w3 ⟨rfl, rfl⟩
        go_wp2_with (first | (go_at_call 13; refine (of_none _ _).mono ?_; rintro e w' ⟨rfl, rfl⟩) | (go_at_call 11; refine (more_none _ _ _).mono ?_; rintro e w' ⟨rfl, rfl⟩) | (go_at_call 14; refine (many_none _).mono ?_; rintro e w' ⟨rfl, rfl⟩))
        go_ret
        exact ⟨rfl, (HN.out.alloc _).old⟩
    · have d1 : decide ((k : Int) < (n : Int)) = false := by simp; omega
      have hcv := Joins.run_convert_bytes_const_at (P := Try.prog) wr 23 5 #[.int .u8 97] 1 1 wr.heap.size rfl Try.underlying23 Try.underlying5
      rw [show (#[Value.int .u8 97]).size = 1 from rfl] at hcv
      go_wp2_with fail
      refine (many_c b m _ HN.out.is).mono ?_
      rintro e w3 ⟨rfl, rfl⟩
      go_wp2_with (first | (go_at_call 13; refine (of_none _ _).mono ?_; rintro e w' ⟨rfl, rfl⟩) | (go_at_call 11; refine (more_none _ _ _).mono ?_; rintro e w' ⟨rfl, rfl⟩) | (go_at_call 14; refine (many_none _).mono ?_; rintro e w' ⟨rfl, rfl⟩))
      go_ret
      exact ⟨rfl, (HN.out.alloc _).old⟩
end Crc
end Go.Proofs.Ytikpmiphjaciiaa
