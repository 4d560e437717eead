/- The walk of NvmCuts. -/
import Derived.Test.YtgnjmnpfkfchfaaNvmAwake
namespace Go.Proofs.Ytgnjmnpfkfchfaa
namespace Nw
open Go.RowKit Nv

theorem cut_few (l : List Int) (n c k : Nat) (hc : c < 256) : Few (cut l n c k) := ⟨by simp only [cut]; omega, by simp only [cut]; omega, by simp only [cut]; omega⟩
theorem rerr_in {m : M} {i : Nat} (hg : m.gone = false) (hi : i < m.ws.length) : rerr m i = 0 := by
  have : inB m i = true := by simp [inB, hi]
  simp [rerr, hg, this]
theorem rval_in {m : M} {i : Nat} (hg : m.gone = false) (hi : i < m.ws.length) : rval m i = m.ws.getD i 0 := by
  have : inB m i = true := by simp [inB, hi]
  simp [rval, hg, this]

set_option maxRecDepth 100000 in
set_option maxHeartbeats 4000000 in
theorem NvmCuts_walk (A : Option Addr) (l : List Int) (cp : Nat) (hl : l.length ≤ 9223372036854775807) (c : Nat) (hc : c < 256) (w : World) (hA : Lk.IntsAt w .u32 A l) :
    Calls Try.prog 5 #[.slice A l.length cp, .int .u8 c] w fun e w' => e = .returned (.bool true) ∧ Below w.heap.size w w' := by
  have HA := Lib.hid hA
  have hc8 : (c : Int) < 256 := by omega
  clear hA
  go_enter Try.func5, Try.ntmps5
  go_wp2_with fail
  refine (awake_c w).mono ?_
  rintro e w1 ⟨rfl, h⟩
  have HB := Lib.hid h
  clear h
  go_wp2_with fail
  refine (new_v 60 rfl (by decide) HB.out).mono ?_
  rintro e w2 ⟨b, d, rfl, h⟩
  have HO : Hid (Own w w2 b d (new 60)) := h
  clear h HB
  go_wp2_with fail
  refine (arm_v (m' := cut l 60 c 0) (by rw [cut_zero]) HO.out).mono ?_
  rintro e w3 ⟨rfl, h⟩
  replace HO := Lib.hid h
  clear h
  go_wp2_with fail
  rw [show min (l.length : Int) 60 = ((min l.length 60 : Nat) : Int) from by omega]
  obtain ⟨N, hN⟩ : ∃ N, min l.length 60 = N := ⟨_, rfl⟩
  rw [hN]
  have hN1 : N ≤ l.length := by omega
  have hN2 : N ≤ 60 := by omega
  clear hN
  go_loopw [9] (fun i wr => ∃ k : Nat, k ≤ N ∧ i = .int .i64 k ∧ Own w wr b d (cut l 60 c k)) (fun i _ => N - (intOf i).toNat)
  case atStart => exact ⟨0, Nat.zero_le _, rfl, HO.out⟩
  case round =>
    clear HO
    obtain ⟨k, hk, rfl, ho⟩ := hrel
    have HO := Lib.hid ho
    clear ho
    by_cases hlt : k < N
    · have hkl : k < l.length := by omega
      obtain ⟨ab, ao, rfl, hcell⟩ := HA.out.below HO.out.old k hkl
      have HC := Lib.hid (write_v (cut_err l 60 c k hkl (by omega)) (cut_put l 60 c k hkl (by omega)) HO.out (cut_few l 60 c k hc))
      obtain ⟨v, hv⟩ : ∃ v, l.getD k 0 = v := ⟨_, rfl⟩
      rw [hv] at hcell HC
      clear hv
      by_cases hkc : k < c
      · rw [if_pos hkc] at HC
        go_wp2_with fail
        refine HC.out.mono ?_
        rintro e w4 ⟨rfl, h⟩
        replace HO := Lib.hid h
        clear h HC
        go_wp2_with fail
        go_roundw
        case rel => exact ⟨k + 1, by omega, by go_num, HO.out⟩
        case measure => simp [intOf]; omega
      · rw [if_neg hkc] at HC
        have hkc2 : c ≤ k := by omega
        go_wp2_with fail
        refine HC.out.mono ?_
        rintro e w4 ⟨rfl, h⟩
        replace HO := Lib.hid h
        clear h HC
        go_wp2_with fail
        go_roundw
        case rel => exact ⟨k + 1, by omega, by go_num, HO.out⟩
        case measure => simp [intOf]; omega
    · obtain rfl : k = N := by omega
      obtain ⟨M', hM⟩ : ∃ m', up (cut l 60 c k) = m' := ⟨_, rfl⟩
      have g1 : Hid (M'.gone = false) := by rw [← hM]; exact rfl
      have g2 : Hid (M'.ws.length = 60) := by rw [← hM]; exact cut_len l 60 c k (by omega) (by omega)
      have g3 : Hid (∀ i, M'.ws.getD i 0 = if i < k ∧ i < c then l.getD i 0 else 0) := by rw [← hM]; exact fun i => cut_word l 60 c k i (by omega)
      have g4 : Hid (M'.many = min (k : Int) c) := by rw [← hM]; show ((min k c : Nat) : Int) = _; omega
      have HU := Lib.hid (up_v hM HO.out)
      clear hM HO
      go_wp2_with fail
      refine HU.out.mono ?_
      rintro e w4 ⟨rfl, h⟩
      have HO := Lib.hid h
      clear h HU
      go_wp2_with fail
      go_loopw [11] (fun i wr => ∃ j : Nat, j ≤ 60 ∧ i = .int .i64 j ∧ Own w wr b d M') (fun i _ => 60 - (intOf i).toNat)
      case atStart => exact ⟨0, Nat.zero_le _, rfl, HO.out⟩
      case round =>
        clear HO
        obtain ⟨j, hj, rfl, ho⟩ := hrel
        have HO := Lib.hid ho
        clear ho
        by_cases hlt2 : j < 60
        · have HR := Lib.hid (read_v (rval_in g1.out (by rw [g2.out]; exact hlt2)) (rerr_in g1.out (by rw [g2.out]; exact hlt2)) HO.out)
          rw [g3.out j] at HR
          by_cases hjk : j < k
          · by_cases hjc : j < c
            · obtain ⟨ab, ao, rfl, hcell⟩ := HA.out.below HO.out.old j (by omega)
              have hjl : j < l.length := by omega
              rw [if_pos ⟨hjk, hjc⟩] at HR
              obtain ⟨v, hv⟩ : ∃ v, l.getD j 0 = v := ⟨_, rfl⟩
              rw [hv] at hcell HR
              clear hv
              go_wp2_with fail
              refine HR.out.mono ?_
              rintro e w5 ⟨rfl, h⟩
              replace HO := Lib.hid h
              clear h HR
              go_wp2_with fail
              go_roundw
              case rel => exact ⟨j + 1, by omega, by go_num, HO.out⟩
              case measure => simp [intOf]; omega
            · rw [if_neg (by omega)] at HR
              go_wp2_with fail
              refine HR.out.mono ?_
              rintro e w5 ⟨rfl, h⟩
              replace HO := Lib.hid h
              clear h HR
              go_wp2_with fail
              go_roundw
              case rel => exact ⟨j + 1, by omega, by go_num, HO.out⟩
              case measure => simp [intOf]; omega
          · rw [if_neg (by omega)] at HR
            go_wp2_with fail
            refine HR.out.mono ?_
            rintro e w5 ⟨rfl, h⟩
            replace HO := Lib.hid h
            clear h HR
            go_wp2_with fail
            go_roundw
            case rel => exact ⟨j + 1, by omega, by go_num, HO.out⟩
            case measure => simp [intOf]; omega
        · obtain rfl : j = 60 := by omega
          have HM := Lib.hid (many_v g4.out HO.out)
          go_wp2_with fail
          refine HM.out.mono ?_
          rintro e w5 ⟨rfl, rfl⟩
          clear HM
          go_wp2_with fail
          go_ret
          exact ⟨rfl, HO.out.old⟩
end Nw
end Go.Proofs.Ytgnjmnpfkfchfaa
