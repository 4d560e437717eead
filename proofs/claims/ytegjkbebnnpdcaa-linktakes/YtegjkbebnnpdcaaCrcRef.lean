/- Contract of the document's own More. -/
import Derived.Test.YtegjkbebnnpdcaaCrcMore
namespace Go.Proofs.Ytegjkbebnnpdcaa
namespace Crc
open Go.RowKit

theorem val_u32 {a b : Int} (h : a = b) : Value.int .u32 a = .int .u32 b := by rw [h]
theorem up32 {t x : Nat} (ht : t < 65536) (hx : x < 256) : bits .xor .u32 (t : Int) ((x : Int) * 256) = ((it 0 (t ^^^ (x * 256)) : Nat) : Int) := by
  have := Cb.xor_u32 (a := t) (b := x * 256) (by omega) (by omega)
  rw [show ((x * 256 : Nat) : Int) = (x : Int) * 256 from by omega] at this
  rw [this]; rfl
theorem up_lt {t x : Nat} (ht : t < 65536) (hx : x < 256) : t ^^^ (x * 256) < 65536 := Nat.xor_lt_two_pow (n := 16) ht (by omega)
theorem byt_it (t x : Nat) : Cr.byt t x = it 8 (t ^^^ (x * 256)) := (it8 _).symm
theorem hit32 {t : Nat} (hl : t < 65536) (c : 65536 ≤ 2 * t) : bits .xor .u32 ((t : Int) * 2 - 65536) 4129 = ((Cr.stp t : Nat) : Int) := by
  rw [show (t : Int) * 2 - 65536 = ((2 * t - 65536 : Nat) : Int) from by omega, show (4129 : Int) = ((4129 : Nat) : Int) from rfl, Cb.xor_u32 (by omega) (by omega)]
  unfold Cr.stp
  rw [if_pos c]

set_option maxRecDepth 100000 in
set_option maxHeartbeats 1600000 in
theorem rmore_c (b s : Nat) (A : Option Addr) (l : List Nat) (c : Nat) (w : World) (hs : s < 65536) (hb : Cr.Bytes l) (hl : l.length ≤ 9223372036854775807) (hA : BytesAt w b A l) :
    Calls Try.prog 21 #[.int .u16 s, .slice A l.length c] w fun e w' => e = .returned (.int .u16 (Cr.more s l)) ∧ w' = w := by
  have HA := Lib.hid hA
  have HB := Lib.hid hb
  clear hA hb
  go_enter Try.func21, Try.ntmps21
  go_wp2_with fail
  go_loop [5, 6, 7] (fun t i _ => ∃ k : Nat, k ≤ l.length ∧ i = .int .i64 k ∧ t = .int .u32 (Cr.more s (l.take k))) (fun _ i _ => l.length - (intOf i).toNat)
  case atStart => exact ⟨0, Nat.zero_le _, rfl, rfl⟩
  case round =>
    obtain ⟨k, hk, rfl, rfl⟩ := hrel
    by_cases hlt : k < l.length
    · obtain ⟨a, o, rfl, hne, hc⟩ := HA.out k hlt
      have hx := getD_byte HB.out hlt
      have ht := Cr.more_lt hs (take_bytes HB.out k)
      have E := Lib.hid (more_take (s := s) hlt)
      generalize l.getD k 0 = x at *
      generalize Cr.more s (l.take k) = t at *
      have E0 := Lib.hid (up32 ht hx)
      have hu := up_lt ht hx
      generalize hh : t ^^^ (x * 256) = u at *
      have HU := Lib.hid hh
      clear hh
      go_wp2_with fail
      go_loop [5, 7] (fun t i => ∃ j : Nat, j ≤ 8 ∧ i = .int .i64 j ∧ t = .int .u32 (it j u)) (fun _ i => 8 - (intOf i).toNat)
      case atStart => exact ⟨0, Nat.zero_le _, rfl, val_u32 E0.out⟩
      case round =>
        obtain ⟨j, hj, rfl, rfl⟩ := hrel
        have hv := it_lt hu j
        have HS : Hid (it (j + 1) u = Cr.stp (it j u)) := rfl
        generalize hh : it j u = v at *
        have HT := Lib.hid hh
        clear hh
        by_cases cc : 65536 ≤ 2 * v
        · have CC := Lib.hid cc
          have c2 : (65536 : Int) ≤ (v : Int) * 2 := by omega
          have c3 : decide ((65536 : Int) ≤ (v : Int) * 2) = true := by simp; omega
          clear cc
          go_wp2_with fail
          case roundEnd =>
            go_round
            case rel => exact ⟨j + 1, by omega, by go_num, val_u32 (by rw [HS.out]; exact hit32 hv CC.out)⟩
            case measure => simp [intOf]; omega
          case roundEnd =>
            have hj8 : j = 8 := by omega
            go_round
            case rel => exact ⟨k + 1, by omega, by go_num, val_u32 (by rw [E.out, byt_it, HU.out, ← hj8, HT.out])⟩
            case measure => simp [intOf]; omega
        · have CC := Lib.hid cc
          have c3 : decide ((65536 : Int) ≤ (v : Int) * 2) = false := by simp; omega
          clear cc
          go_wp2_with fail
          case roundEnd =>
            go_round
            case rel => exact ⟨j + 1, by omega, by go_num, val_u32 (by rw [HS.out]; exact miss CC.out)⟩
            case measure => simp [intOf]; omega
          case roundEnd =>
            have hj8 : j = 8 := by omega
            go_round
            case rel => exact ⟨k + 1, by omega, by go_num, val_u32 (by rw [E.out, byt_it, HU.out, ← hj8, HT.out])⟩
            case measure => simp [intOf]; omega
    · obtain rfl : k = l.length := by omega
      rw [List.take_length]
      have ht := Cr.more_lt hs HB.out
      go_wp2_with fail
      go_ret
      exact ⟨rfl, rfl⟩
end Crc
end Go.Proofs.Ytegjkbebnnpdcaa
