/- Contracts of a Sum's calls: New, More, Of, Many. -/
import Derived.Test.YtegjkbebnnpdcaaCrcOnce
namespace Go.Proofs.Ytegjkbebnnpdcaa
namespace Crc
open Go.RowKit

/-- Bytes that lie in a slice, off block b. -/
def BytesAt (w : World) (b : Nat) (A : Option Addr) (l : List Nat) : Prop :=
  ∀ i, i < l.length → ∃ c o, A = some ⟨c, o, none⟩ ∧ c ≠ b ∧ w.cell? ⟨c, o + i, none⟩ = some (.int .u8 (l.getD i 0))
theorem BytesAt.off {w w' : World} {b : Nat} {A : Option Addr} {l : List Nat} (h : BytesAt w b A l) (ho : Off b w w') : BytesAt w' b A l := by
  intro i hi
  obtain ⟨c, o, e, hc, hh⟩ := h i hi
  exact ⟨c, o, e, hc, (ho.cell hc).trans hh⟩

theorem getD_byte {l : List Nat} (h : Cr.Bytes l) {i : Nat} (hi : i < l.length) : l.getD i 0 < 256 := by
  have : l.getD i 0 = l[i] := by simp [hi]
  rw [this]
  exact h _ (List.getElem_mem _)

theorem ix_xor {t x : Nat} (ht : t < 65536) (hx : x < 256) : bits .xor .u8 ((t : Int) / 256) (x : Int) = ((t / 256 ^^^ x : Nat) : Int) := by
  rw [show (t : Int) / 256 = ((t / 256 : Nat) : Int) from by omega]
  exact Cb.xor_u8 (by omega) hx
theorem ix_lt {t x : Nat} (ht : t < 65536) (hx : x < 256) : t / 256 ^^^ x < 256 := Nat.xor_lt_two_pow (n := 8) (by omega) hx
theorem byte_step {t x : Nat} (ht : t < 65536) (hx : x < 256) : bits .xor .u16 (IntKind.u16.wrap ((t : Int) * 256)) ((Cr.byt 0 (t / 256 ^^^ x) : Nat) : Int) = ((Cr.byt t x : Nat) : Int) := by
  have e := Cb.shl8_u16 t
  rw [show ((t : Int) * 2 ^ 8) = (t : Int) * 256 from by omega] at e
  rw [e, Cb.xor_u16 (Nat.mod_lt _ (by decide)) (Cr.byt_lt (by decide) (ix_lt ht hx)), ← Cr.table ht hx]
theorem more_take {s : Nat} {l : List Nat} {k : Nat} (hk : k < l.length) : Cr.more s (l.take (k + 1)) = Cr.byt (Cr.more s (l.take k)) (l.getD k 0) := by
  have e : l.take (k + 1) = l.take k ++ [l.getD k 0] := by
    rw [List.take_add_one]
    simp [hk]
  rw [e, Cr.more_append, Cr.more_cons, Cr.more_nil]
theorem take_bytes {l : List Nat} (h : Cr.Bytes l) (k : Nat) : Cr.Bytes (l.take k) := fun v hv => h v (List.mem_of_mem_take hv)

set_option maxRecDepth 100000 in
set_option maxHeartbeats 1600000 in
theorem more_c (b n s : Nat) (A : Option Addr) (l : List Nat) (c : Nat) (w : World) (hs : s < 65536) (hb : Cr.Bytes l) (hl : l.length ≤ 9223372036854775807) (h : Is w b n) (hn : n + 1 < 4611686018427387904) (hA : BytesAt w b A l) :
    Calls Try.prog 30 #[.pointer (some ⟨b, 0, none⟩), .int .u16 s, .slice A l.length c] w fun e w' => e = .returned (.int .u16 (Cr.more s l)) ∧ Is w' b (n + 1) ∧ Off b w w' := by
  obtain ⟨d, T, hr, hd⟩ := h.row
  have HR := Lib.hid hr
  have HD := Lib.hid hd
  have HA := Lib.hid hA
  have HB := Lib.hid hb
  have hmf : ∀ (fn : Fn) (first cap : Array Value) (w : World), (Instr.makeFunc fn first cap).run Try.prog w = .ok (.func fn first cap) w := fun _ _ _ _ => rfl
  clear h hr hd hA hb
  go_enter Try.func30, Try.ntmps30
  go_wp2_with fail
  refine (Sy.iadd b 259 n _ (by omega) (by omega) HR.out.cn (HR.out.frozen 259)).mono ?_
  rintro e w1 ⟨rfl, hw⟩
  replace HR : Hid (Row w1 b d 0 T (n + 1)) := Lib.hid (hw ▸ HR.out.sn (n + 1))
  have HO : Hid (Off b w w1) := Lib.hid (hw ▸ (Off.refl b w).set 259 _)
  clear hw
  go_wp2_with fail
  refine (do_c b d T (n + 1) _ HR.out HD.out).mono ?_
  rintro e w2 ⟨rfl, hr, ho⟩
  replace HR := Lib.hid hr
  replace HO := Lib.hid (HO.out.trans ho)
  clear hr ho HD
  go_wp2_with fail
  go_loop [1, 8, 23] (fun t _ i => ∃ k : Nat, k ≤ l.length ∧ i = .int .i64 k ∧ t = .int .u16 (Cr.more s (l.take k))) (fun _ _ i => l.length - (intOf i).toNat)
  case atStart => exact ⟨0, Nat.zero_le _, rfl, rfl⟩
  case round =>
    obtain ⟨k, hk, rfl, rfl⟩ := hrel
    by_cases hlt : k < l.length
    · obtain ⟨a, o, rfl, hne, hc⟩ := HA.out.off HO.out k hlt
      have hx := getD_byte HB.out hlt
      have ht := Cr.more_lt hs (take_bytes HB.out k)
      have E := Lib.hid (more_take (s := s) hlt)
      generalize l.getD k 0 = x at *
      generalize Cr.more s (l.take k) = t at *
      have e1 := ix_xor ht hx
      have e2 := HR.out.ct (ix_lt ht hx)
      have e3 := ix_lt ht hx
      have E4 := Lib.hid (byte_step ht hx)
      generalize t / 256 ^^^ x = y at *
      generalize Cr.byt 0 y = z at *
      go_wp2_with fail
      go_round
      case rel => exact ⟨k + 1, by omega, by go_num, val_u16 (by rw [E.out]; exact E4.out)⟩
      case measure => simp [intOf]; omega
    · obtain rfl : k = l.length := by omega
      rw [List.take_length]
      go_wp2_with fail
      go_ret
      exact ⟨rfl, ⟨⟨1, _, HR.out, .inr ⟨rfl, fun _ _ => rfl⟩⟩, hn⟩, HO.out⟩

theorem of_c (b n : Nat) (A : Option Addr) (l : List Nat) (c : Nat) (w : World) (hb : Cr.Bytes l) (hl : l.length ≤ 9223372036854775807) (h : Is w b n) (hn : n + 1 < 4611686018427387904) (hA : BytesAt w b A l) :
    Calls Try.prog 27 #[.pointer (some ⟨b, 0, none⟩), .slice A l.length c] w fun e w' => e = .returned (.int .u16 (Cr.more 65535 l)) ∧ Is w' b (n + 1) ∧ Off b w w' := by
  have HC := Lib.hid (more_c b n 65535 A l c w (by decide) hb hl h hn hA)
  clear h hA hb
  go_enter Try.func27, Try.ntmps27
  go_wp2_with fail
  refine HC.out.mono ?_
  rintro e w1 ⟨rfl, h1, h2⟩
  have HZ := Lib.hid (And.intro h1 h2)
  clear h1 h2
  go_wp2_with fail
  go_ret
  exact ⟨rfl, HZ.out⟩

def Z : Array Value := #[.int .u32 0, .int .i32 0, .int .u32 0] ++ Array.replicate 256 (.int .u16 0) ++ #[.int .i64 0]
theorem info_sum : (Try.prog.info? 72).map (·.zero) = some (some (.agg Z)) := by kernel_rfl
theorem zero_sum (w : World) : (zeroValue 72).run Try.prog w = .ok (.agg Z) w := by
  obtain ⟨i, hi, hz⟩ := Option.map_eq_some_iff.1 info_sum
  simp [zeroValue, typeInfo, hi, hz]
theorem Z_size : Z.size = 260 := by unfold Z; simp
theorem Z_at (i : Nat) (hi : i < 260) : Z[i]? = some (sumf 0 0 (fun _ => 0) 0 i) := by
  unfold Z sumf
  by_cases c : i < 259
  · rw [Array.getElem?_append_left (by simpa using c)]
    by_cases z : i < 3
    · rw [Array.getElem?_append_left (by simpa using z)]
      have : i = 0 ∨ i = 1 ∨ i = 2 := by omega
      rcases this with rfl | rfl | rfl <;> rfl
    · rw [Array.getElem?_append_right (by simpa using Nat.le_of_not_lt z), if_neg (by omega), if_neg (by omega), if_neg (by omega), if_pos c, Array.getElem?_replicate, if_pos (by simp; omega)]
      rfl
  · rw [Array.getElem?_append_right (by simp; omega), if_neg (by omega), if_neg (by omega), if_neg (by omega), if_neg c]
    simp [show i - 259 = 0 from by omega]
theorem new_is (w : World) : Is (w.alloc (.cells Z 72)) w.heap.size 0 := by
  have h := World.rowIs_alloc w Z 72 (sumf 0 0 (fun _ => 0) 0) fun i hi => Z_at i (by rw [Z_size] at hi; exact hi)
  rw [Z_size] at h
  exact ⟨⟨0, fun _ => 0, h, .inl rfl⟩, by decide⟩
theorem new_c (w : World) : Calls Try.prog 19 #[] w fun e w' => e = .returned (.pointer (some ⟨w.heap.size, 0, none⟩)) ∧ w' = w.alloc (.cells Z 72) := by
  have hz := zero_sum w
  go_enter Try.func19, Try.ntmps19
  go_wp2_with fail
  go_ret
  exact ⟨rfl, rfl⟩
end Crc
end Go.Proofs.Ytegjkbebnnpdcaa
