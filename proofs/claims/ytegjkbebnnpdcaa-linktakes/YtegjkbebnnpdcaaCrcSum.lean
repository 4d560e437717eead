/- A Sum in memory; contracts of crc's shifted and fill. -/
import Derived.Test.YtegjkbebnnpdcaaCrcSync
import Derived.Test.YtegjkbebnnpdcaaCrcMath
import Derived.Test.YtegjkbebnnpdcaaCrcBits
import Derived.Deep.OwnRows
import Derived.StillTailTactics
import Derived.LoopTactic
namespace Go.Proofs.Ytegjkbebnnpdcaa
namespace Crc
open Go.RowKit

theorem ret_u16 {a b : Int} (h : a = b) : Ending.returned (.int .u16 a) = .returned (.int .u16 b) := by rw [h]

/-- k steps of a bit. -/
def it : Nat → Nat → Nat
  | 0, s => s
  | k + 1, s => Cr.stp (it k s)
theorem it_lt {s : Nat} (h : s < 65536) : ∀ k, it k s < 65536
  | 0 => h
  | k + 1 => Cr.stp_lt (it_lt h k)
theorem it8 (s : Nat) : it 8 s = Cr.st8 s := by unfold Cr.st8; rfl

theorem and15 (s : Nat) : s &&& 2 ^ 15 = if s.testBit 15 then 2 ^ 15 else 0 := by
  apply Nat.eq_of_testBit_eq
  intro i
  rw [Nat.testBit_and, Nat.testBit_two_pow]
  by_cases h : 15 = i
  · subst h
    cases s.testBit 15
    · simp
    · rw [if_pos rfl, Nat.testBit_two_pow]; simp
  · cases s.testBit 15
    · simp [h]
    · rw [if_pos rfl, Nat.testBit_two_pow]; simp [h]
theorem and_hi {s : Nat} (hs : s < 65536) : bits .and .u16 (s : Int) 32768 = if 65536 ≤ 2 * s then 32768 else 0 := by
  have h1 : (BitVec.ofInt 16 (s : Int)).toNat = s := by rw [BitVec.ofInt_natCast, BitVec.toNat_ofNat]; exact Nat.mod_eq_of_lt (by omega)
  show IntKind.u16.wrap ((BitVec.ofInt 16 (s : Int) &&& BitVec.ofInt 16 32768).toNat : Int) = _
  rw [BitVec.toNat_and, h1, show (BitVec.ofInt 16 32768).toNat = 2 ^ 15 from by decide, and15, Cb.wrap_u16]
  have : s.testBit 15 = decide (65536 ≤ 2 * s) := by
    rw [Nat.testBit_eq_decide_div_mod_eq]
    by_cases c : 65536 ≤ 2 * s <;> simp [c] <;> omega
  rw [this]
  by_cases c : 65536 ≤ 2 * s <;> simp [c]
theorem xor_poly {s : Nat} (hs : s < 65536) : bits .xor .u16 (s : Int) 4129 = ((s ^^^ 4129 : Nat) : Int) := Cb.xor_u16 hs (by decide)

theorem hit {t : Nat} (hl : t < 65536) (c : 65536 ≤ 2 * t) : bits .xor .u16 (IntKind.u16.wrap ((t : Int) * 2)) 4129 = ((Cr.stp t : Nat) : Int) := by
  have e := Cb.shl1_u16 t
  rw [show ((t : Int) * 2 ^ 1) = (t : Int) * 2 from by omega] at e
  rw [e, xor_poly (Nat.mod_lt _ (by decide))]
  unfold Cr.stp
  rw [if_pos c, show 2 * t % 65536 = 2 * t - 65536 from by omega]
theorem miss {t : Nat} (c : ¬ 65536 ≤ 2 * t) : (t : Int) * 2 = ((Cr.stp t : Nat) : Int) := by
  unfold Cr.stp
  rw [if_neg c]
  omega
theorem val_u16 {a b : Int} (h : a = b) : Value.int .u16 a = .int .u16 b := by rw [h]

theorem shifted_c (s : Nat) (hs : s < 65536) (w : World) :
    Calls Try.prog 39 #[.int .u16 s] w fun e w' => e = .returned (.int .u16 (Cr.st8 s)) ∧ w' = w := by
  rw [← it8]
  go_enter Try.func39, Try.ntmps39
  go_wp2
  go_loop [0, 3, 4] (fun t _ i => ∃ k : Nat, k ≤ 8 ∧ i = .int .i64 k ∧ t = .int .u16 (it k s)) (fun _ _ i => 8 - (intOf i).toNat)
  case atStart => exact ⟨0, Nat.zero_le _, rfl, rfl⟩
  case round =>
    obtain ⟨k, hk, rfl, rfl⟩ := hrel
    have hl := it_lt hs k
    have HS : Hid (it (k + 1) s = Cr.stp (it k s)) := rfl
    generalize ht : it k s = t at *
    have HT : Hid (it k s = t) := ht
    clear ht
    have ha := and_hi hl
    by_cases c : 65536 ≤ 2 * t
    · rw [if_pos c] at ha
      go_wp2
      case roundEnd =>
        go_round
        case rel => exact ⟨k + 1, by omega, by go_num, val_u16 (by rw [HS.out]; exact hit hl c)⟩
        case measure => simp [intOf]; omega
      · obtain rfl : k = 8 := by omega
        go_ret
        exact ⟨ret_u16 (by rw [HT.out]), rfl⟩
    · rw [if_neg c] at ha
      go_wp2
      case roundEnd =>
        go_round
        case rel => exact ⟨k + 1, by omega, by go_num, val_u16 (by rw [HS.out]; exact miss c)⟩
        case measure => simp [intOf]; omega
      · obtain rfl : k = 8 := by omega
        go_ret
        exact ⟨ret_u16 (by rw [HT.out]), rfl⟩

/-! ### a Sum in memory: the once's word, the lock, its queue, the table, the count -/

def sumf (d st : Int) (T : Nat → Nat) (n : Nat) (i : Nat) : Value :=
  if i = 0 then .int .u32 d else if i = 1 then .int .i32 st else if i = 2 then .int .u32 0 else if i < 259 then .int .u16 (T (i - 3)) else .int .i64 n
def Row (w : World) (b : Nat) (d st : Int) (T : Nat → Nat) (n : Nat) : Prop := w.rowIs b 72 260 (sumf d st T n)

namespace Row
variable {w : World} {b : Nat} {d st : Int} {T : Nat → Nat} {n : Nat}
theorem lt (h : Row w b d st T n) : b < w.heap.size := World.rowIs.lt h
theorem frozen (h : Row w b d st T n) (i : Nat) : w.frozen? ⟨b, i, none⟩ = false := World.rowIs.frozen h i
theorem c0 (h : Row w b d st T n) : w.cell? ⟨b, 0, none⟩ = some (.int .u32 d) := World.rowIs.cell h (by decide)
theorem c1 (h : Row w b d st T n) : w.cell? ⟨b, 1, none⟩ = some (.int .i32 st) := World.rowIs.cell h (by decide)
theorem ct (h : Row w b d st T n) {i : Nat} (hi : i < 256) : w.cell? ⟨b, 3 + i, none⟩ = some (.int .u16 (T i)) := by
  have := World.rowIs.cell h (i := 3 + i) (by omega)
  rw [this]
  unfold sumf
  rw [if_neg (by omega), if_neg (by omega), if_neg (by omega), if_pos (by omega), show 3 + i - 3 = i from by omega]
theorem cn (h : Row w b d st T n) : w.cell? ⟨b, 259, none⟩ = some (.int .i64 n) := World.rowIs.cell h (by decide)
theorem s0 (h : Row w b d st T n) (d' : Int) : Row (w.setCell ⟨b, 0, none⟩ (.int .u32 d')) b d' st T n := (World.rowIs.set h 0 _).congr fun i _ => by
  by_cases e : i = 0
  · subst e; rfl
  · rw [if_neg e]; unfold sumf; rw [if_neg e, if_neg e]
theorem s1 (h : Row w b d st T n) (st' : Int) : Row (w.setCell ⟨b, 1, none⟩ (.int .i32 st')) b d st' T n := (World.rowIs.set h 1 _).congr fun i _ => by
  by_cases e : i = 1
  · subst e; rfl
  · rw [if_neg e]; unfold sumf; rw [if_neg e, if_neg e]
theorem sn (h : Row w b d st T n) (n' : Nat) : Row (w.setCell ⟨b, 259, none⟩ (.int .i64 n')) b d st T n' := (World.rowIs.set h 259 _).congr fun i hi => by
  by_cases e : i = 259
  · subst e; rfl
  · rw [if_neg e]; unfold sumf; rw [if_pos (show i < 259 by omega), if_pos (show i < 259 by omega)]
theorem stab (h : Row w b d st T n) {k : Nat} (hk : k < 256) (v : Nat) : Row (w.setCell ⟨b, 3 + k, none⟩ (.int .u16 v)) b d st (fun j => if j = k then v else T j) n := (World.rowIs.set h (3 + k) _).congr fun i hi => by
  unfold sumf
  by_cases e : i = 3 + k
  · subst e
    rw [if_pos rfl, if_neg (by omega), if_neg (by omega), if_neg (by omega), if_pos (by omega)]
    simp only []
    rw [if_pos (by omega)]
  · rw [if_neg e]
    by_cases z : i < 3
    · by_cases a : i = 0
      · rw [if_pos a, if_pos a]
      · by_cases a1 : i = 1
        · rw [if_neg a, if_neg a, if_pos a1, if_pos a1]
        · rw [if_neg a, if_neg a, if_neg a1, if_neg a1, if_pos (by omega), if_pos (by omega)]
    · rw [if_neg (show ¬ i = 0 by omega), if_neg (show ¬ i = 0 by omega), if_neg (show ¬ i = 1 by omega), if_neg (show ¬ i = 1 by omega), if_neg (show ¬ i = 2 by omega), if_neg (show ¬ i = 2 by omega)]
      by_cases c : i < 259
      · rw [if_pos c, if_pos c]
        simp only []
        rw [if_neg (show ¬ i - 3 = k by omega)]
      · rw [if_neg c, if_neg c]
theorem drew (h : Row w b d st T n) : Row w.drew b d st T n := h
theorem tab (h : Row w b d st T n) {T' : Nat → Nat} (e : ∀ i, i < 256 → T i = T' i) : Row w b d st T' n := World.rowIs.congr h fun i hi => by
  unfold sumf
  by_cases z : i < 3
  · by_cases a : i = 0
    · rw [if_pos a, if_pos a]
    · by_cases a1 : i = 1
      · rw [if_neg a, if_neg a, if_pos a1, if_pos a1]
      · rw [if_neg a, if_neg a, if_neg a1, if_neg a1, if_pos (by omega), if_pos (by omega)]
  · by_cases c : i < 259
    · rw [if_pos c, if_pos c, e _ (by omega)]
    · rw [if_neg c, if_neg c]
end Row

/-- All but block b is as it was. -/
structure Off (b : Nat) (w w' : World) : Prop where
  os : w'.os = w.os
  tape : w'.tape = w.tape
  output : w'.output = w.output
  size : w'.heap.size = w.heap.size
  block : ∀ k, k ≠ b → w'.heap[k]? = w.heap[k]?
namespace Off
variable {b : Nat} {w w' w'' : World}
theorem refl (b : Nat) (w : World) : Off b w w := ⟨rfl, rfl, rfl, rfl, fun _ _ => rfl⟩
theorem trans (h : Off b w w') (k : Off b w' w'') : Off b w w'' := ⟨k.os.trans h.os, k.tape.trans h.tape, k.output.trans h.output, k.size.trans h.size, fun i hi => (k.block i hi).trans (h.block i hi)⟩
theorem set (h : Off b w w') (o : Nat) (v : Value) : Off b w (w'.setCell ⟨b, o, none⟩ v) := h.trans ⟨rfl, rfl, rfl, by simp [World.setCell], fun k hk => Below.heap_setCell _ _ _ _ hk⟩
theorem drew (h : Off b w w') : Off b w w'.drew := ⟨h.os, h.tape, h.output, h.size, h.block⟩
theorem below (h : Off b w w') {m : Nat} (hm : m ≤ b) : Below m w w' := ⟨h.os, h.tape, h.output, Nat.le_of_eq h.size.symm, fun k hk => h.block k (by omega)⟩
theorem cell (h : Off b w w') {p : Addr} (hp : p.block ≠ b) : w'.cell? p = w.cell? p := World.cell?_of_block (w := w) (h.block p.block hp)
end Off

/-- The first k of the table have been made. -/
def upd (T : Nat → Nat) (k j : Nat) : Nat := if j < k then Cr.byt 0 j else T j
theorem upd_step (T : Nat → Nat) (k j : Nat) : (if j = k then Cr.byt 0 k else upd T k j) = upd T (k + 1) j := by
  unfold upd
  by_cases e : j = k
  · rw [if_pos e, if_pos (by omega), e]
  · rw [if_neg e]
    by_cases c : j < k
    · rw [if_pos c, if_pos (by omega)]
    · rw [if_neg c, if_neg (by omega)]

theorem shl_c (k : Nat) (hk : k < 256) (w : World) : Calls Try.prog 39 #[.int .u16 (IntKind.u16.wrap (IntKind.u16.wrap (k : Int) * 256))] w fun e w' => e = .returned (.int .u16 (Cr.byt 0 k)) ∧ w' = w := by
  have := shifted_c (k * 256) (by omega) w
  rw [show Cr.st8 (k * 256) = Cr.byt 0 k from by unfold Cr.byt; rw [Nat.zero_xor]] at this
  rw [show IntKind.u16.wrap (IntKind.u16.wrap (k : Int) * 256) = ((k * 256 : Nat) : Int) from by rw [Cb.wrap_u16, Cb.wrap_u16]; omega]
  exact this

set_option maxRecDepth 100000 in
set_option maxHeartbeats 1600000 in
theorem fill_c (b : Nat) (d st : Int) (T : Nat → Nat) (n : Nat) (w : World) (h : Row w b d st T n) :
    Calls Try.prog 35 #[.pointer (some ⟨b, 0, none⟩)] w fun e w' => e = .returned (.tuple #[]) ∧ Row w' b d st (Cr.byt 0) n ∧ Off b w w' := by
  have H0 := Lib.hid h
  clear h
  go_enter Try.func35, Try.ntmps35
  go_wp2_with fail
  go_loopw [2, 3] (fun _ i wr => ∃ k : Nat, k ≤ 256 ∧ i = .int .i64 k ∧ Row wr b d st (upd T k) n ∧ Off b w wr) (fun _ i _ => 256 - (intOf i).toNat)
  case atStart => exact ⟨0, Nat.zero_le _, rfl, H0.out, Off.refl _ _⟩
  case round =>
    obtain ⟨k, hk, rfl, hr, ho⟩ := hrel
    have HR := Lib.hid hr
    have HO := Lib.hid ho
    clear hr ho H0
    by_cases hlt : k < 256
    · have d1 : wr.drew.cell? ⟨b, 3 + k, none⟩ = _ := HR.out.drew.ct hlt
      have d2 : wr.drew.frozen? ⟨b, 3 + k, none⟩ = _ := HR.out.drew.frozen (3 + k)
      have HC := Lib.hid (shl_c k hlt)
      go_wp2_with fail
      refine wp_region_still_tail 9 (by kernel_rfl) (by kernel_rfl) ?_
      simp only [List.take_succ_cons, List.take_zero, List.drop_succ_cons, List.drop_zero]
      iterate 5 still_step
      still_call (HC.out _)
      iterate 3 still_step
      refine wpStill_nil ?_
      change wpList _ _ _ _ _ wr.drew
      replace HR := Lib.hid HR.out.drew
      replace HO := Lib.hid HO.out.drew
      clear HC
      generalize wr.drew = W at *
      go_wp2_with fail
      go_roundw
      case rel => exact ⟨k + 1, by omega, by go_num, (HR.out.stab hlt _).tab (fun j _ => upd_step T k j), HO.out.set _ _⟩
      case measure => simp [intOf]; omega
    · obtain rfl : k = 256 := by omega
      go_wp2_with fail
      go_end0
      exact ⟨rfl, HR.out.tab (fun i hi => by unfold upd; rw [if_pos hi]), HO.out⟩
end Crc
end Go.Proofs.Ytegjkbebnnpdcaa
