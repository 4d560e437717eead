/- A packet's bytes, as the code writes them. -/
import Derived.Test.YtegjkbebnnpdcaaLinkBits
import Derived.Test.YtegjkbebnnpdcaaLinkPut
import Derived.Test.YtegjkbebnnpdcaaCrcTurn
import Derived.Laws.MakeOwn
import Derived.Deep.WholeRow
namespace Go.Proofs.Ytegjkbebnnpdcaa
namespace Lw
open Go.RowKit

/-- All that lay is as it was, but block b. -/
structure Offs (b : Nat) (w w' : World) : Prop where
  os : w'.os = w.os
  tape : w'.tape = w.tape
  output : w'.output = w.output
  size : w.heap.size ≤ w'.heap.size
  block : ∀ k, k < w.heap.size → k ≠ b → w'.heap[k]? = w.heap[k]?
namespace Offs
variable {b : Nat} {w w' w'' : World}
theorem refl (b : Nat) (w : World) : Offs b w w := ⟨rfl, rfl, rfl, Nat.le_refl _, fun _ _ _ => rfl⟩
theorem trans (h : Offs b w w') (k : Offs b w' w'') : Offs b w w'' := ⟨k.os.trans h.os, k.tape.trans h.tape, k.output.trans h.output, Nat.le_trans h.size k.size, fun i hi hb => (k.block i (Nat.lt_of_lt_of_le hi h.size) hb).trans (h.block i hi hb)⟩
theorem of_below (h : Below w.heap.size w w') : Offs b w w' := ⟨h.os, h.tape, h.output, h.size, fun i hi _ => h.block i hi⟩
theorem of_off (h : Crc.Off b w w') : Offs b w w' := ⟨h.os, h.tape, h.output, Nat.le_of_eq h.size.symm, fun i _ hb => h.block i hb⟩
theorem below (h : Offs b w w') {m : Nat} (hm : m ≤ b) (hs : m ≤ w.heap.size) : Below m w w' := ⟨h.os, h.tape, h.output, h.size, fun k hk => h.block k (by omega) (by omega)⟩
theorem cell (h : Offs b w w') {p : Addr} (hp : p.block ≠ b) (hl : p.block < w.heap.size) : w'.cell? p = w.cell? p := World.cell?_of_block (w := w) (h.block p.block hl hp)
theorem drew (h : Offs b w w') : Offs b w w'.drew := ⟨h.os, h.tape, h.output, h.size, h.block⟩
end Offs

theorem info_b : (Try.prog.info? 5).map (fun i => (i.zero, i.size, i.bytes)) = some (some (.int .u8 0), 1, 1) := by kernel_rfl
theorem make32 (w : World) : (Instr.makeSlice 27 (.int .i64 0) (.int .i64 32)).run Try.prog w = .ok (.slice (some ⟨w.heap.size, 0, none⟩) 0 32) (w.alloc (.cells (madeCells #[.int .u8 0] 32) 5)) := by
  obtain ⟨i, hi, hz⟩ := Option.map_eq_some_iff.1 info_b
  simp only [Prod.mk.injEq] at hz
  obtain ⟨h1, h2, h3⟩ := hz
  have := run_make (P := Try.prog) w 27 5 i (.int .u8 0) Try.underlying27 hi h1 .i64 .i64 0 32 (by decide) (by decide) (by rw [h3]; decide) (by decide)
  rw [h2] at this
  exact this

/-- The state of the writing: the packet lies in block m, its bytes in block m + 1, their slice in block m + 2. -/
structure Wr (b n : Nat) (p : Ln.Pk) (w W : World) (l : List Nat) : Prop where
  put : Put W (w.heap.size + 1) (w.heap.size + 1 + 1) l
  pk : W.heap[w.heap.size]? = some (.cells (pc p) 26 (0, 0))
  is : Crc.Is W b n
  off : Offs b w W
namespace Wr
variable {b n : Nat} {p : Ln.Pk} {w W W' : World} {l l' : List Nat}
theorem step (h : Wr b n p w W l) (hb : b < w.heap.size) (hp : Put W' (w.heap.size + 1) (w.heap.size + 1 + 1) l') (ho : Below (w.heap.size + 1) W W') : Wr b n p w W' l' :=
  ⟨hp, (ho.block _ (by omega)).trans h.pk, h.is.of_block (ho.block b (by omega)), ⟨ho.os.trans h.off.os, ho.tape.trans h.off.tape, ho.output.trans h.off.output, Nat.le_trans h.off.size ho.size, fun k hk hb => (ho.block k (by omega)).trans (h.off.block k hk hb)⟩⟩
theorem below (h : Wr b n p w W l) (hb : b < w.heap.size) (ho : Below W.heap.size W W') : Wr b n p w W' l := by
  have := h.put.B_lt
  exact h.step hb (h.put.keep fun i hi => ho.block i (by omega)) (ho.mono (by omega))
theorem sum {n' : Nat} (h : Wr b n p w W l) (hb : b < w.heap.size) (hi : Crc.Is W' b n') (ho : Crc.Off b W W') : Wr b n' p w W' l := by
  obtain ⟨cur, h1, h2, h3⟩ := h.put.row
  exact ⟨⟨h.put.lt, ⟨cur, (ho.block _ (by omega)).trans h1, h2, h3⟩, (ho.block _ (by omega)).trans h.put.box, h.put.le⟩, (ho.block _ (by omega)).trans h.pk, hi, h.off.trans (Offs.of_off ho)⟩
theorem cell (h : Wr b n p w W l) (i : Nat) {v : Value} (hv : (pc p)[i]? = some v) : W.cell? ⟨w.heap.size, i, none⟩ = some v := by rw [Joins.cell_of_block h.pk, hv]
theorem row (h : Wr b n p w W l) : Crc.RowB W (w.heap.size + 1) l := by
  obtain ⟨cur, h1, _, h3⟩ := h.put.row
  exact ⟨cur, h1, h3⟩
theorem start (hb : b < w.heap.size) (h : Crc.Is w b n) : Wr b n p w (((w.alloc (.cells (pc p) 26)).alloc (.cells (madeCells #[.int .u8 0] 32) 5)).alloc (.cells #[.slice (some ⟨w.heap.size + 1, 0, none⟩) 0 32] 27)) [] := by
  have e1 : (w.alloc (.cells (pc p) 26)).heap.size = w.heap.size + 1 := by simp
  have e2 : ((w.alloc (.cells (pc p) 26)).alloc (.cells (madeCells #[.int .u8 0] 32) 5)).heap.size = w.heap.size + 1 + 1 := by simp
  have b1 := (Below.refl w.heap.size w).alloc (Nat.le_refl _) (.cells (pc p) 26)
  have b2 := b1.alloc b1.size (.cells (madeCells #[.int .u8 0] 32) 5)
  have b3 := b2.alloc b2.size (.cells #[.slice (some ⟨w.heap.size + 1, 0, none⟩) 0 32] 27)
  refine ⟨⟨by omega, ⟨madeCells #[.int .u8 0] 32, ?_, size_madeCells _ _, fun i hi => absurd hi (Nat.not_lt_zero _)⟩, ?_, by simp⟩, ?_, h.of_block (b3.block b hb), Offs.of_below b3⟩
  · rw [Below.heap_alloc _ _ _ (by omega)]
    have := heap_alloc_last (w.alloc (.cells (pc p) 26)) (.cells (madeCells #[.int .u8 0] 32) 5)
    rwa [e1] at this
  · have := heap_alloc_last ((w.alloc (.cells (pc p) 26)).alloc (.cells (madeCells #[.int .u8 0] 32) 5)) (.cells #[.slice (some ⟨w.heap.size + 1, 0, none⟩) 0 32] 27)
    rwa [e2] at this
  · rw [Below.heap_alloc _ _ _ (by omega), Below.heap_alloc _ _ _ (by omega)]
    exact heap_alloc_last w _
end Wr

/-- What is put ahead of the values, and with the first k of them. -/
def ev (p : Ln.Pk) : Nat → List Nat
  | 0 => [] ++ Ln.be 1 213 ++ Ln.be 1 p.f ++ Ln.be 4 p.n ++ Ln.be 1 p.m ++ Ln.be 1 p.s
  | k + 1 => ev p k ++ Ln.be 4 (vl p k)
theorem ev_len (p : Ln.Pk) (k : Nat) : (ev p k).length = 8 + 4 * k := by
  induction k with
  | zero => simp [ev, Ln.be_len]
  | succ k ih => rw [ev, List.length_append, ih, Ln.be_len]; omega
theorem ev_e30 (p : Ln.Pk) : ev p 5 ++ Ln.be 1 (Ln.bits p) ++ Ln.be 1 0 = Ln.e30 p := rfl

set_option maxRecDepth 100000 in
set_option maxHeartbeats 8000000 in
theorem write_c (p : Ln.Pk) (b n : Nat) (w : World) (h : Crc.Is w b n) (hn : n + 1 < 4611686018427387904) :
    Calls Try.prog 18 #[.pointer (some ⟨b, 0, none⟩), .agg (pc p)] w fun e w' => e = .returned (.slice (some ⟨w.heap.size + 1, 0, none⟩) 32 32) ∧ Crc.RowB w' (w.heap.size + 1) (Ln.enc p) ∧ Crc.Is w' b (n + 1) ∧ Offs b w w' := by
  have hb := h.lt
  have HW := Lib.hid (Wr.start (p := p) hb h)
  have hmk := make32
  have hmf : ∀ (fn : Fn) (first cap : Array Value) (w : World), (Instr.makeFunc fn first cap).run Try.prog w = .ok (.func fn first cap) w := fun _ _ _ _ => rfl
  clear h
  have i0 := ix0 23 (.inl rfl)
  have i1 := ix1 23 (.inl rfl)
  have i2 := ix2 23 (.inl rfl)
  have i3 := ix3 23 (.inl rfl)
  have i4 := ix4 23 (.inl rfl)
  dsimp only [pc] at *
  go_enter Try.func18, Try.ntmps18
  go_wp2_with fail
  clear hmk
  refine (put_c 213 1 _ _ _ _ (by decide) HW.out.put (by simp)).mono ?_
  rintro e W' ⟨rfl, hp, ho⟩
  replace HW := Lib.hid (HW.out.step hb hp ho)
  clear hp ho
  have q := HW.out.cell 0 rfl
  go_wp2_with fail
  clear q
  refine (put_c p.f 1 _ _ _ _ (by decide) HW.out.put (by simp [Ln.be_len])).mono ?_
  rintro e W' ⟨rfl, hp, ho⟩
  replace HW := Lib.hid (HW.out.step hb hp ho)
  clear hp ho
  have q := HW.out.cell 1 rfl
  go_wp2_with fail
  clear q
  refine (put_c p.n 4 _ _ _ _ (by decide) HW.out.put (by simp [Ln.be_len])).mono ?_
  rintro e W' ⟨rfl, hp, ho⟩
  replace HW := Lib.hid (HW.out.step hb hp ho)
  clear hp ho
  have q := HW.out.cell 12 rfl
  go_wp2_with fail
  clear q
  refine (put_c p.m 1 _ _ _ _ (by decide) HW.out.put (by simp [Ln.be_len])).mono ?_
  rintro e W' ⟨rfl, hp, ho⟩
  replace HW := Lib.hid (HW.out.step hb hp ho)
  clear hp ho
  have q := HW.out.cell 13 rfl
  go_wp2_with fail
  clear q
  refine (put_c p.s 1 _ _ _ _ (by decide) HW.out.put (by simp [Ln.be_len])).mono ?_
  rintro e W' ⟨rfl, hp, ho⟩
  replace HW := Lib.hid (HW.out.step hb hp ho)
  clear hp ho
  have q2 := HW.out.cell 2 rfl
  have q3 := HW.out.cell 3 rfl
  have q4 := HW.out.cell 4 rfl
  have q5 := HW.out.cell 5 rfl
  have q6 := HW.out.cell 6 rfl
  go_wp2_with fail
  clear q2 q3 q4 q5 q6
  replace HW : Hid (Wr b n p w W' (ev p 0)) := HW
  go_loopw [31] (fun i wr => ∃ k : Nat, k ≤ 5 ∧ i = .int .i64 k ∧ Wr b n p w wr (ev p k)) (fun i _ => 5 - (intOf i).toNat)
  case atStart => exact ⟨0, by decide, rfl, HW.out⟩
  case round =>
    obtain ⟨k, hk, rfl, hw⟩ := hrel
    clear HW
    have HW := Lib.hid hw
    clear hw
    by_cases hlt : k < 5
    · have hk5 : k = 0 ∨ k = 1 ∨ k = 2 ∨ k = 3 ∨ k = 4 := by omega
      rcases hk5 with rfl | rfl | rfl | rfl | rfl
      · have C := Lib.hid (put_c p.a 4 _ _ _ _ (by decide) HW.out.put (by rw [ev_len]; decide))
        go_wp2_with fail
        refine C.out.mono ?_
        rintro e W2 ⟨rfl, hp, ho⟩
        replace HW : Hid (Wr b n p w W2 (ev p 1)) := Lib.hid (HW.out.step hb hp ho)
        clear hp ho C
        go_wp2_with fail
        go_roundw
        case rel => exact ⟨1, by decide, rfl, HW.out⟩
        case measure => simp [intOf]
      · have C := Lib.hid (put_c p.b 4 _ _ _ _ (by decide) HW.out.put (by rw [ev_len]; decide))
        go_wp2_with fail
        refine C.out.mono ?_
        rintro e W2 ⟨rfl, hp, ho⟩
        replace HW : Hid (Wr b n p w W2 (ev p 2)) := Lib.hid (HW.out.step hb hp ho)
        clear hp ho C
        go_wp2_with fail
        go_roundw
        case rel => exact ⟨2, by decide, rfl, HW.out⟩
        case measure => simp [intOf]
      · have C := Lib.hid (put_c p.c 4 _ _ _ _ (by decide) HW.out.put (by rw [ev_len]; decide))
        go_wp2_with fail
        refine C.out.mono ?_
        rintro e W2 ⟨rfl, hp, ho⟩
        replace HW : Hid (Wr b n p w W2 (ev p 3)) := Lib.hid (HW.out.step hb hp ho)
        clear hp ho C
        go_wp2_with fail
        go_roundw
        case rel => exact ⟨3, by decide, rfl, HW.out⟩
        case measure => simp [intOf]
      · have C := Lib.hid (put_c p.d 4 _ _ _ _ (by decide) HW.out.put (by rw [ev_len]; decide))
        go_wp2_with fail
        refine C.out.mono ?_
        rintro e W2 ⟨rfl, hp, ho⟩
        replace HW : Hid (Wr b n p w W2 (ev p 4)) := Lib.hid (HW.out.step hb hp ho)
        clear hp ho C
        go_wp2_with fail
        go_roundw
        case rel => exact ⟨4, by decide, rfl, HW.out⟩
        case measure => simp [intOf]
      · have C := Lib.hid (put_c p.e 4 _ _ _ _ (by decide) HW.out.put (by rw [ev_len]; decide))
        go_wp2_with fail
        refine C.out.mono ?_
        rintro e W2 ⟨rfl, hp, ho⟩
        replace HW : Hid (Wr b n p w W2 (ev p 5)) := Lib.hid (HW.out.step hb hp ho)
        clear hp ho C
        go_wp2_with fail
        go_roundw
        case rel => exact ⟨5, by decide, rfl, HW.out⟩
        case measure => simp [intOf]
    · obtain rfl : k = 5 := by omega
      have q2 := HW.out.cell 7 rfl
      have q3 := HW.out.cell 8 rfl
      have q4 := HW.out.cell 9 rfl
      have q5 := HW.out.cell 10 rfl
      have q6 := HW.out.cell 11 rfl
      go_wp2_with fail
      clear q2 q3 q4 q5 q6
      refine (bits_c p _).mono ?_
      rintro e W2 ⟨rfl, ho⟩
      replace HW := Lib.hid (HW.out.below hb ho)
      clear ho
      go_wp2_with fail
      refine (put_c (Ln.bits p) 1 _ _ _ _ (by decide) HW.out.put (by rw [ev_len]; decide)).mono ?_
      rintro e W3 ⟨rfl, hp, ho⟩
      replace HW := Lib.hid (HW.out.step hb hp ho)
      clear hp ho
      go_wp2_with fail
      refine (put_c 0 1 _ _ _ _ (by decide) HW.out.put (by rw [List.length_append, ev_len, Ln.be_len]; decide)).mono ?_
      rintro e W4 ⟨rfl, hp, ho⟩
      replace HW : Hid (Wr b n p w W4 (Ln.e30 p)) := Lib.hid (HW.out.step hb hp ho)
      clear hp ho
      have hc := HW.out.put.cell
      rw [Ln.e30_len] at hc
      go_wp2_with fail
      clear hc
      obtain ⟨s, hs⟩ : ∃ s, Cr.more 65535 (Ln.e30 p) = s := ⟨_, rfl⟩
      have hlt := Cr.more_lt (s := 65535) (by decide) (Ln.e30_bytes p)
      rw [hs] at hlt
      refine (Crc.of_v b n (some ⟨w.heap.size + 1, 0, none⟩) (Ln.e30 p) 32 _ (Lib.hid hs) (Ln.e30_len p) (Ln.e30_bytes p) (by decide) HW.out.is hn (HW.out.row.bytes (by omega))).mono ?_
      rintro e W5 ⟨rfl, hi, ho⟩
      replace HW := Lib.hid (HW.out.sum hb hi ho)
      clear hi ho
      have HS := Lib.hid hs
      clear hs
      go_wp2_with fail
      refine (put_c (s : Int) 2 _ _ _ _ (by decide) HW.out.put (by rw [Ln.e30_len]; decide)).mono ?_
      rintro e W6 ⟨rfl, hp, ho⟩
      have HW6 : Hid (Wr b (n + 1) p w W6 (Ln.enc p)) := by
        have := HW.out.step hb hp ho
        rw [← HS.out] at this
        exact this
      clear hp ho HW HS
      have hc := HW6.out.put.cell
      rw [Ln.enc_len] at hc
      go_wp2_with fail
      go_ret
      exact ⟨rfl, HW6.out.row, HW6.out.is, HW6.out.off⟩
end Lw
end Go.Proofs.Ytegjkbebnnpdcaa
