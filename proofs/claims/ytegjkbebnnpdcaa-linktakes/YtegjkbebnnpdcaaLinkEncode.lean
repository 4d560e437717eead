/- link.Encode. -/
import Derived.Test.YtegjkbebnnpdcaaLinkWrite
namespace Go.Proofs.Ytegjkbebnnpdcaa
namespace Lw
open Go.RowKit

/-- A packet in a block of its own. -/
def Pkt (W : World) (m : Nat) (p : Ln.Pk) : Prop := W.heap[m]? = some (.cells (pc p) 26 (0, 0))
namespace Pkt
variable {W W' : World} {m : Nat} {p : Ln.Pk}
theorem cell (h : Pkt W m p) (i : Nat) {v : Value} (hv : (pc p)[i]? = some v) : W.cell? ⟨m, i, none⟩ = some v := by rw [Joins.cell_of_block h, hv]
theorem frozen (h : Pkt W m p) (i : Nat) : W.frozen? ⟨m, i, none⟩ = false := Joins.unfrozen_of_block h i
theorem lt (h : Pkt W m p) : m < W.heap.size := (Array.getElem?_eq_some_iff.1 h).1
theorem all (h : Pkt W m p) : W.cell? ⟨m, 0, none⟩ = some (.int .i64 p.f) ∧ W.cell? ⟨m, 1, none⟩ = some (.int .i64 p.n) ∧ W.cell? ⟨m, 2, none⟩ = some (.int .i64 p.a) ∧ W.cell? ⟨m, 3, none⟩ = some (.int .i64 p.b) ∧ W.cell? ⟨m, 4, none⟩ = some (.int .i64 p.c) ∧ W.cell? ⟨m, 5, none⟩ = some (.int .i64 p.d) ∧ W.cell? ⟨m, 6, none⟩ = some (.int .i64 p.e) ∧ W.cell? ⟨m, 7, none⟩ = some (.bool p.ga) ∧ W.cell? ⟨m, 8, none⟩ = some (.bool p.gb) ∧ W.cell? ⟨m, 9, none⟩ = some (.bool p.gc) ∧ W.cell? ⟨m, 10, none⟩ = some (.bool p.gd) ∧ W.cell? ⟨m, 11, none⟩ = some (.bool p.ge) ∧ W.cell? ⟨m, 12, none⟩ = some (.int .i64 p.m) ∧ W.cell? ⟨m, 13, none⟩ = some (.int .i64 p.s) :=
  ⟨h.cell 0 rfl, h.cell 1 rfl, h.cell 2 rfl, h.cell 3 rfl, h.cell 4 rfl, h.cell 5 rfl, h.cell 6 rfl, h.cell 7 rfl, h.cell 8 rfl, h.cell 9 rfl, h.cell 10 rfl, h.cell 11 rfl, h.cell 12 rfl, h.cell 13 rfl⟩
theorem below {k : Nat} (h : Pkt W m p) (hb : Below k W W') (hk : m < k) : Pkt W' m p := (hb.block m hk).trans h
theorem offs {b : Nat} (h : Pkt W m p) (hb : Offs b W W') (hk : m ≠ b) : Pkt W' m p := (hb.block m h.lt hk).trans h
theorem drew (h : Pkt W m p) : Pkt W.drew m p := h
theorem alloc (h : Pkt W m p) (o : Obj) : Pkt (W.alloc o) m p := (Below.heap_alloc W o m h.lt).trans h
theorem new (W : World) (p : Ln.Pk) : Pkt (W.alloc (.cells (pc p) 26)) W.heap.size p := heap_alloc_last W _
end Pkt

set_option maxRecDepth 100000 in
theorem enc_bad (p : Ln.Pk) (hb : Ln.okB p = false) (w : World) : Calls Try.prog 10 #[.agg (pc p)] w fun e w' => e = .returned (.tuple #[.slice none 0 0, .int .i64 1]) ∧ Below w.heap.size w w' := by
  have C := Lib.hid (check_b false p hb)
  have HB : Hid (Below w.heap.size w (w.alloc (.cells (pc p) 26))) := (Below.refl _ _).alloc (Nat.le_refl _) _
  dsimp only [pc] at *
  go_enter Try.func10, Try.ntmps10
  go_wp2_with fail
  refine (C.out _).mono ?_
  rintro e W1 ⟨rfl, ho⟩
  replace HB := Lib.hid (HB.out.trans (ho.mono HB.out.size))
  clear ho C
  go_wp2_with fail
  go_ret2
  exact ⟨rfl, HB.out⟩

set_option maxRecDepth 100000 in
set_option maxHeartbeats 4000000 in
theorem enc_ok (p : Ln.Pk) (hb : Ln.okB p = true) (w : World) : Calls Try.prog 10 #[.agg (pc p)] w fun e w' => ∃ g, w.heap.size ≤ g ∧ e = .returned (.tuple #[.slice (some ⟨g, 0, none⟩) 32 32, .int .i64 0]) ∧ Crc.RowB w' g (Ln.enc p) ∧ Below w.heap.size w w' := by
  have C := Lib.hid (check_b true p hb)
  have HB : Hid (Below w.heap.size w (w.alloc (.cells (pc p) 26))) := (Below.refl _ _).alloc (Nat.le_refl _) _
  have HP := Lib.hid (Pkt.new w p)
  dsimp only [pc] at *
  go_enter Try.func10, Try.ntmps10
  go_wp2_with fail
  refine (C.out _).mono ?_
  rintro e W1 ⟨rfl, ho⟩
  replace HB := Lib.hid (HB.out.trans (ho.mono HB.out.size))
  replace HP := Lib.hid (HP.out.below ho (by simp))
  clear ho C
  replace HB := Lib.hid HB.out.drew
  replace HP := Lib.hid HP.out.drew
  have CN := Lib.hid Crc.new_c
  have CW := Lib.hid (fun W b h => write_c p b 0 W h (by decide))
  dsimp only [pc] at *
  have hm : w.heap.size < W1.heap.size := by have := HP.out.lt; exact this
  generalize hz : w.heap.size = m at *
  have HZ := Lib.hid hz
  clear hz
  go_wp2_with fail
  go_region_held3 (fun V => V.cell? ⟨m, 0, none⟩ = some (.int .i64 p.f) ∧ V.cell? ⟨m, 1, none⟩ = some (.int .i64 p.n) ∧ V.cell? ⟨m, 2, none⟩ = some (.int .i64 p.a) ∧ V.cell? ⟨m, 3, none⟩ = some (.int .i64 p.b) ∧ V.cell? ⟨m, 4, none⟩ = some (.int .i64 p.c) ∧ V.cell? ⟨m, 5, none⟩ = some (.int .i64 p.d) ∧ V.cell? ⟨m, 6, none⟩ = some (.int .i64 p.e) ∧ V.cell? ⟨m, 7, none⟩ = some (.bool p.ga) ∧ V.cell? ⟨m, 8, none⟩ = some (.bool p.gb) ∧ V.cell? ⟨m, 9, none⟩ = some (.bool p.gc) ∧ V.cell? ⟨m, 10, none⟩ = some (.bool p.gd) ∧ V.cell? ⟨m, 11, none⟩ = some (.bool p.ge) ∧ V.cell? ⟨m, 12, none⟩ = some (.int .i64 p.m) ∧ V.cell? ⟨m, 13, none⟩ = some (.int .i64 p.s))
    (first | exact HP.out.all | exact HP2.out.all | exact HP3.out.all)
    (first
      | (go_at_call 19; refine (CN.out _).mono ?_; rintro e W2 ⟨rfl, hw⟩; have HI : Hid (Crc.Is W2 W1.heap.size 0) := (by rw [hw]; exact Crc.new_is W1.drew); have HP2 : Hid (Pkt W2 m p) := (by rw [hw]; exact HP.out.alloc _); have HB2 : Hid (Below m w W2) := (by rw [hw]; exact HB.out.alloc (Nat.le_of_lt hm) _); clear hw)
      | (go_at_call 18; refine (CW.out _ _ HI.out).mono ?_; rintro e W3 ⟨rfl, hr, hi, ho⟩; have HP3 := Lib.hid (HP2.out.offs ho (by omega)); have HR := Lib.hid hr; have HB3 := Lib.hid (HB2.out.trans (ho.below (Nat.le_of_lt hm) (Nat.le_of_lt HP2.out.lt))); clear hr hi ho))
  go_wp2_with fail
  go_ret2
  exact ⟨_, by have := HP2.out.lt; have := HZ.out; omega, rfl, HR.out, by rw [HZ.out]; exact HB3.out⟩
end Lw
end Go.Proofs.Ytegjkbebnnpdcaa
