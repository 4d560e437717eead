/- The calls whose answers the document fixes: awake. -/
import Derived.Test.YtlhapipgmadbeaaStoreOne
namespace Go.Proofs.Ytlhapipgmadbeaa
namespace Sq
open Go.RowKit Nv Nw Sp Lk

def k0 : M := Nv.new 12
def k1 : M := (put k0 ⟨5, 1, false⟩).2
def k2 : M := (put k1 ⟨7, 1, false⟩).2
def k3 : M := (put k2 ⟨9, 1, false⟩).2
def k4 : M := arm k3 4
def k5 : M := (put k4 ⟨9, 2, false⟩).2
def k6 : M := up k5
theorem g0 : Good k0 := good_new (by decide) (by decide)
theorem g1 : Good k1 := g0.put _ (by decide +kernel)
theorem g2 : Good k2 := g1.put _ (by decide +kernel)
theorem g3 : Good k3 := g2.put _ (by decide +kernel)
theorem g4 : Good k4 := g3.arm (by decide)
theorem g5 : Good k5 := g4.put _ (by decide +kernel)
theorem g6 : Good k6 := g5.up
theorem t3 : told k3 = [⟨7, 1, false⟩, ⟨9, 1, false⟩] := by decide +kernel
theorem t6 : told k6 = [⟨7, 1, false⟩, ⟨9, 1, false⟩] := by decide +kernel

set_option maxRecDepth 100000 in
set_option maxHeartbeats 4000000 in
theorem awake_c (w : World) : Calls Try.prog 9 #[] w fun e w' => e = .returned (.bool true) ∧ Below w.heap.size w w' := by
  have HB : Hid (Below w.heap.size w w) := Below.refl _ _
  go_enter Try.func9, Try.ntmps9
  go_wp2_with fail
  refine (new_m 12 rfl (by decide) HB.out).mono ?_
  rintro e w1 ⟨b, d, rfl, h, _, _, _⟩
  have HM : Hid (Mm w w1 b d k0) := h
  clear h HB
  go_wp2_with fail
  refine (open_m HM.out (by decide +kernel) (by decide +kernel) (by decide +kernel)).mono ?_
  rintro e w2 ⟨g, rfl, h, _, _⟩
  have HO : Hid (One w w2 g b d k0) := h
  clear h HM
  go_wp2_with fail
  refine (put_m (m' := k1) (E := 0) HO.out g0 ⟨5, 1, false⟩ (by decide +kernel) rfl).mono ?_
  rintro e w3 ⟨rfl, h, _⟩
  replace HO := Lib.hid h
  clear h
  go_wp2_with fail
  refine (put_m (m' := k2) (E := 0) HO.out g1 ⟨7, 1, false⟩ (by decide +kernel) rfl).mono ?_
  rintro e w4 ⟨rfl, h, _⟩
  replace HO := Lib.hid h
  clear h
  go_wp2_with fail
  refine (put_m (m' := k3) (E := 0) HO.out g2 ⟨9, 1, false⟩ (by decide +kernel) rfl).mono ?_
  rintro e w5 ⟨rfl, h, _⟩
  replace HO := Lib.hid h
  clear h
  go_wp2_with fail
  refine (told_m (n := 2) HO.out g3 t3 rfl).mono ?_
  rintro e w6 ⟨A, c, rfl, hc, hN, h, _⟩
  have HL : Hid (New_ w6 w5.heap.size A [⟨7, 1, false⟩, ⟨9, 1, false⟩] ∧ b < w5.heap.size ∧ d < w5.heap.size) := ⟨hN, HO.out.mm.mem.lt, HO.out.mm.mem.lt'⟩
  replace HO := Lib.hid h
  clear h hN
  go_wp2_with fail
  refine (arm_m (m' := k4) HO.out rfl).mono ?_
  rintro e w7 ⟨rfl, h, ht⟩
  replace HO := Lib.hid h
  replace HL := Lib.hid (And.intro (HL.out.1.turn ht HL.out.2.1 HL.out.2.2) HL.out.2)
  clear h ht
  go_wp2_with fail
  refine (put_m (m' := k5) (E := 110) HO.out g4 ⟨9, 2, false⟩ (by decide +kernel) rfl).mono ?_
  rintro e w8 ⟨rfl, h, ht⟩
  replace HO := Lib.hid h
  replace HL := Lib.hid (And.intro (HL.out.1.turn ht HL.out.2.1 HL.out.2.2) HL.out.2)
  clear h ht
  go_wp2_with fail
  refine (up_m (m' := k6) HO.out rfl).mono ?_
  rintro e w9 ⟨rfl, h, ht⟩
  replace HO := Lib.hid h
  replace HL := Lib.hid (And.intro (HL.out.1.turn ht HL.out.2.1 HL.out.2.2) HL.out.2)
  clear h ht
  go_wp2_with fail
  refine (open_m HO.out.mm (by decide +kernel) (by decide +kernel) (by decide +kernel)).mono ?_
  rintro e w10 ⟨g', rfl, h, _, hb⟩
  have HP : Hid (One w w10 g' b d k6) := h
  replace HO := Lib.hid (HO.out.grow hb)
  replace HL := Lib.hid (And.intro (HL.out.1.turn (Turn.grow (b := b) (d := d) hb) HL.out.2.1 HL.out.2.2) HL.out.2)
  clear h hb
  go_wp2_with fail
  refine (told_m (n := 2) HP.out g6 t6 rfl).mono ?_
  rintro e w11 ⟨A', c', rfl, hc', hN, h, ht⟩
  have HK := Lib.hid hN
  replace HO := Lib.hid (HO.out.turn h.mm.mem ht)
  replace HL := Lib.hid (And.intro (HL.out.1.turn ht HL.out.2.1 HL.out.2.2) HL.out.2)
  clear h ht hN HP
  obtain ⟨ga, oa, rfl, _, _, r0⟩ := HL.out.1 0 _ rfl
  obtain ⟨ga2, oa2, e, _, _, r1⟩ := HL.out.1 1 _ rfl
  obtain ⟨rfl, rfl⟩ : ga2 = ga ∧ oa2 = oa := by injection e with e; injection e with e1 e2; exact ⟨e1.symm, e2.symm⟩
  obtain ⟨gk, ok, rfl, _, _, s0⟩ := HK.out 0 _ rfl
  obtain ⟨gk2, ok2, e', _, _, s1⟩ := HK.out 1 _ rfl
  obtain ⟨rfl, rfl⟩ : gk2 = gk ∧ ok2 = ok := by injection e' with e'; injection e' with e1 e2; exact ⟨e1.symm, e2.symm⟩
  obtain ⟨x0, x1, x2⟩ := rc_cells r0
  obtain ⟨y0, y1, y2⟩ := rc_cells r1
  obtain ⟨u0, u1, u2⟩ := rc_cells s0
  obtain ⟨v0, v1, v2⟩ := rc_cells s1
  simp only [Nat.zero_mul, Nat.add_zero, Nat.one_mul] at x0 x1 x2 y0 y1 y2 u0 u1 u2 v0 v1 v2
  have E := eq_r ⟨9, 1, false⟩ ⟨9, 1, false⟩
  simp only [rcs, decide_true] at E
  clear r0 r1 s0 s1 e e' HL HK
  go_wp2_with (first
    | (go_at_call 13; (with_reducible refine (room_m (n := 2) HO.out g6 (by decide +kernel)).mono ?_); rintro e W ⟨rfl, rfl⟩)
    | (go_at_call 15; (with_reducible refine (put_m (m' := k6) (E := 1) HO.out g6 ⟨0, 0, false⟩ (by decide +kernel) rfl).mono ?_); rintro e W ⟨rfl, h, _⟩; replace HO := Lib.hid h; clear h)
    | fail)
  go_ret
  exact ⟨rfl, HO.out.mm.old⟩
end Sq
end Go.Proofs.Ytlhapipgmadbeaa
