/- Records behind faults that come; 'awake' of layer 13's statements; the law on codes. -/
import Derived.Test.YtddkmaplficofaaFaultRef2
import Derived.Test.YtddkmaplficofaaLawKit
namespace Go.Proofs.Ytddkmaplficofaa
namespace Fw
open Go.RowKit Fa Lk
open Sp (R)

theorem raised_next {l : List Int} {k : Nat} {x : Int} (h : l[k]? = some x) : Fa.raised (l.take (k + 1)) = raise (Fa.raised (l.take k)) x := by
  rw [List.take_add_one, h]
  exact raise_snoc _ _
theorem good_take (l : List Int) (k : Nat) : Fa.Good (Fa.raised (l.take k)) k := (good_raised _).le (by rw [List.length_take]; omega)

set_option maxRecDepth 100000 in
set_option maxHeartbeats 4000000 in
/-- **raised**, of at most a hundred faults. -/
theorem raised_c (A : Option Addr) (l : List Int) (n cp : Nat) (hl : l.length = n) (hn : n ≤ 9223372036854775807) (w : World) (hA : Lk.IntsAt w .i64 A l) :
    Calls Try.prog 20 #[.slice A n cp] w fun e w' => ∃ A' m c', e = .returned (.slice A' m c') ∧ Lst w' w.heap.size A' m c' (Fa.raised (l.take 100)) ∧ Below w.heap.size w w' := by
  have HA := Lib.hid hA
  have HL := Lib.hid hl
  have HQ : Hid (Lst w w.heap.size none 0 0 (Fa.raised (l.take 0))) := Lst.none _ _
  have HG := Lib.hid (fun k => good_take l k)
  clear hA hl
  go_enter Try.func20, Try.ntmps20
  go_wp2_with fail
  go_loopw [3, 4] (fun v i wr => ∃ k : Nat, (k ≤ n ∧ k ≤ 100) ∧ i = .int .i64 k ∧ (∃ A' m c', v = .slice A' m c' ∧ Lst wr w.heap.size A' m c' (Fa.raised (l.take k))) ∧ Below w.heap.size w wr) (fun _ i _ => n - (intOf i).toNat)
  case atStart => exact ⟨0, ⟨Nat.zero_le _, Nat.zero_le _⟩, rfl, ⟨none, 0, 0, rfl, HQ.out⟩, Below.refl _ _⟩
  case round =>
    clear HQ
    obtain ⟨k, ⟨hk, hk1⟩, rfl, ⟨A', m, c', rfl, hq⟩, hb⟩ := hrel
    have HQ := Lib.hid hq
    have HB := Lib.hid hb
    clear hq hb
    by_cases hlt : k < n
    · have hkn : (k : Int) < n := by omega
      by_cases h100 : k < 100
      · obtain ⟨x, hx⟩ : ∃ x, l[k]? = some x := ⟨l[k]'(by rw [HL.out]; exact hlt), List.getElem?_eq_getElem _⟩
        obtain ⟨g, o, rfl, hc⟩ := (HA.out.below HB.out) k (by rw [HL.out]; exact hlt)
        have hx2 : l.getD k 0 = x := by rw [List.getD_eq_getElem?_getD, hx]; rfl
        rw [hx2] at hc
        have HN := Lib.hid (raised_next hx)
        have h2 : (k : Int) < 100 := by omega
        have HC := Lib.hid (raise_c A' m c' (Fa.raised (l.take k)) x k (HG.out k) (by omega) wr w.heap.size HQ.out)
        clear hx hx2
        go_wp2_with fail
        refine HC.out.mono ?_
        rintro e W1 ⟨A2, c2, rfl, h1, hb1⟩
        have HQ1 := Lib.hid (h1.le HB.out.size)
        have HB1 := Lib.hid (HB.out.trans (hb1.mono HB.out.size))
        clear h1 hb1 HC HQ HB
        go_wp2_with fail
        go_roundw
        case rel => exact ⟨k + 1, ⟨by omega, by omega⟩, by go_num, ⟨A2, _, c2, rfl, by rw [HN.out]; exact HQ1.out⟩, HB1.out⟩
        case measure => simp [intOf]; omega
      · have h2 : decide ((k : Int) < 100) = false := decide_eq_false (by omega)
        obtain rfl : k = 100 := by omega
        go_wp2_with fail
        go_ret
        exact ⟨A', m, c', rfl, HQ.out, HB.out⟩
    · have h2 : decide ((k : Int) < n) = false := decide_eq_false (by omega)
      obtain rfl : k = n := by omega
      have HE : Hid (l.take k = l.take 100) := by show _ = _; rw [List.take_of_length_le (by rw [HL.out]; exact Nat.le_refl _), List.take_of_length_le (by rw [HL.out]; omega)]
      go_wp2_with fail
      go_ret
      exact ⟨A', m, c', rfl, by rw [← HE.out]; exact HQ.out, HB.out⟩

/-! ### the calls whose answers the document fixes -/
theorem aw_list : Fa.raised [5, 5, 9, 5] = [⟨5, 3, true⟩, ⟨9, 1, false⟩] := by decide
theorem aw_got : got 9 [⟨5, 3, true⟩, ⟨9, 1, false⟩] = ⟨9, 1, false⟩ ∧ has 9 [⟨5, 3, true⟩, ⟨9, 1, false⟩] = true := by decide
theorem aw_edges : edges [true, false] [true, true, true] = [1, 2] := by decide
theorem aw_ints (w : World) : Lk.IntsAt (w.alloc (.cells #[.int .i64 5, .int .i64 5, .int .i64 9, .int .i64 5] 3)) .i64 (some ⟨w.heap.size, 0, none⟩) [5, 5, 9, 5] := by
  intro i hi
  refine ⟨_, _, rfl, ?_⟩
  rw [Nat.zero_add, Joins.cell_of_block (heap_alloc_last w _)]
  match i, hi with
  | 0, _ => rfl
  | 1, _ => rfl
  | 2, _ => rfl
  | 3, _ => rfl

theorem aw_was (w : World) (o : Obj) : Bls ((w.alloc (.cells #[.bool true, .bool false] 4)).alloc o) (some ⟨w.heap.size, 0, none⟩) [true, false] := by
  intro i b hi
  refine ⟨_, _, rfl, by simp; omega, ?_⟩
  rw [Nat.zero_add, Joins.cell_of_block ((Below.heap_alloc _ _ _ (by simp)).trans (heap_alloc_last w _))]
  match i, hi with
  | 0, hi => simpa using hi
  | 1, hi => simpa using hi
theorem aw_now (w : World) : Bls (w.alloc (.cells #[.bool true, .bool true, .bool true] 4)) (some ⟨w.heap.size, 0, none⟩) [true, true, true] := by
  intro i b hi
  refine ⟨_, _, rfl, by simp, ?_⟩
  rw [Nat.zero_add, Joins.cell_of_block (heap_alloc_last w _)]
  match i, hi with
  | 0, hi => simpa using hi
  | 1, hi => simpa using hi
  | 2, hi => simpa using hi
theorem edge_v {A B : Option Addr} {was now : List Bool} {nw nn cw cn : Nat} {l : List Nat} {w : World} (he : edges was now = l) (hw : was.length = nw) (hn : now.length = nn) (hl : nn ≤ 1000) (hW : Bls w A was) (hA : Bls w B now) :
    Calls Try.prog 16 #[.slice A nw cw, .slice B nn cn] w fun e w' => ∃ A' c', e = .returned (.slice A' l.length c') ∧ Ins w' A' l ∧ Below w.heap.size w w' := by
  subst he
  refine (edge_c A B nw cw nn cn was now hw hn hl w hW hA).mono ?_
  rintro e w' ⟨v, rfl, h1, hb⟩
  obtain ⟨A', c', rfl, h2⟩ := ins_of h1
  exact ⟨A', c', rfl, h2, hb⟩
theorem find_v {A : Option Addr} {n cp : Nat} {L : List R} {c : Int} {r : R} {b : Bool} (hg : got c L = r ∧ has c L = b) (hn : n ≤ 1000) {w : World} {base : Nat} (h : Lst w base A n cp L) :
    Calls Try.prog 13 #[.slice A n cp, .int .i64 c] w fun e w' => e = .returned (.tuple #[.agg (rcs r), .bool b]) ∧ Below w.heap.size w w' := by
  obtain ⟨rfl, rfl⟩ := hg
  exact find_c A n cp L c hn w base h

set_option maxRecDepth 100000 in
set_option maxHeartbeats 4000000 in
theorem awake_c (w : World) : Calls Try.prog 9 #[] w fun e w' => e = .returned (.bool true) ∧ Below w.heap.size w w' := by
  have H1 := Lib.hid (raised_c (some ⟨w.heap.size, 0, none⟩) [5, 5, 9, 5] 4 4 rfl (by decide) _ (aw_ints w))
  have HB : Hid (Below w.heap.size w (w.alloc (.cells #[.int .i64 5, .int .i64 5, .int .i64 9, .int .i64 5] 3))) := (Below.refl _ _).alloc (Nat.le_refl _) _
  go_enter Try.func9, Try.ntmps9
  go_wp2_with fail
  refine H1.out.mono ?_
  rintro e W1 ⟨A1, m1, c1, rfl, h1, hb1⟩
  rw [show ([5, 5, 9, 5] : List Int).take 100 = [5, 5, 9, 5] from rfl, aw_list] at h1
  obtain rfl : m1 = 2 := by have := h1.len; simpa using this.symm
  have HQ := Lib.hid h1
  replace HB := Lib.hid (HB.out.trans (hb1.mono (by simp)))
  clear h1 hb1 H1
  go_wp2_with fail
  have HE := Lib.hid (edge_v (cw := 2) (cn := 3) aw_edges rfl rfl (by decide) (aw_was W1 (.cells #[.bool true, .bool true, .bool true] 4)) (by have := aw_now (W1.alloc (.cells #[.bool true, .bool false] 4)); rwa [World.size_alloc] at this))
  refine HE.out.mono ?_
  rintro e W2 ⟨A2, c2, rfl, h2, hb2⟩
  have hb3 : Below W1.heap.size W1 W2 := (below_two W1 _ _).trans (hb2.mono (by simp; omega))
  replace HQ := Lib.hid (HQ.out.below hb3)
  replace HB := Lib.hid (HB.out.trans (hb3.mono HB.out.size))
  have HI := Lib.hid h2
  clear h2 hb2 hb3 HE
  go_wp2_with fail
  refine (find_v aw_got (by decide) HQ.out).mono ?_
  rintro e W3 ⟨rfl, hb3⟩
  have hs := HB.out.size
  have hb4 : Below W2.heap.size W2 (W3.alloc (.cells (rcs ⟨9, 1, false⟩) 30)) := hb3.trans (((Below.refl _ _).alloc (Nat.le_refl _) _).mono hb3.size)
  replace HQ := Lib.hid (HQ.out.below hb4)
  replace HI := Lib.hid (HI.out.below hb4)
  replace HB := Lib.hid (HB.out.trans (hb4.mono HB.out.size))
  clear hb3 hb4
  obtain ⟨g1, o1, rfl, _, q0⟩ := HQ.out.rcs 0 _ rfl
  obtain ⟨g1', o1', e1, _, q1⟩ := HQ.out.rcs 1 _ rfl
  injection e1 with e1
  injection e1 with e1 e2
  subst e1; subst e2
  obtain ⟨g2, rfl, _, i0⟩ := HI.out 0 _ rfl
  obtain ⟨g2', e1, _, i1⟩ := HI.out 1 _ rfl
  injection e1 with e1
  injection e1 with e1
  subst e1
  obtain ⟨x0, x1, x2⟩ := rc_cells q0
  obtain ⟨y0, y1, y2⟩ := rc_cells q1
  simp only [Nat.zero_mul, Nat.add_zero, Nat.one_mul] at x0 x1 x2 y0 y1 y2
  have E1 := eq_r ⟨5, 3, true⟩ ⟨5, 3, true⟩
  have E2 := eq_r ⟨9, 1, false⟩ ⟨9, 1, false⟩
  simp only [rcs, decide_true] at E1 E2
  have z0 : (W3.alloc (.cells (rcs ⟨9, 1, false⟩) 30)).cell? ⟨W3.heap.size, 0, none⟩ = some (.int .i64 9) := Joins.cell_of_block (heap_alloc_last W3 _) 0
  have z1 : (W3.alloc (.cells (rcs ⟨9, 1, false⟩) 30)).cell? ⟨W3.heap.size, 1, none⟩ = some (.int .i64 1) := Joins.cell_of_block (heap_alloc_last W3 _) 1
  have z2 : (W3.alloc (.cells (rcs ⟨9, 1, false⟩) 30)).cell? ⟨W3.heap.size, 2, none⟩ = some (.bool false) := Joins.cell_of_block (heap_alloc_last W3 _) 2
  have C1 : Hid (∀ W, Calls Try.prog 18 #[.int .i64 1, .int .i64 2] W fun e w' => e = .returned (.int .i64 19) ∧ w' = W) := fun W => (code_c 1 2 W).mono fun _ _ h => ⟨h.1, h.2.symm⟩
  have C2 : Hid (∀ W, Calls Try.prog 18 #[.int .i64 2, .int .i64 0] W fun e w' => e = .returned (.int .i64 0) ∧ w' = W) := fun W => (code_c 2 0 W).mono fun _ _ h => ⟨h.1, h.2.symm⟩
  clear q0 q1 hs
  go_wp2_with fail
  obtain ⟨W4, hW4⟩ : ∃ W4, W3.alloc (.cells (rcs ⟨9, 1, false⟩) 30) = W4 := ⟨_, rfl⟩
  rw [hW4] at HB x0 x1 x2 y0 y1 y2 z0 z1 z2 i0 i1
  change Code.wp _ _ _ _ (W3.alloc (.cells (rcs ⟨9, 1, false⟩) 30))
  rw [hW4]
  clear hW4 HQ HI
  go_quiet (first
    | (go_at_call 18; (with_reducible exact Calls.quiet_of_same (C1.out _)))
    | (go_at_call 18; (with_reducible exact Calls.quiet_of_same (C2.out _))) | fail)
  go_wp2_with fail
  go_ret
  exact ⟨rfl, below_n HB.out _⟩
end Fw
end Go.Proofs.Ytddkmaplficofaa
