/- The walk of PickAll. -/
import Derived.Test.YtcbnfpnlkjkgaaaPickAllC
namespace Go.Proofs.Ytcbnfpnlkjkgaaa
namespace Pw
open Go.RowKit Pc Lk FixC

section
variable {ops : Array Oper} {rest : List Oper} {op : Oper} {a : Act} {w : World} {Q : Exit → Act → World → Prop}
/-- Arrays of five, loaded and stored as a whole. -/
theorem ldi (hw : Region.wanted op (yielded ops a.tmps) = true) (x : Operand) (ho : op.op = .load 26 x)
    (b : Nat) (f : Nat → Int) (hx : a.eval x = .pointer (some ⟨b, 0, none⟩)) (hP : w.heap[b]? = some (io f))
    (c : wpList Try.prog ops Q rest (a.put op.dst (.agg (i5 f))) w) : wpList Try.prog ops Q (op :: rest) a w :=
  Lk.wanted hw fun _ hK => wp_load_row 26 x ho b hx 26 (i5 f) (0, 0) _ hP Try.underlying26 rfl info_i5 (hK _ _ c)
theorem ldg (hw : Region.wanted op (yielded ops a.tmps) = true) (x : Operand) (ho : op.op = .load 27 x)
    (b : Nat) (f : Nat → Bool) (hx : a.eval x = .pointer (some ⟨b, 0, none⟩)) (hP : w.heap[b]? = some (go f))
    (c : wpList Try.prog ops Q rest (a.put op.dst (.agg (g5 f))) w) : wpList Try.prog ops Q (op :: rest) a w :=
  Lk.wanted hw fun _ hK => wp_load_row 27 x ho b hx 27 (g5 f) (0, 0) _ hP Try.underlying27 rfl info_g5 (hK _ _ c)
theorem sti (hgd : op.guard = none) (x y : Operand) (ho : op.op = .store 26 x y) (hd : op.dst = none)
    (g : Nat) (q p : Nat → Int) (hx : a.eval x = .pointer (some ⟨g, 0, none⟩)) (hy : a.eval y = .agg (i5 p)) (hP : w.heap[g]? = some (io q))
    (h : ∀ w', w'.heap[g]? = some (io p) → Off g w w' → wpList Try.prog ops Q rest a w') : wpList Try.prog ops Q (op :: rest) a w := by
  refine wpList_plain hgd fun _ hK => wp_store_row 26 x y ho g (i5 p) hx hy 26 (i5 q) hP info_i5 rfl (i5_one p) (hK _ _ ?_)
  rw [hd]
  exact h _ (setRow_heap w g (i5 q) (i5 p) 26 (0, 0) hP) (Off.row w g _)
end
abbrev Arr (b0 b1 b2 b3 b4 b5 : Nat) (A B : Nat → Int) (G H : Nat → Bool) (M N : Nat → Int) : List (Nat × Obj) :=
  [(b5, io N), (b4, io M), (b3, go H), (b2, go G), (b1, io B), (b0, io A)]
theorem arr (w : World) (A B : Nat → Int) (G H : Nat → Bool) (M N : Nat → Int) :
    Hv w ((((((w.alloc (io A)).alloc (io B)).alloc (go G)).alloc (go H)).alloc (io M)).alloc (io N)) (Arr w.heap.size (w.heap.size + 1) (w.heap.size + 2) (w.heap.size + 3) (w.heap.size + 4) (w.heap.size + 5) A B G H M N) := by
  have h := ((((((Hv.nil w).made (io A)).made (io B)).made (go G)).made (go H)).made (io M)).made (io N)
  simp only [World.size_alloc] at h
  exact h
theorem h5 {w W : World} {e1 e2 e3 e4 e5 : Nat × Obj} {L : List (Nat × Obj)} (h : Hv w W (e1 :: e2 :: e3 :: e4 :: e5 :: L)) : W.heap[e5.1]? = some e5.2 := h.tail.h4
theorem h6 {w W : World} {e1 e2 e3 e4 e5 e6 : Nat × Obj} {L : List (Nat × Obj)} (h : Hv w W (e1 :: e2 :: e3 :: e4 :: e5 :: e6 :: L)) : W.heap[e6.1]? = some e6.2 := h.tail.tail.h4

set_option maxRecDepth 100000 in
set_option maxHeartbeats 4000000 in
theorem PickAll_walk (A B : Nat → Int) (G H : Nat → Bool) (M N : Nat → Int) (w : World) :
    Calls Try.prog 5 #[.agg (i5 A), .agg (i5 B), .agg (g5 G), .agg (g5 H), .agg (i5 M), .agg (i5 N)] w fun e w' => e = .returned (.bool true) ∧ Below w.heap.size w w' := by
  have HV := Lib.hid (arr w A B G H M N)
  obtain ⟨P, eP⟩ : ∃ P : Nat → Int, (fun k => (pick (A k) (B k) (G k) (H k) (M k) (N k)).1) = P := ⟨_, rfl⟩
  obtain ⟨F, eF⟩ : ∃ F : Nat → Int, (fun k => (pick (A k) (B k) (G k) (H k) (M k) (N k)).2) = F := ⟨_, rfl⟩
  have C := Lib.hid (fun W => all_c A B G H M N W)
  have CP := Lib.hid (fun k W => rpick_c (A k) (B k) (G k) (H k) (M k) (N k) W)
  replace CP : Hid (∀ k W, Calls Try.prog 11 #[.int .i64 (A k), .int .i64 (B k), .bool (G k), .bool (H k), .int .i64 (M k), .int .i64 (N k)] W fun e w' => e = .returned (.tuple #[.int .i64 (P k), .int .i64 (F k)]) ∧ W = w') := by
    subst eP eF
    exact CP.out
  rw [eP, eF] at C
  clear eP eF
  go_enter Try.func5, Try.ntmps5
  go_wp2_with (first
    | (go_at_call 9; refine (awake_c _).mono ?_; rintro e W ⟨rfl, hb⟩; replace HV := Lib.hid (HV.out.grow hb); clear hb)
    | (refine ldi rfl _ rfl _ _ rfl (h6 HV.out) ?_)
    | (refine ldi rfl _ rfl _ _ rfl (h5 HV.out) ?_)
    | (refine ldg rfl _ rfl _ _ rfl HV.out.h4 ?_)
    | (refine ldg rfl _ rfl _ _ rfl HV.out.h3 ?_)
    | (refine ldi rfl _ rfl _ _ rfl HV.out.h2 ?_)
    | (refine ldi rfl _ rfl _ _ rfl HV.out.head ?_)
    | (go_at_call 12; (with_reducible refine (C.out _).mono ?_); rintro e W1 ⟨rfl, hb⟩; replace HV := Lib.hid (HV.out.grow hb); clear hb C)
    | fail)
  replace HV : Hid (Hv w ((W1.alloc (io P)).alloc (io F)) ((W1.heap.size + 1, io F) :: (W1.heap.size, io P) :: Arr w.heap.size (w.heap.size + 1) (w.heap.size + 2) (w.heap.size + 3) (w.heap.size + 4) (w.heap.size + 5) A B G H M N)) := by
    have h := (HV.out.made (io P)).made (io F)
    simp only [World.size_alloc] at h
    exact h
  generalize e5 : w.heap.size + 1 + 1 + 1 + 1 + 1 = b5
  generalize e4 : w.heap.size + 1 + 1 + 1 + 1 = b4
  generalize e3 : w.heap.size + 1 + 1 + 1 = b3
  generalize e2 : w.heap.size + 1 + 1 = b2
  generalize e1 : w.heap.size + 1 = b1
  generalize e0 : w.heap.size = b0
  generalize e7 : W1.heap.size + 1 = b7
  generalize e6 : W1.heap.size = b6
  replace HV : Hid (Hv w ((W1.alloc (io P)).alloc (io F)) ((b7, io F) :: (b6, io P) :: Arr b0 b1 b2 b3 b4 b5 A B G H M N)) := by
    subst e0 e1 e2 e3 e4 e5 e6 e7
    exact HV.out
  clear e0 e1 e2 e3 e4 e5 e6 e7
  go_loopw [16] (fun i wr => ∃ k : Nat, k ≤ 5 ∧ i = .int .i64 k ∧ Hv w wr ((b7, io F) :: (b6, io P) :: Arr b0 b1 b2 b3 b4 b5 A B G H M N)) (fun i _ => 5 - (intOf i).toNat)
  case atStart => exact ⟨0, by decide, rfl, HV.out⟩
  case round =>
    obtain ⟨k, hk, rfl, hv⟩ := hrel
    clear HV
    have HV := Lib.hid hv
    clear hv
    by_cases hlt : k < 5
    · have i1 : (0 : Int) ≤ (k : Int) := by omega
      have i2 : (k : Int) < 5 := by omega
      have S6 : Hid (∀ V, Hv w V ((b7, io F) :: (b6, io P) :: Arr b0 b1 b2 b3 b4 b5 A B G H M N) → Six V b0 b1 b2 b3 b4 b5 k A B G H M N) := fun V h => ⟨cell_i (h6 h.tail.tail) hlt, cell_i (h5 h.tail.tail) hlt, cell_g h.tail.tail.h4 hlt, cell_g h.tail.tail.h3 hlt, cell_i h.tail.tail.h2 hlt, cell_i h.tail.tail.head hlt⟩
      have c1 := cell_i HV.out.h2 hlt
      have c2 := cell_i HV.out.head hlt
      go_upto_region 6 with fail
      go_region_held3 (fun V => Six V b0 b1 b2 b3 b4 b5 k A B G H M N) (first | exact S6.out _ HV.out | exact S6.out _ HV.out.drew | fail)
        (first | (go_at_call 11; (with_reducible refine (CP.out k _).mono ?_); rintro e Wn ⟨rfl, rfl⟩) | fail)
      all_goals
        go_wp2_with fail
        go_roundw
        case rel => exact ⟨k + 1, by omega, by go_num, HV.out.drew⟩
        case measure => simp [intOf]; omega
    · obtain rfl : k = 5 := by omega
      go_wp2_with fail
      go_ret
      exact ⟨rfl, HV.out.old⟩
end Pw
end Go.Proofs.Ytcbnfpnlkjkgaaa
