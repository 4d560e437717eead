/- Contracts of a Sum's calls: the once, New, More, Of, Many. -/
import Derived.Test.YtegjkbebnnpdcaaCrcSum
import Derived.Laws.NewBlocks
namespace Go.Proofs.Ytegjkbebnnpdcaa
namespace Crc
open Go.RowKit

set_option maxRecDepth 100000 in
set_option maxHeartbeats 1600000 in
theorem slow_c (b : Nat) (T : Nat → Nat) (n : Nat) (w : World) (h : Row w b 0 0 T n) :
    Calls Try.prog 38 #[.pointer (some ⟨b, 0, none⟩), .func (.func 35) #[.pointer (some ⟨b, 0, none⟩)] #[]] w fun e w' => e = .returned (.tuple #[]) ∧ Row w' b 1 0 (Cr.byt 0) n ∧ Off b w w' := by
  have HR := Lib.hid h
  have hnot : ∀ (x : Bool) (w : World), (Op.unary .not (.bool x)).run Try.prog w = .ok (.bool (!x)) w := fun _ _ => rfl
  clear h
  go_enter_defers Try.func38, Try.ntmps38
  go_wp2_with fail
  refine (Sy.lock b 1 _ HR.out.c1 (HR.out.frozen 1)).mono ?_
  rintro e w' ⟨rfl, hw⟩
  replace HR : Hid (Row w' b 0 1 T n) := Lib.hid (hw ▸ HR.out.s1 1)
  have HO : Hid (Off b w w') := Lib.hid (hw ▸ (Off.refl b w).set 1 _)
  clear hw
  go_wp2_with fail
  refine (Sy.bload b 0 _ _ HR.out.c0).mono ?_
  rintro e w2 ⟨rfl, rfl⟩
  go_wp2_with fail
  refine (fill_c b 0 1 T n _ HR.out).mono ?_
  rintro e w3 ⟨rfl, hr, ho⟩
  replace HR := Lib.hid hr
  replace HO := Lib.hid (HO.out.trans ho)
  clear hr ho
  go_wp2_with fail
  refine leaves_cons (f := 43) (args := #[.pointer (some ⟨b, 0, none⟩), .bool true]) (by simp) (by simp [go_sem]) ?_
  refine (Sy.store_deferred b 0 _ .returning _ HR.out.c0 (HR.out.frozen 0)).mono ?_
  rintro e u' w4 ⟨rfl, rfl, hw⟩
  replace HR : Hid (Row w4 b 1 1 (Cr.byt 0) n) := Lib.hid (hw ▸ HR.out.drew.s0 1)
  replace HO : Hid (Off b w w4) := Lib.hid (hw ▸ HO.out.drew.set 0 _)
  clear hw
  refine leaves_cons (f := 42) (args := #[.pointer (some ⟨b, 1, none⟩)]) (by simp [settle]) (by simp [go_sem]) ?_
  refine (Sy.unlock_deferred b 1 _ _ HR.out.c1 (HR.out.frozen 1)).mono ?_
  rintro e u' w5 ⟨rfl, rfl, hw⟩
  replace HR : Hid (Row w5 b 1 0 (Cr.byt 0) n) := Lib.hid (hw ▸ HR.out.s1 0)
  replace HO : Hid (Off b w w5) := Lib.hid (hw ▸ HO.out.set 1 _)
  clear hw
  have HZ : Hid (Row w5 b 1 0 (Cr.byt 0) n ∧ Off b w w5) := ⟨HR.out, HO.out⟩
  simp [Leaves, settle, results, Try.results38]
  exact HZ.out

/-- A Sum that was asked n times, and is whole: its once is done and its table made, or neither. -/
structure Is (w : World) (b n : Nat) : Prop where
  row : ∃ (d : Int) (T : Nat → Nat), Row w b d 0 T n ∧ (d = 0 ∨ (d = 1 ∧ ∀ i, i < 256 → T i = Cr.byt 0 i))
  few : n < 4611686018427387904
theorem Is.lt {w : World} {b n : Nat} (h : Is w b n) : b < w.heap.size := by
  obtain ⟨d, T, hr, _⟩ := h.row
  exact hr.lt
theorem Is.of_block {w w' : World} {b n : Nat} (h : Is w b n) (e : w'.heap[b]? = w.heap[b]?) : Is w' b n := by
  obtain ⟨d, T, hr, hh⟩ := h.row
  exact ⟨⟨d, T, World.rowIs.of_block hr e, hh⟩, h.few⟩

set_option maxHeartbeats 1600000 in
theorem do_c (b : Nat) (d : Int) (T : Nat → Nat) (n : Nat) (w : World) (h : Row w b d 0 T n) (hd : d = 0 ∨ (d = 1 ∧ ∀ i, i < 256 → T i = Cr.byt 0 i)) :
    Calls Try.prog 34 #[.pointer (some ⟨b, 0, none⟩), .func (.func 35) #[.pointer (some ⟨b, 0, none⟩)] #[]] w fun e w' => e = .returned (.tuple #[]) ∧ Row w' b 1 0 (Cr.byt 0) n ∧ Off b w w' := by
  have hnot : ∀ (x : Bool) (w : World), (Op.unary .not (.bool x)).run Try.prog w = .ok (.bool (!x)) w := fun _ _ => rfl
  have HR := Lib.hid h
  clear h
  rcases hd with rfl | ⟨rfl, hT⟩
  · go_enter Try.func34, Try.ntmps34
    go_wp2_with fail
    refine (Sy.bload b 0 _ _ HR.out.c0).mono ?_
    rintro e w2 ⟨rfl, rfl⟩
    go_wp2_with fail
    refine (slow_c b T n _ HR.out).mono ?_
    rintro e w3 ⟨rfl, hr, ho⟩
    have HZ := Lib.hid (And.intro hr ho)
    clear hr ho
    go_wp2_with fail
    go_end0
    exact ⟨rfl, HZ.out⟩
  · have HT := Lib.hid hT
    clear hT
    go_enter Try.func34, Try.ntmps34
    go_wp2_with fail
    refine (Sy.bload b 0 _ _ HR.out.c0).mono ?_
    rintro e w2 ⟨rfl, rfl⟩
    go_wp2_with fail
    go_end0
    exact ⟨rfl, HR.out.tab HT.out, Off.refl _ _⟩
end Crc
end Go.Proofs.Ytegjkbebnnpdcaa
