/- 'awake' of layer 4's statements answers true, and leaves all that lay. -/
import Derived.Test.YtegjkbebnnpdcaaCrcRef
import Derived.Lib.SmallJoins
namespace Go.Proofs.Ytegjkbebnnpdcaa
namespace Crc
open Go.RowKit

/-- A Sum of the call's own, behind block m; all below m is as it was. -/
structure Own (m b n : Nat) (w W : World) : Prop where
  is : Is W b n
  le : m ≤ b
  old : Below m w W
theorem Own.step {m b n n' : Nat} {w W W' : World} (h : Own m b n w W) (hi : Is W' b n') (ho : Off b W W') : Own m b n' w W' := ⟨hi, h.le, h.old.trans (ho.below h.le)⟩
theorem Own.alloc {m b n : Nat} {w W : World} (h : Own m b n w W) (o : Obj) : Own m b n w (W.alloc o) :=
  ⟨h.is.of_block (Below.heap_alloc W o b h.is.lt), h.le, h.old.alloc (Nat.le_trans h.le (Nat.le_of_lt h.is.lt)) o⟩
theorem Own.drew {m b n : Nat} {w W : World} (h : Own m b n w W) : Own m b n w W.drew := ⟨h.is.of_block rfl, h.le, h.old.drew⟩
theorem Own.new (w : World) : Own w.heap.size w.heap.size 0 w (w.alloc (.cells Z 72)) := ⟨new_is w, Nat.le_refl _, (Below.refl _ _).alloc (Nat.le_refl _) _⟩

theorem nums_bytes : Cr.Bytes [49, 50, 51, 52, 53, 54, 55, 56, 57] := by unfold Cr.Bytes; decide
theorem nums_more : Cr.more 65535 [49, 50, 51, 52, 53, 54, 55, 56, 57] = 10673 := by decide +kernel
theorem none_bytes : Cr.Bytes [] := by unfold Cr.Bytes; simp
theorem none_at (w : World) (b : Nat) (A : Option Addr) : BytesAt w b A [] := fun i hi => by simp at hi

/-- Bytes in a block of their own. -/
theorem bytes_new {W : World} {b : Nat} {l : List Nat} {t : Nat} (fr : Nat × Nat) (hb : b < W.heap.size) (C : Array Value) (hC : C = (l.map fun v : Nat => Value.int .u8 (v : Int)).toArray) : BytesAt (W.alloc (.cells C t fr)) b (some ⟨W.heap.size, 0, none⟩) l := by
  subst hC
  intro i hi
  refine ⟨W.heap.size, 0, rfl, by omega, ?_⟩
  rw [Nat.zero_add, World.cell?_alloc_mark]
  simp [hi]

theorem of_nums (b n : Nat) (A : Option Addr) (w : World) (h : Is w b n) (hn : n + 1 < 4611686018427387904) (hA : BytesAt w b A [49, 50, 51, 52, 53, 54, 55, 56, 57]) :
    Calls Try.prog 27 #[.pointer (some ⟨b, 0, none⟩), .slice A 9 9] w fun e w' => e = .returned (.int .u16 10673) ∧ Is w' b (n + 1) ∧ Off b w w' := by
  have := of_c b n A _ 9 w nums_bytes (by decide) h hn hA
  rwa [nums_more] at this
theorem of_nil (b n : Nat) (w : World) (h : Is w b n) (hn : n + 1 < 4611686018427387904) :
    Calls Try.prog 27 #[.pointer (some ⟨b, 0, none⟩), .slice none 0 0] w fun e w' => e = .returned (.int .u16 65535) ∧ Is w' b (n + 1) ∧ Off b w w' :=
  of_c b n none [] 0 w none_bytes (by decide) h hn (none_at _ _ _)
theorem more_nil (s b n : Nat) (hs : s < 65536) (w : World) (h : Is w b n) (hn : n + 1 < 4611686018427387904) :
    Calls Try.prog 30 #[.pointer (some ⟨b, 0, none⟩), .int .u16 s, .slice none 0 0] w fun e w' => e = .returned (.int .u16 s) ∧ Is w' b (n + 1) ∧ Off b w w' :=
  more_c b n s none [] 0 w hs none_bytes (by decide) h hn (none_at _ _ _)