/- 'awake' of layer 4's statements answers true, and leaves all that lay. -/
import Derived.Test.YtikpmiphjaciiaaCrcRef
import Derived.Lib.SmallJoins
namespace Go.Proofs.Ytikpmiphjaciiaa
namespace Crc
open Go.RowKit

/-- A Sum of the call's own, behind block m; all below m is as it was. -/
structure Own (m b n : Nat) (w W : World) : Prop where
  is : Is W b n
  le : m ≤ b
  old : Below m w W
theorem Own.step {m b n n' : Nat} {w W W' : World} (h : Own m b n w W) (hi : Is W' b n') (ho : Off b W W') : Own m b n' w W' := ⟨hi, h.le, h.old.trans (ho.below h.le)⟩
theorem Own.alloc {m b n : Nat} {w W : World} (h : Own m b n w W) (o : Obj) : Own m b n w (W.alloc o) :=
  ⟨h.is.of_block (Below.heap_alloc W o b h.is.lt), h.le, h.old.alloc (Nat.le_trans h.le (Nat.le_of_lt h.is.lt)) o⟩
theorem Own.drew {m b n : Nat} {w W : World} (h : Own m b n w W) : Own m b n w W.drew := ⟨h.is.of_block rfl, h.le, h.old.drew⟩
theorem Own.new (w : World) : Own w.heap.size w.heap.size 0 w (w.alloc (.cells Z 55)) := ⟨new_is w, Nat.le_refl _, (Below.refl _ _).alloc (Nat.le_refl _) _⟩

theorem nums_bytes : Cr.Bytes [49, 50, 51, 52, 53, 54, 55, 56, 57] := by unfold Cr.Bytes; decide
theorem nums_more : Cr.more 65535 [49, 50, 51, 52, 53, 54, 55, 56, 57] = 10673 := by decide +kernel
theorem none_bytes : Cr.Bytes [] := by unfold Cr.Bytes; simp
theorem none_at (w : World) (b : Nat) (A : Option Addr) : BytesAt w b A [] := fun i hi => by simp at hi

/-- Bytes in a block of their own. -/
theorem bytes_new {W : World} {b : Nat} {l : List Nat} {t : Nat} (fr : Nat × Nat) (hb : b < W.heap.size) (C : Array Value) (hC : C = (l.map fun v : Nat => Value.int .u8 (v : Int)).toArray) : BytesAt (W.alloc (.cells C t fr)) b (some ⟨W.heap.size, 0, none⟩) l := by
  subst hC
  intro i hi
  refine ⟨W.heap.size, 0, rfl, by omega, ?_⟩
  rw [Nat.zero_add, World.cell?_alloc_mark]
  simp [hi]

theorem of_nums (b n : Nat) (A : Option Addr) (w : World) (h : Is w b n) (hn : n + 1 < 4611686018427387904) (hA : BytesAt w b A [49, 50, 51, 52, 53, 54, 55, 56, 57]) :
    Calls Try.prog 13 #[.pointer (some ⟨b, 0, none⟩), .slice A 9 9] w fun e w' => e = .returned (.int .u16 10673) ∧ Is w' b (n + 1) ∧ Off b w w' := by
  have := of_c b n A _ 9 w nums_bytes (by decide) h hn hA
  rwa [nums_more] at this
theorem of_nil (b n : Nat) (w : World) (h : Is w b n) (hn : n + 1 < 4611686018427387904) :
    Calls Try.prog 13 #[.pointer (some ⟨b, 0, none⟩), .slice none 0 0] w fun e w' => e = .returned (.int .u16 65535) ∧ Is w' b (n + 1) ∧ Off b w w' :=
  of_c b n none [] 0 w none_bytes (by decide) h hn (none_at _ _ _)
theorem more_nil (s b n : Nat) (hs : s < 65536) (w : World) (h : Is w b n) (hn : n + 1 < 4611686018427387904) :
    Calls Try.prog 11 #[.pointer (some ⟨b, 0, none⟩), .int .u16 s, .slice none 0 0] w fun e w' => e = .returned (.int .u16 s) ∧ Is w' b (n + 1) ∧ Off b w w' :=
  more_c b n s none [] 0 w hs none_bytes (by decide) h hn (none_at _ _ _)

set_option maxRecDepth 100000 in
set_option maxHeartbeats 1600000 in
theorem awake_c (w : World) : Calls Try.prog 9 #[] w fun e w' => e = .returned (.bool true) ∧ Below w.heap.size w w' := by
  have HN := Lib.hid (Own.new w)
  go_enter Try.func9, Try.ntmps9
  go_wp2_with fail
  refine (new_c _).mono ?_
  rintro e w1 ⟨rfl, hw⟩
  rw [← hw] at HN
  clear hw
  generalize hq : w.heap.size = b at *
  have HQ := Lib.hid hq
  clear hq
  have HB : Hid (BytesAt (w1.alloc (.cells #[.int .u8 49, .int .u8 50, .int .u8 51, .int .u8 52, .int .u8 53, .int .u8 54, .int .u8 55, .int .u8 56, .int .u8 57] 5 (9, 10))) b (some ⟨w1.heap.size, 0, none⟩) [49, 50, 51, 52, 53, 54, 55, 56, 57]) := bytes_new _ HN.out.is.lt _ rfl
  replace HN := Lib.hid (HN.out.alloc (.cells #[.int .u8 49, .int .u8 50, .int .u8 51, .int .u8 52, .int .u8 53, .int .u8 54, .int .u8 55, .int .u8 56, .int .u8 57] 5 (9, 10)))
  have hcv := Joins.run_convert_bytes_const_at (P := Try.prog) w1 23 5 #[.int .u8 49, .int .u8 50, .int .u8 51, .int .u8 52, .int .u8 53, .int .u8 54, .int .u8 55, .int .u8 56, .int .u8 57] 9 9 w1.heap.size rfl Try.underlying23 Try.underlying5
  rw [show (#[Value.int .u8 49, .int .u8 50, .int .u8 51, .int .u8 52, .int .u8 53, .int .u8 54, .int .u8 55, .int .u8 56, .int .u8 57]).size = 9 from rfl] at hcv
  go_wp2_with fail
  clear hcv
  refine (of_nums b 0 _ _ HN.out.is (by decide) HB.out).mono ?_
  rintro e w2 ⟨rfl, hi, ho⟩
  replace HN := Lib.hid (HN.out.step hi ho)
  clear hi ho HB
  go_wp2_with fail
  refine (of_nil b _ _ HN.out.is (by decide)).mono ?_
  rintro e w3 ⟨rfl, hi, ho⟩
  replace HN := Lib.hid (HN.out.step hi ho)
  clear hi ho
  go_wp2_with fail
  refine (many_c b _ _ HN.out.is).mono ?_
  rintro e w4 ⟨rfl, rfl⟩
  go_wp2_with fail
  refine (more_nil 7 b _ (by decide) _ HN.out.is (by decide)).mono ?_
  rintro e w5 ⟨rfl, hi, ho⟩
  replace HN := Lib.hid (HN.out.step hi ho)
  clear hi ho
  go_wp2_with fail
  refine (many_c b _ _ HN.out.is).mono ?_
  rintro e w6 ⟨rfl, rfl⟩
  go_wp2_with fail
  go_ret
  exact ⟨rfl, by rw [HQ.out]; exact HN.out.old⟩
end Crc
end Go.Proofs.Ytikpmiphjaciiaa
