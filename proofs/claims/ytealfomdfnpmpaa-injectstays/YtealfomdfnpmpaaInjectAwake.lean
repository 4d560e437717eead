/- The calls whose answers the document fixes: awake. -/
import Derived.Test.YtealfomdfnpmpaaInjectApply
namespace Go.Proofs.Ytealfomdfnpmpaa
namespace Jw
open Go.RowKit Nj

/-- One fault, in a block of its own. -/
theorem Blk.one {W : World} {g : Nat} {k s f l : Int} (h : Blk W g k s f l) : Fls W (some ⟨g, 0, none⟩) [⟨k, s, f, l⟩] :=
  ⟨(by decide : (1 : Nat) ≤ 9223372036854775807), fun i hi => by
    obtain rfl : i = 0 := by have : i < 1 := hi; omega
    exact ⟨g, 0, rfl, h.lt, fun j v hv => by rw [show 0 + 0 * 4 + j = j from by omega]; exact (Joins.cell_of_block h j).trans (by simpa using hv)⟩⟩
theorem Fls.none_ (W : World) (A : Option Addr) : Fls W A [] := ⟨(by decide : (0 : Nat) ≤ 9223372036854775807), fun i hi => by cases hi⟩

/-- What awake carries: two faults in blocks of their own, all that lay. -/
structure Tf (w W : World) (g h : Nat) : Prop where
  a : Blk W g 1 5 0 3
  b : Blk W h 2 0 0 3
  old : Below w.heap.size w W
theorem Tf.grow {w W W' : World} {g h : Nat} (t : Tf w W g h) (hb : Below W.heap.size W W') : Tf w W' g h := ⟨t.a.grow hb, t.b.grow hb, t.old.trans (hb.mono t.old.size)⟩

theorem ap_1 : ap [⟨1, 5, 0, 3⟩] 2 7 100 = 105 := by decide
theorem ap_2 : ap [⟨1, 5, 0, 3⟩] 3 7 100 = 100 := by decide
theorem ap_3 : ap [⟨2, 0, 0, 3⟩] 0 7 100 = 7 := by decide
theorem ap_4 : ap [] 0 0 1048576 = 65535 := by decide
theorem apply_v {A : Option Addr} {n cp : Nat} {L : List Flt} {fr la c v : Int} (hv : ap L fr la c = v) (hn : L.length = n) (w : World) (hA : Fls w A L) :
    Calls Try.prog 13 #[.slice A n cp, .int .i64 fr, .int .i64 la, .int .i64 c] w fun e w' => e = .returned (.int .i64 v) ∧ Below w.heap.size w w' := hv ▸ apply_c A n cp L fr la c hn w hA
theorem on_v {k s f l fr : Int} {v : Bool} (hv : onB ⟨k, s, f, l⟩ fr = v) (w : World) : Calls Try.prog 11 #[.agg (fc k s f l), .int .i64 fr] w fun e w' => e = .returned (.bool v) ∧ Below w.heap.size w w' := hv ▸ on_c k s f l fr w
theorem check_v {k s f l v : Int} (hv : err ⟨k, s, f, l⟩ = v) (w : World) : Calls Try.prog 9 #[.agg (fc k s f l)] w fun e w' => e = .returned (.int .i64 v) ∧ Below w.heap.size w w' := hv ▸ check_c k s f l w

set_option maxRecDepth 100000 in
set_option maxHeartbeats 4000000 in
theorem awake_c (w : World) : Calls Try.prog 8 #[] w fun e w' => e = .returned (.bool true) ∧ Below w.heap.size w w' := by
  have C1 : Hid (∀ W g h, Tf w W g h → Calls Try.prog 13 #[.slice (some ⟨g, 0, none⟩) 1 1, .int .i64 2, .int .i64 7, .int .i64 100] W fun e w' => e = .returned (.int .i64 105) ∧ Below W.heap.size W w') := fun W g h t => apply_v ap_1 rfl W t.a.one
  have C2 : Hid (∀ W g h, Tf w W g h → Calls Try.prog 13 #[.slice (some ⟨g, 0, none⟩) 1 1, .int .i64 3, .int .i64 7, .int .i64 100] W fun e w' => e = .returned (.int .i64 100) ∧ Below W.heap.size W w') := fun W g h t => apply_v ap_2 rfl W t.a.one
  have C3 : Hid (∀ W g h, Tf w W g h → Calls Try.prog 13 #[.slice (some ⟨h, 0, none⟩) 1 1, .int .i64 0, .int .i64 7, .int .i64 100] W fun e w' => e = .returned (.int .i64 7) ∧ Below W.heap.size W w') := fun W g h t => apply_v ap_3 rfl W t.b.one
  have C4 : Hid (∀ W, Calls Try.prog 13 #[.slice none 0 0, .int .i64 0, .int .i64 0, .int .i64 1048576] W fun e w' => e = .returned (.int .i64 65535) ∧ Below W.heap.size W w') := fun W => apply_v ap_4 rfl W (Fls.none_ W _)
  have C5 : Hid (∀ W, Calls Try.prog 11 #[.agg (fc 1 5 0 3), .int .i64 2] W fun e w' => e = .returned (.bool true) ∧ Below W.heap.size W w') := fun W => on_v (by decide) W
  have C6 : Hid (∀ W, Calls Try.prog 11 #[.agg (fc 1 5 0 3), .int .i64 3] W fun e w' => e = .returned (.bool false) ∧ Below W.heap.size W w') := fun W => on_v (by decide) W
  have C7 : Hid (∀ W, Calls Try.prog 9 #[.agg (fc 7 0 0 0)] W fun e w' => e = .returned (.int .i64 1) ∧ Below W.heap.size W w') := fun W => check_v (by decide) W
  have C8 : Hid (∀ W, Calls Try.prog 9 #[.agg (fc 1 5 0 3)] W fun e w' => e = .returned (.int .i64 0) ∧ Below W.heap.size W w') := fun W => check_v (by decide) W
  have TF : Hid (Tf w ((w.alloc (.cells (fc 1 5 0 3) 27)).alloc (.cells (fc 2 0 0 3) 27)) w.heap.size (w.heap.size + 1)) :=
    ⟨(Blk.new w 1 5 0 3).grow ((Below.refl _ _).alloc (Nat.le_refl _) _), by have := Blk.new (w.alloc (.cells (fc 1 5 0 3) 27)) 2 0 0 3; rwa [World.size_alloc] at this, ((Below.refl _ _).alloc (Nat.le_refl _) _).alloc (by simp) _⟩
  go_enter Try.func8, Try.ntmps8
  go_wp2_with (first
    | (refine ld rfl _ rfl _ _ _ _ _ rfl TF.out.a ?_)
    | (go_at_call 13; (with_reducible refine (C1.out _ _ _ TF.out).mono ?_); rintro e W ⟨rfl, hb⟩; replace TF := Lib.hid (TF.out.grow hb); clear hb)
    | (go_at_call 13; (with_reducible refine (C2.out _ _ _ TF.out).mono ?_); rintro e W ⟨rfl, hb⟩; replace TF := Lib.hid (TF.out.grow hb); clear hb)
    | (go_at_call 13; (with_reducible refine (C3.out _ _ _ TF.out).mono ?_); rintro e W ⟨rfl, hb⟩; replace TF := Lib.hid (TF.out.grow hb); clear hb)
    | (go_at_call 13; (with_reducible refine (C4.out _).mono ?_); rintro e W ⟨rfl, hb⟩; replace TF := Lib.hid (TF.out.grow hb); clear hb)
    | (go_at_call 11; (with_reducible refine (C5.out _).mono ?_); rintro e W ⟨rfl, hb⟩; replace TF := Lib.hid (TF.out.grow hb); clear hb)
    | (go_at_call 11; (with_reducible refine (C6.out _).mono ?_); rintro e W ⟨rfl, hb⟩; replace TF := Lib.hid (TF.out.grow hb); clear hb)
    | (go_at_call 9; (with_reducible refine (C7.out _).mono ?_); rintro e W ⟨rfl, hb⟩; replace TF := Lib.hid (TF.out.grow hb); clear hb)
    | (go_at_call 9; (with_reducible refine (C8.out _).mono ?_); rintro e W ⟨rfl, hb⟩; replace TF := Lib.hid (TF.out.grow hb); clear hb)
    | fail)
  go_ret
  exact ⟨rfl, TF.out.old⟩
end Jw
end Go.Proofs.Ytealfomdfnpmpaa
