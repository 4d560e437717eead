/- The calls whose answers the document fixes: awake. -/
import Derived.Test.YtimflomgaknoaaaCheckPlay
namespace Go.Proofs.Ytimflomgaknoaaa
namespace Cw
open Go.RowKit Ck Lk

abbrev L0 : Lm := ⟨0, 100, 10, 0, 2, 3⟩
abbrev Z0 : Lm := ⟨0, 0, 0, 0, 0, 0⟩
abbrev V0 : List Int := [50, 55, 90, 55, 55, 56, 57, 58]
abbrev G0 : List Bool := [true, true, false, false, false, false, true, true]
abbrev vob : Obj := .cells #[.int .i64 50, .int .i64 55, .int .i64 90, .int .i64 55, .int .i64 55, .int .i64 56, .int .i64 57, .int .i64 58] 3 (0, 0)
theorem plays_0 : plays L0 zw V0 = G0 := by decide +kernel
theorem err_0 : err L0 = 0 := by decide +kernel
theorem err_z : err Z0 = 1 := by decide +kernel
theorem wrong_0 : wrong L0 zw 101 = true := by decide +kernel
theorem wrong_00 : wrong L0 zw 100 = false := by decide +kernel
theorem ints_0 {W : World} {k : Nat} (h : W.heap[k]? = some vob) : IntsAt W .i64 (some ⟨k, 0, none⟩) V0 := by
  intro i hi
  refine ⟨k, 0, rfl, ?_⟩
  rw [Nat.zero_add]
  refine (Joins.cell_of_block h i).trans ?_
  have hi8 : i < 8 := hi
  rcases (by omega : i = 0 ∨ i = 1 ∨ i = 2 ∨ i = 3 ∨ i = 4 ∨ i = 5 ∨ i = 6 ∨ i = 7) with rfl | rfl | rfl | rfl | rfl | rfl | rfl | rfl <;> rfl
/-- The eight answers. -/
def Gs (W : World) (g : Nat) : Prop := ∀ i, i < 8 → W.cell? ⟨g, i, none⟩ = some (.bool (G0.getD i false))
theorem Gs.grow {W W' : World} {g : Nat} (h : Gs W g) (hb : Below W.heap.size W W') : Gs W' g := fun i hi => (hb.cell (World.block_lt_of_cell? _ _ (h i hi))).trans (h i hi)
theorem played_0 (W : World) (k : Nat) (h : W.heap[k]? = some vob) : Calls Try.prog 14 #[.agg (lc L0), .slice (some ⟨k, 0, none⟩) 8 8] W fun e w' => ∃ g c, e = .returned (.slice (some ⟨g, 0, none⟩) 8 c) ∧ Gs w' g ∧ Below W.heap.size W w' :=
  (played_c L0 (some ⟨k, 0, none⟩) V0 8 8 rfl (by decide) W (ints_0 h)).mono fun e w' ⟨v, he, hbl, hb⟩ => by
    rw [plays_0] at hbl
    obtain ⟨A, c, rfl, _, hc⟩ := hbl.form (n := 8) rfl
    obtain ⟨g, rfl, _, _⟩ := hc 0 (by decide)
    exact ⟨g, c, he, fun i hi => by obtain ⟨g', e, _, h3⟩ := hc i hi; cases e; exact h3, hb⟩

set_option maxRecDepth 100000 in
set_option maxHeartbeats 8000000 in
theorem awake_c (w : World) : Calls Try.prog 7 #[] w fun e w' => e = .returned (.bool true) ∧ Below w.heap.size w w' := by
  have HV : Hid (Hv w ((w.alloc (lob L0)).alloc vob) [(w.heap.size, lob L0)]) := ((Hv.nil w).made (lob L0)).alloc _
  have HK : Hid (((w.alloc (lob L0)).alloc vob).heap[w.heap.size + 1]? = some vob) := by
    have := heap_alloc_last (w.alloc (lob L0)) vob
    rwa [World.size_alloc] at this
  have C1 := Lib.hid (fun W => check_v err_0 W)
  have C2 := Lib.hid (fun W => check_v err_z W)
  have C3 := Lib.hid (fun W => wrong_v wrong_0 W)
  have C4 := Lib.hid (fun W => wrong_v wrong_00 W)
  go_enter Try.func7, Try.ntmps7
  go_wp2_with (first
    | (refine ldl rfl _ rfl _ _ rfl HV.out.head ?_)
    | (go_at_call 14; (with_reducible refine (played_0 _ _ HK.out).mono ?_); rintro e W ⟨g, c, rfl, hg, hb⟩; replace HV := Lib.hid (HV.out.grow hb); have HG := Lib.hid hg; clear hb hg HK)
    | (go_at_call 10; (with_reducible refine (C1.out _).mono ?_); rintro e W ⟨rfl, hb⟩; replace HV := Lib.hid (HV.out.grow hb); replace HG := Lib.hid (HG.out.grow hb); clear hb)
    | (go_at_call 10; (with_reducible refine (C2.out _).mono ?_); rintro e W ⟨rfl, hb⟩; replace HV := Lib.hid (HV.out.grow hb); replace HG := Lib.hid (HG.out.grow hb); clear hb; have g0 := HG.out 0 (by decide); have g1 := HG.out 1 (by decide); have g2 := HG.out 2 (by decide); have g3 := HG.out 3 (by decide); have g4 := HG.out 4 (by decide); have g5 := HG.out 5 (by decide); have g6 := HG.out 6 (by decide); have g7 := HG.out 7 (by decide); simp only [List.getD_cons_succ, List.getD_cons_zero] at g0 g1 g2 g3 g4 g5 g6 g7)
    | (go_at_call 12; (with_reducible refine (C3.out _).mono ?_); rintro e W ⟨rfl, hb⟩; replace HV := Lib.hid (HV.out.grow hb); clear hb)
    | (go_at_call 12; (with_reducible refine (C4.out _).mono ?_); rintro e W ⟨rfl, hb⟩; replace HV := Lib.hid (HV.out.grow hb); clear hb)
    | fail)
  go_ret
  exact ⟨rfl, HV.out.old⟩
end Cw
end Go.Proofs.Ytimflomgaknoaaa
