/- What the statements' awake asks. -/
import Derived.Test.YtdfihcbmojggoaaCutoffRun
namespace Go.Proofs.Ytdfihcbmojggoaa
namespace Ow
open Go.RowKit Lk

/-- The four cutoffs, as they lie. -/
structure C4 (w W : World) (g : Nat) : Prop where
  old : Below w.heap.size w W
  lt : g < W.heap.size
  r0 : W.rangeAt g 0 (cc 0 false).toList
  r1 : W.rangeAt g 2 (cc 1 false).toList
  r2 : W.rangeAt g 4 (cc 2 true).toList
  r3 : W.rangeAt g 6 (cc 0 true).toList
theorem C4.grow {w W W' : World} {g : Nat} (h : C4 w W g) (hb : Below W.heap.size W W') : C4 w W' g := by
  have k : ∀ o (l : List Value), W.rangeAt g o l → W'.rangeAt g o l := fun o l hr j v hv => (hb.cell (p := ⟨g, o + j, none⟩) h.lt).trans (hr j v hv)
  exact ⟨h.old.trans (hb.mono h.old.size), Nat.lt_of_lt_of_le h.lt hb.size, k _ _ h.r0, k _ _ h.r1, k _ _ h.r2, k _ _ h.r3⟩
abbrev P4 : List (Int × Int) := [(90, 0), (0, 100), (100, 100), (0, 0)]

set_option maxRecDepth 100000 in
set_option maxHeartbeats 8000000 in
theorem awake_c (w : World) : Calls Try.prog 8 #[] w fun r w' => r = .returned (.bool true) ∧ Below w.heap.size w w' := by
  have CW : Hid (∀ (A : Option Addr) (cp : Nat) (W : World), Prs W A P4 → Calls Try.prog 9 #[.int .i64 100, .int .i64 2, .slice A 4 cp, .slice none 0 0] W fun e w' => ∃ g, e = .returned (.slice (some ⟨g, 0, none⟩) 4 4) ∧ C4 W w' g) := Lib.hid (fun A cp W hA => by
    refine (run_c 100 2 A none 4 cp 0 0 P4 [] rfl rfl (by decide) W hA (bls_nil W)).mono ?_
    rintro e w' ⟨⟨g, rfl, _, hc⟩, hb⟩
    exact ⟨g, rfl, hb, hc.lt, hc.at_ (m := 0) (by decide) (by decide), hc.at_ (m := 1) (by decide) (by decide), hc.at_ (m := 2) (by decide) (by decide), hc.at_ (m := 3) (by decide) (by decide)⟩)
  have CM := Lib.hid (fun W => most_v (t := 100) (k := 2) (r := 7) (n := 113) (by decide) W)
  have C1 := Lib.hid (fun W => step_v (t := 100) (k := 2) (q := 0) (a := 99) (b := 99) (p := 0) (s := true) (r := true) (u := false) (by decide) (by decide) W)
  have C2 := Lib.hid (fun W => step_v (t := 100) (k := 2) (q := 0) (a := 99) (b := 100) (p := 1) (s := true) (r := true) (u := true) (by decide) (by decide) W)
  go_enter Try.func8, Try.ntmps8
  go_wp2_with fail
  refine (CW.out _ _ _ ?hp).mono ?_
  case hp =>
    have hc := heap_alloc_last w (.cells #[.int .i64 90, .int .i64 0, .int .i64 0, .int .i64 100, .int .i64 100, .int .i64 100, .int .i64 0, .int .i64 0] 30)
    intro i p hi
    refine ⟨w.heap.size, 0, rfl, by simp, fun j v hv => ?_⟩
    rw [Joins.cell_of_block hc]
    have hi4 : i < 4 := (List.getElem?_eq_some_iff.1 hi).1
    have hj2 : j < 2 := (List.getElem?_eq_some_iff.1 hv).1
    obtain rfl | rfl | rfl | rfl : i = 0 ∨ i = 1 ∨ i = 2 ∨ i = 3 := by omega
    all_goals
      obtain rfl | rfl : j = 0 ∨ j = 1 := by omega
      all_goals
        simp at hi
        subst hi
        simpa using hv
  rintro e W2 ⟨g, rfl, hc⟩
  have HB : Hid (Below w.heap.size w W2) := Lib.hid (((Below.refl w.heap.size w).alloc (Nat.le_refl _) _).trans (hc.old.mono (by simp)))
  have HC := Lib.hid hc
  clear hc CW
  generalize w.alloc (.cells #[.int .i64 90, .int .i64 0, .int .i64 0, .int .i64 100, .int .i64 100, .int .i64 100, .int .i64 0, .int .i64 0] 30) = V at *
  go_wp2_with (first
    | (refine ldm rfl _ rfl g 0 _ _ rfl HC.out.r0 ?_)
    | (refine ldm rfl _ rfl g 2 _ _ rfl HC.out.r1 ?_)
    | (refine ldm rfl _ rfl g 4 _ _ rfl HC.out.r2 ?_)
    | (refine ldm rfl _ rfl g 6 _ _ rfl HC.out.r3 ?_)
    | (refine fld rfl _ rfl _ _ rfl ?_)
    | (go_at_call 11; (with_reducible refine (CM.out _).mono ?_); rintro e W3 ⟨rfl, rfl⟩)
    | (go_at_call 12; (first | (with_reducible refine (C1.out _).mono ?_) | (with_reducible refine (C2.out _).mono ?_)); rintro e W3 ⟨rfl, hb⟩; replace HB := Lib.hid (HB.out.trans (hb.mono HB.out.size)); replace HC := Lib.hid (HC.out.grow hb); clear hb)
    | fail)
  go_ret
  exact ⟨rfl, HB.out⟩
end Ow
end Go.Proofs.Ytdfihcbmojggoaa
