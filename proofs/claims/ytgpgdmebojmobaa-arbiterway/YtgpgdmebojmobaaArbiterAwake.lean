/- What the statements' awake asks. -/
import Derived.Test.YtgpgdmebojmobaaArbiterWay
import Derived.Deep.DeepCutAuto
namespace Go.Proofs.Ytgpgdmebojmobaa
namespace Aw
open Go.RowKit Lk Zk

/-- The three holders, as they lie. -/
structure R3 (w W : World) (g : Nat) : Prop where
  old : Below w.heap.size w W
  lt : g < W.heap.size
  c0 : W.cell? ⟨g, 0, none⟩ = some (.int .i64 0)
  c1 : W.cell? ⟨g, 1, none⟩ = some (.int .i64 1)
  c2 : W.cell? ⟨g, 2, none⟩ = some (.int .i64 1)
theorem R3.grow {w W W' : World} {g : Nat} (h : R3 w W g) (hb : Below W.heap.size W W') : R3 w W' g :=
  ⟨h.old.trans (hb.mono h.old.size), Nat.lt_of_lt_of_le h.lt hb.size, (hb.cell (p := ⟨g, 0, none⟩) h.lt).trans h.c0, (hb.cell (p := ⟨g, 1, none⟩) h.lt).trans h.c1, (hb.cell (p := ⟨g, 2, none⟩) h.lt).trans h.c2⟩

set_option maxRecDepth 100000 in
set_option maxHeartbeats 8000000 in
theorem awake_c (w : World) : Calls Try.prog 7 #[] w fun r w' => r = .returned (.bool true) ∧ Below w.heap.size w w' := by
  have CW : Hid (∀ (A : Option Addr) (cp : Nat) (W : World), Prs W A [(true, true), (false, true), (true, true)] → Calls Try.prog 11 #[.int .i64 0, .slice A 3 cp, .slice none 0 0] W fun e w' => ∃ g c, e = .returned (.slice (some ⟨g, 0, none⟩) 3 c) ∧ w'.rangeAt g 0 [.int .i64 0, .int .i64 1, .int .i64 1] ∧ Below W.heap.size W w') := Lib.hid (fun A cp W hA => by
    refine (way_c 0 A none 3 cp 0 0 _ [] rfl rfl (by decide) W hA (fun i b hi => by simp at hi)).mono ?_
    rintro e w' ⟨v, rfl, hz, hb⟩
    rcases hz.2 with ⟨_, h0⟩ | ⟨g, cap, cur, rfl, hg, hh, hc, hm, hs, ht⟩
    · exact absurd h0 (by decide)
    · refine ⟨g, cap, rfl, fun j u hu => ?_, hb⟩
      have hj : j < 3 := (List.getElem?_eq_some_iff.1 hu).1
      rw [Nat.zero_add, Joins.cell_of_block hh, ← Array.getElem?_toList]
      have : (cur.toList.take 3)[j]? = some u := by
        have e : cur.toList.take 3 = [.int .i64 0, .int .i64 1, .int .i64 1] := ht
        rw [e]; exact hu
      rwa [List.getElem?_take_of_lt hj] at this)
  have C1 := Lib.hid (fun W => next_v (h := 1) (a := true) (b := true) (r := false) (n := 1) (by decide) W)
  have C2 := Lib.hid (fun W => next_v (h := 1) (a := true) (b := false) (r := false) (n := 0) (by decide) W)
  have C3 := Lib.hid (fun W => next_v (h := 0) (a := false) (b := false) (r := false) (n := 2) (by decide) W)
  have C4 := Lib.hid (fun W => next_v (h := 0) (a := true) (b := true) (r := true) (n := 2) (by decide) W)
  have C5 := Lib.hid (fun W => may_c (h := 0) (a := false) (b := true) (r := false) (n := 1) (by decide) 1 W)
  go_enter Try.func7, Try.ntmps7
  go_wp2_with fail
  refine (CW.out _ _ _ ?hp).mono ?_
  case hp =>
    have hc := heap_alloc_last w (.cells #[.bool true, .bool true, .bool false, .bool true, .bool true, .bool true] 30)
    intro i p hi
    refine ⟨w.heap.size, 0, rfl, by simp, fun j v hv => ?_⟩
    rw [Joins.cell_of_block hc]
    have hi3 : i < 3 := (List.getElem?_eq_some_iff.1 hi).1
    have hj2 : j < 2 := (List.getElem?_eq_some_iff.1 hv).1
    obtain rfl | rfl | rfl : i = 0 ∨ i = 1 ∨ i = 2 := by omega
    all_goals
      obtain rfl | rfl : j = 0 ∨ j = 1 := by omega
      all_goals
        simp at hi
        subst hi
        simpa using hv
  rintro e W2 ⟨g, c, rfl, hr, hb⟩
  have HC : Hid (R3 w W2 g) := Lib.hid ⟨((Below.refl w.heap.size w).alloc (Nat.le_refl _) _).trans (hb.mono (by simp)), World.block_lt_of_cell? _ _ (hr 0 _ rfl), hr 0 _ rfl, hr 1 _ rfl, hr 2 _ rfl⟩
  clear hr hb CW
  go_wp2_with (first
    | (go_at_call 9; (with_reducible refine (C1.out _).mono ?_); rintro e W3 ⟨rfl, hb⟩; replace HC := Lib.hid (HC.out.grow hb); clear hb; have c0 := HC.out.c0; have c1 := HC.out.c1; have c2 := HC.out.c2)
    | (go_at_call 9; (with_reducible refine (C2.out _).mono ?_); rintro e W3 ⟨rfl, hb⟩; replace HC := Lib.hid (HC.out.grow hb); clear hb; have c0 := HC.out.c0; have c1 := HC.out.c1; have c2 := HC.out.c2)
    | (go_at_call 9; (with_reducible refine (C3.out _).mono ?_); rintro e W3 ⟨rfl, hb⟩; replace HC := Lib.hid (HC.out.grow hb); clear hb; have c0 := HC.out.c0; have c1 := HC.out.c1; have c2 := HC.out.c2)
    | (go_at_call 9; (with_reducible refine (C4.out _).mono ?_); rintro e W3 ⟨rfl, hb⟩; replace HC := Lib.hid (HC.out.grow hb); clear hb; have c0 := HC.out.c0; have c1 := HC.out.c1; have c2 := HC.out.c2)
    | (go_at_call 10; (with_reducible refine (C5.out _).mono ?_); rintro e W3 ⟨rfl, hb⟩; replace HC := Lib.hid (HC.out.grow hb); clear hb)
    | fail)
  go_ret
  exact ⟨rfl, HC.out.old⟩
end Aw
end Go.Proofs.Ytgpgdmebojmobaa
