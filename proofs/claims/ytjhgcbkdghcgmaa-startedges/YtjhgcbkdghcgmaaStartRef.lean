/- The document's own answers: the fuel to start with, and when a start goes on. Printed by gen_ref.py. -/
import Derived.Test.YtjhgcbkdghcgmaaScheduleRef
import Derived.Test.YtjhgcbkdghcgmaaSynthRCheck
import Derived.Test.YtjhgcbkdghcgmaaOrdKit
import Derived.Test.YtjhgcbkdghcgmaaStartMath
import Derived.Lib.MinMax
namespace Go.Proofs.Ytjhgcbkdghcgmaa
namespace Bw
open Go.RowKit TabC Lk Ew Hw

theorem rl_v {l : Lg} {b : Bool} (w : World) (hL : LawIn w l) (h : Sd.okB (la l) = b) : Calls Try.prog 30 #[.agg (lc l)] w fun r w' => r = .returned (.int .i64 (if b = true then 0 else 140)) ∧ Below w.heap.size w w' := by
  have := Hw.rcheck_c l w hL
  rwa [Sd.err, h] at this
theorem re_v {e : Eg} {b : Bool} (w : World) (hE : EngIn w e) (h : Em.okB (en e) = b) : Calls Try.prog 29 #[.agg (ec e)] w fun r w' => r = .returned (.int .i64 (if b = true then 0 else 100)) ∧ Below w.heap.size w w' := by
  have := Ew.rcheck_c e w hE
  rwa [Em.err, h] at this

set_option maxRecDepth 100000 in
theorem rready_c (e : Eg) (n : Int) (w : World) (h : EngIn w e) : Calls Try.prog 13 #[.agg (ec e), .int .i64 n] w fun r w' => r = .returned (.bool (Em.okB (en e) && decide (e.light ≤ n))) ∧ Below w.heap.size w w' := by
  have HV := Lib.hid ((Hv.nil w).made (eo e))
  cases hk : Em.okB (en e) with
  | false =>
    have C := Lib.hid (fun W (hW : Below w.heap.size w W) => re_v W (h.below hW) hk)
    clear h hk
    have EQ : Hid ((false && decide (e.light ≤ n)) = false) := by show _ = _; simp
    go_enter Try.func13, Try.ntmps13
    go_wp2_with (first | (refine lde rfl _ rfl _ _ rfl HV.out.head ?_) | (go_at_call 29; (with_reducible refine (C.out _ HV.out.old).mono ?_); rintro r W ⟨rfl, hb⟩; replace HV := Lib.hid (HV.out.grow hb); clear hb C) | fail)
    go_ret
    exact ⟨ret_bool EQ.out.symm, HV.out.old⟩
  | true =>
    have C := Lib.hid (fun W (hW : Below w.heap.size w W) => re_v W (h.below hW) hk)
    clear h hk
    have EQ : Hid ((true && decide (e.light ≤ n)) = decide (e.light ≤ n)) := by show _ = _; simp
    go_enter Try.func13, Try.ntmps13
    go_wp2_with (first | (refine lde rfl _ rfl _ _ rfl HV.out.head ?_) | (go_at_call 29; (with_reducible refine (C.out _ HV.out.old).mono ?_); rintro r W ⟨rfl, hb⟩; replace HV := Lib.hid (HV.out.grow hb); clear hb C; have c0 := Joins.cell_of_block HV.out.head 13; simp only [List.getElem?_toArray, List.getElem?_cons_zero, List.getElem?_cons_succ] at c0) | fail)
    go_ret
    exact ⟨ret_bool EQ.out.symm, HV.out.old⟩

set_option maxRecDepth 100000 in
theorem rhot_c (l : Lg) (n : Int) (w : World) (h : LawIn w l) : Calls Try.prog 17 #[.agg (lc l), .int .i64 n] w fun r w' => r = .returned (.bool (Sd.okB (la l) && decide (l.redE ≤ n))) ∧ Below w.heap.size w w' := by
  have HV := Lib.hid ((Hv.nil w).made (lo l))
  cases hk : Sd.okB (la l) with
  | false =>
    have C := Lib.hid (fun W (hW : Below w.heap.size w W) => rl_v W (h.below hW) hk)
    clear h hk
    have EQ : Hid ((false && decide (l.redE ≤ n)) = false) := by show _ = _; simp
    go_enter Try.func17, Try.ntmps17
    go_wp2_with (first | (refine ldl rfl _ rfl _ _ rfl HV.out.head ?_) | (go_at_call 30; (with_reducible refine (C.out _ HV.out.old).mono ?_); rintro r W ⟨rfl, hb⟩; replace HV := Lib.hid (HV.out.grow hb); clear hb C) | fail)
    go_ret
    exact ⟨ret_bool EQ.out.symm, HV.out.old⟩
  | true =>
    have C := Lib.hid (fun W (hW : Below w.heap.size w W) => rl_v W (h.below hW) hk)
    clear h hk
    have EQ : Hid ((true && decide (l.redE ≤ n)) = decide (l.redE ≤ n)) := by show _ = _; simp
    go_enter Try.func17, Try.ntmps17
    go_wp2_with (first | (refine ldl rfl _ rfl _ _ rfl HV.out.head ?_) | (go_at_call 30; (with_reducible refine (C.out _ HV.out.old).mono ?_); rintro r W ⟨rfl, hb⟩; replace HV := Lib.hid (HV.out.grow hb); clear hb C; have c0 := Joins.cell_of_block HV.out.head 8; simp only [List.getElem?_toArray, List.getElem?_cons_zero, List.getElem?_cons_succ] at c0) | fail)
    go_ret
    exact ⟨ret_bool EQ.out.symm, HV.out.old⟩

set_option maxRecDepth 100000 in
theorem rhung_c (l : Lg) (n : Int) (w : World) (h : LawIn w l) : Calls Try.prog 19 #[.agg (lc l), .int .i64 n] w fun r w' => r = .returned (.bool (Sd.okB (la l) && decide (l.patience ≤ n))) ∧ Below w.heap.size w w' := by
  have HV := Lib.hid ((Hv.nil w).made (lo l))
  cases hk : Sd.okB (la l) with
  | false =>
    have C := Lib.hid (fun W (hW : Below w.heap.size w W) => rl_v W (h.below hW) hk)
    clear h hk
    have EQ : Hid ((false && decide (l.patience ≤ n)) = false) := by show _ = _; simp
    go_enter Try.func19, Try.ntmps19
    go_wp2_with (first | (refine ldl rfl _ rfl _ _ rfl HV.out.head ?_) | (go_at_call 30; (with_reducible refine (C.out _ HV.out.old).mono ?_); rintro r W ⟨rfl, hb⟩; replace HV := Lib.hid (HV.out.grow hb); clear hb C) | fail)
    go_ret
    exact ⟨ret_bool EQ.out.symm, HV.out.old⟩
  | true =>
    have C := Lib.hid (fun W (hW : Below w.heap.size w W) => rl_v W (h.below hW) hk)
    clear h hk
    have EQ : Hid ((true && decide (l.patience ≤ n)) = decide (l.patience ≤ n)) := by show _ = _; simp
    go_enter Try.func19, Try.ntmps19
    go_wp2_with (first | (refine ldl rfl _ rfl _ _ rfl HV.out.head ?_) | (go_at_call 30; (with_reducible refine (C.out _ HV.out.old).mono ?_); rintro r W ⟨rfl, hb⟩; replace HV := Lib.hid (HV.out.grow hb); clear hb C; have c0 := Joins.cell_of_block HV.out.head 11; simp only [List.getElem?_toArray, List.getElem?_cons_zero, List.getElem?_cons_succ] at c0) | fail)
    go_ret
    exact ⟨ret_bool EQ.out.symm, HV.out.old⟩

set_option maxRecDepth 100000 in
theorem raway_c (l : Lg) (lit : Bool) (n : Int) (w : World) (h : LawIn w l) : Calls Try.prog 15 #[.agg (lc l), .bool lit, .int .i64 n] w fun r w' => r = .returned (.bool (lit && (Sd.okB (la l) && decide (l.idle ≤ n)))) ∧ Below w.heap.size w w' := by
  have HV := Lib.hid ((Hv.nil w).made (lo l))
  cases hk : Sd.okB (la l) with
  | false =>
    have C := Lib.hid (fun W (hW : Below w.heap.size w W) => rl_v W (h.below hW) hk)
    clear h hk
    have EQ : Hid ((lit && (false && decide (l.idle ≤ n))) = false) := by show _ = _; simp
    go_enter Try.func15, Try.ntmps15
    go_wp2_with (first | (refine ldl rfl _ rfl _ _ rfl HV.out.head ?_) | (go_at_call 30; (with_reducible refine (C.out _ HV.out.old).mono ?_); rintro r W ⟨rfl, hb⟩; replace HV := Lib.hid (HV.out.grow hb); clear hb C) | fail)
    go_ret
    exact ⟨ret_bool EQ.out.symm, HV.out.old⟩
  | true =>
    have C := Lib.hid (fun W (hW : Below w.heap.size w W) => rl_v W (h.below hW) hk)
    clear h hk
    cases lit
    · have := 0
      have EQ : Hid ((false && (true && decide (l.idle ≤ n))) = false) := by show _ = _; simp
      go_enter Try.func15, Try.ntmps15
      go_wp2_with (first | (refine ldl rfl _ rfl _ _ rfl HV.out.head ?_) | (go_at_call 30; (with_reducible refine (C.out _ HV.out.old).mono ?_); rintro r W ⟨rfl, hb⟩; replace HV := Lib.hid (HV.out.grow hb); clear hb C; have c0 := Joins.cell_of_block HV.out.head 10; simp only [List.getElem?_toArray, List.getElem?_cons_zero, List.getElem?_cons_succ] at c0) | fail)
      go_ret
      exact ⟨ret_bool EQ.out.symm, HV.out.old⟩
    · have := 0
      have EQ : Hid ((true && (true && decide (l.idle ≤ n))) = decide (l.idle ≤ n)) := by show _ = _; simp
      go_enter Try.func15, Try.ntmps15
      go_wp2_with (first | (refine ldl rfl _ rfl _ _ rfl HV.out.head ?_) | (go_at_call 30; (with_reducible refine (C.out _ HV.out.old).mono ?_); rintro r W ⟨rfl, hb⟩; replace HV := Lib.hid (HV.out.grow hb); clear hb C; have c0 := Joins.cell_of_block HV.out.head 10; simp only [List.getElem?_toArray, List.getElem?_cons_zero, List.getElem?_cons_succ] at c0) | fail)
      go_ret
      exact ⟨ret_bool EQ.out.symm, HV.out.old⟩

/-- The cells that the fuel is told from. -/
abbrev RFld (V : World) (a b : Nat) (e : Eg) (l : Lg) : Prop := V.cell? ⟨b, 4, none⟩ = some (.slice l.s.A l.s.xs.length l.s.ca) ∧ V.cell? ⟨b, 5, none⟩ = some (.slice l.s.B l.s.ys.length l.s.cb) ∧ V.cell? ⟨a, 14, none⟩ = some (.int .i64 e.lean)
theorem rfld {V : World} {a b : Nat} {e : Eg} {l : Lg} (h : V.heap[a]? = some (eo e)) (h' : V.heap[b]? = some (lo l)) : RFld V a b e l := ⟨Joins.cell_of_block h' 4, Joins.cell_of_block h' 5, Joins.cell_of_block h 14⟩
theorem ord_rfu : Lk.orderedB (Lk.opsOf Try.f11 3) [(0, false), (1, false), (2, false), (4, false), (5, false), (3, true), (6, false), (7, false)] = true := by kernel_rfl

set_option maxRecDepth 100000 in
theorem rfuel_c (e : Eg) (l : Lg) (n : Int) (w : World) (hE : EngIn w e) (hL : LawIn w l) : Calls Try.prog 11 #[.agg (ec e), .agg (lc l), .int .i64 n] w fun r w' => r = .returned (.int .i64 (Sb.fuel (en e) (la l) n)) ∧ Below w.heap.size w w' := by
  have HV := Lib.hid (((Hv.nil w).made (eo e)).made (lo l))
  simp only [World.size_alloc] at HV
  cases hk : Em.okB (en e) with
  | false =>
    have EQ : Hid (Sb.fuel (en e) (la l) n = 0) := by show _ = _; simp [Sb.fuel, hk]
    have C := Lib.hid (fun W (hW : Below w.heap.size w W) => re_v W (hE.below hW) hk)
    clear hE hL hk
    go_enter Try.func11, Try.ntmps11
    go_wp2_with (first | (refine lde rfl _ rfl _ _ rfl HV.out.h2 ?_) | (refine ldl rfl _ rfl _ _ rfl HV.out.head ?_) | (go_at_call 29; (with_reducible refine (C.out _ HV.out.old).mono ?_); rintro r W ⟨rfl, hb⟩; replace HV := Lib.hid (HV.out.grow hb); clear hb C) | fail)
    go_ret
    exact ⟨by rw [EQ.out]; rfl, HV.out.old⟩
  | true =>
    cases hk' : Sd.okB (la l) with
    | false =>
      have EQ : Hid (Sb.fuel (en e) (la l) n = 0) := by show _ = _; simp [Sb.fuel, hk']
      have C := Lib.hid (fun W (hW : Below w.heap.size w W) => re_v W (hE.below hW) hk)
      have D := Lib.hid (fun W (hW : Below w.heap.size w W) => rl_v W (hL.below hW) hk')
      clear hE hL hk hk'
      go_enter Try.func11, Try.ntmps11
      go_wp2_with (first | (refine lde rfl _ rfl _ _ rfl HV.out.h2 ?_) | (refine ldl rfl _ rfl _ _ rfl HV.out.head ?_) | (go_at_call 29; (with_reducible refine (C.out _ HV.out.old).mono ?_); rintro r W ⟨rfl, hb⟩; replace HV := Lib.hid (HV.out.grow hb); clear hb C) | (go_at_call 30; (with_reducible refine (D.out _ HV.out.old).mono ?_); rintro r W ⟨rfl, hb⟩; replace HV := Lib.hid (HV.out.grow hb); clear hb D) | fail)
      go_ret
      exact ⟨by rw [EQ.out]; rfl, HV.out.old⟩
    | true =>
      have EQ : Hid (max (Tb.atv l.s.xs l.s.ys n) e.lean = Sb.fuel (en e) (la l) n) := by show _ = _; rw [Sb.fuel, hk, hk']; rfl
      have C := Lib.hid (fun W (hW : Below w.heap.size w W) => re_v W (hE.below hW) hk)
      have D := Lib.hid (fun W (hW : Below w.heap.size w W) => rl_v W (hL.below hW) hk')
      have CA := Lib.hid (fun W (hW : Below w.heap.size w W) => rat_c l.s.A l.s.B l.s.ca l.s.cb l.s.xs l.s.ys n W (hL.s.below hW))
      generalize Tb.atv l.s.xs l.s.ys n = v at *
      clear hE hL hk hk'
      go_enter Try.func11, Try.ntmps11
      go_upto_region 3 with (first | (refine lde rfl _ rfl _ _ rfl HV.out.h2 ?_) | (refine ldl rfl _ rfl _ _ rfl HV.out.head ?_) | (go_at_call 29; (with_reducible refine (C.out _ HV.out.old).mono ?_); rintro r W ⟨rfl, hb⟩; replace HV := Lib.hid (HV.out.grow hb); clear hb C) | (go_at_call 30; (with_reducible refine (D.out _ HV.out.old).mono ?_); rintro r W ⟨rfl, hb⟩; replace HV := Lib.hid (HV.out.grow hb); clear hb D) | fail)
      refine wp_region_noPanic (Lk.wp_region_ordered ord_rfu (fun V => RFld V w.heap.size (w.heap.size + 1) e l) (by kernel_rfl) (by kernel_rfl) (fun _ _ _ _ _ h => h) (by first | (with_reducible exact rfld HV.out.h2 HV.out.head) | (with_reducible exact rfld HV.out.drew.h2 HV.out.drew.head)) ?_)
      replace HV := Lib.hid HV.out.drew
      iterate 5 (refine Lk.ord_take ?_ rfl rfl ?_ ?_; rotate_left; (focus (intro w' hS; (try dsimp only at hS); go_simp; try with_reducible rfl)); simp only [Act.put, List.setIfInBounds_toArray, List.set_cons_zero, List.set_cons_succ])
      refine Lk.ord_step rfl rfl (fun K hK => ?_)
      go_simp
      (with_reducible refine (CA.out _ HV.out.old).mono ?_)
      rintro r W ⟨rfl, hb⟩
      replace HV := Lib.hid (HV.out.grow hb)
      clear hb
      refine hK.out _ _ (by first | (with_reducible exact rfld HV.out.h2 HV.out.head) | (with_reducible exact rfld HV.out.drew.h2 HV.out.drew.head)) ?_
      clear hK K
      try simp only [Act.put, List.setIfInBounds_toArray, List.set_cons_zero, List.set_cons_succ]
      iterate 2 (refine Lk.ord_take ?_ rfl rfl ?_ ?_; rotate_left; (focus (intro w' hS; (try dsimp only at hS); go_simp; try with_reducible rfl)); simp only [Act.put, List.setIfInBounds_toArray, List.set_cons_zero, List.set_cons_succ])
      refine Lk.ord_nil (NoPanic.normal ?_)
      go_wp2_with fail
      go_ret
      exact ⟨by rw [← EQ.out]; rfl, HV.out.old⟩

end Bw
end Go.Proofs.Ytjhgcbkdghcgmaa
