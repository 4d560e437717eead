/- Texts of one seat laid together: StartRef ModeRef1 ModeRef2 ModeRef3 SynthRef SynthLaw1 ModeLaw1 ModeLaid TabOpen SynthOpen ScheduleOpen ModeFrame OpenKit LimKit ModeOpen ModeMath2. -/
import Derived.Test.YtodilljomjhohaaDoorCb
import Derived.Lib.MinMax
import Derived.RangeFuncNested
import Derived.Laws.StructEq
import Derived.Test.YtodilljomjhohaaDoorRows
import Derived.OpenShut
import Derived.LaidMore
import Derived.MakeChecks
import Derived.ProofKit
import Derived.Test.YtodilljomjhohaaDoorCa
import Derived.Lib.SmallJoins
import Derived.Deep.Slices
import Derived.Deep.MidRow
import Derived.WalkKit

/- The document's own answers: the fuel to start with, and when a start goes on. Printed by gen_ref.py. -/
namespace Go.Proofs.YtodilljomjhohaaDoor
namespace Bw
open Go.RowKit TabC Lk Ew Hw

theorem rl_v {l : Lg} {b : Bool} (w : World) (hL : LawIn w l) (h : Sd.okB (la l) = b) : Calls Tryd.prog 47 #[.agg (lc l)] w fun r w' => r = .returned (.int .i64 (if b = true then 0 else 140)) ∧ Below w.heap.size w w' := by
  have := Hw.rcheck_c l w hL
  rwa [Sd.err, h] at this
theorem re_v {e : Eg} {b : Bool} (w : World) (hE : EngIn w e) (h : Em.okB (en e) = b) : Calls Tryd.prog 42 #[.agg (ec e)] w fun r w' => r = .returned (.int .i64 (if b = true then 0 else 100)) ∧ Below w.heap.size w w' := by
  have := Ew.rcheck_c e w hE
  rwa [Em.err, h] at this

set_option maxRecDepth 100000 in
theorem rready_c (e : Eg) (n : Int) (w : World) (h : EngIn w e) : Calls Tryd.prog 31 #[.agg (ec e), .int .i64 n] w fun r w' => r = .returned (.bool (Em.okB (en e) && decide (e.light ≤ n))) ∧ Below w.heap.size w w' := by
  have HV := Lib.hid ((Hv.nil w).made (eo e))
  cases hk : Em.okB (en e) with
  | false =>
    have C := Lib.hid (fun W (hW : Below w.heap.size w W) => re_v W (h.below hW) hk)
    clear h hk
    have EQ : Hid ((false && decide (e.light ≤ n)) = false) := by show _ = _; simp
    go_enter Tryd.func31, Tryd.ntmps31
    go_wp2_with (first | (refine lde rfl _ rfl _ _ rfl HV.out.head ?_) | (go_at_call 42; (with_reducible refine (C.out _ HV.out.old).mono ?_); rintro r W ⟨rfl, hb⟩; replace HV := Lib.hid (HV.out.grow hb); clear hb C) | fail)
    go_ret
    exact ⟨ret_bool EQ.out.symm, HV.out.old⟩
  | true =>
    have C := Lib.hid (fun W (hW : Below w.heap.size w W) => re_v W (h.below hW) hk)
    clear h hk
    have EQ : Hid ((true && decide (e.light ≤ n)) = decide (e.light ≤ n)) := by show _ = _; simp
    go_enter Tryd.func31, Tryd.ntmps31
    go_wp2_with (first | (refine lde rfl _ rfl _ _ rfl HV.out.head ?_) | (go_at_call 42; (with_reducible refine (C.out _ HV.out.old).mono ?_); rintro r W ⟨rfl, hb⟩; replace HV := Lib.hid (HV.out.grow hb); clear hb C; have c0 := Joins.cell_of_block HV.out.head 13; simp only [List.getElem?_toArray, List.getElem?_cons_zero, List.getElem?_cons_succ] at c0) | fail)
    go_ret
    exact ⟨ret_bool EQ.out.symm, HV.out.old⟩

set_option maxRecDepth 100000 in
theorem rhot_c (l : Lg) (n : Int) (w : World) (h : LawIn w l) : Calls Tryd.prog 40 #[.agg (lc l), .int .i64 n] w fun r w' => r = .returned (.bool (Sd.okB (la l) && decide (l.redE ≤ n))) ∧ Below w.heap.size w w' := by
  have HV := Lib.hid ((Hv.nil w).made (lo l))
  cases hk : Sd.okB (la l) with
  | false =>
    have C := Lib.hid (fun W (hW : Below w.heap.size w W) => rl_v W (h.below hW) hk)
    clear h hk
    have EQ : Hid ((false && decide (l.redE ≤ n)) = false) := by show _ = _; simp
    go_enter Tryd.func40, Tryd.ntmps40
    go_wp2_with (first | (refine ldl rfl _ rfl _ _ rfl HV.out.head ?_) | (go_at_call 47; (with_reducible refine (C.out _ HV.out.old).mono ?_); rintro r W ⟨rfl, hb⟩; replace HV := Lib.hid (HV.out.grow hb); clear hb C) | fail)
    go_ret
    exact ⟨ret_bool EQ.out.symm, HV.out.old⟩
  | true =>
    have C := Lib.hid (fun W (hW : Below w.heap.size w W) => rl_v W (h.below hW) hk)
    clear h hk
    have EQ : Hid ((true && decide (l.redE ≤ n)) = decide (l.redE ≤ n)) := by show _ = _; simp
    go_enter Tryd.func40, Tryd.ntmps40
    go_wp2_with (first | (refine ldl rfl _ rfl _ _ rfl HV.out.head ?_) | (go_at_call 47; (with_reducible refine (C.out _ HV.out.old).mono ?_); rintro r W ⟨rfl, hb⟩; replace HV := Lib.hid (HV.out.grow hb); clear hb C; have c0 := Joins.cell_of_block HV.out.head 8; simp only [List.getElem?_toArray, List.getElem?_cons_zero, List.getElem?_cons_succ] at c0) | fail)
    go_ret
    exact ⟨ret_bool EQ.out.symm, HV.out.old⟩

set_option maxRecDepth 100000 in
theorem rhung_c (l : Lg) (n : Int) (w : World) (h : LawIn w l) : Calls Tryd.prog 41 #[.agg (lc l), .int .i64 n] w fun r w' => r = .returned (.bool (Sd.okB (la l) && decide (l.patience ≤ n))) ∧ Below w.heap.size w w' := by
  have HV := Lib.hid ((Hv.nil w).made (lo l))
  cases hk : Sd.okB (la l) with
  | false =>
    have C := Lib.hid (fun W (hW : Below w.heap.size w W) => rl_v W (h.below hW) hk)
    clear h hk
    have EQ : Hid ((false && decide (l.patience ≤ n)) = false) := by show _ = _; simp
    go_enter Tryd.func41, Tryd.ntmps41
    go_wp2_with (first | (refine ldl rfl _ rfl _ _ rfl HV.out.head ?_) | (go_at_call 47; (with_reducible refine (C.out _ HV.out.old).mono ?_); rintro r W ⟨rfl, hb⟩; replace HV := Lib.hid (HV.out.grow hb); clear hb C) | fail)
    go_ret
    exact ⟨ret_bool EQ.out.symm, HV.out.old⟩
  | true =>
    have C := Lib.hid (fun W (hW : Below w.heap.size w W) => rl_v W (h.below hW) hk)
    clear h hk
    have EQ : Hid ((true && decide (l.patience ≤ n)) = decide (l.patience ≤ n)) := by show _ = _; simp
    go_enter Tryd.func41, Tryd.ntmps41
    go_wp2_with (first | (refine ldl rfl _ rfl _ _ rfl HV.out.head ?_) | (go_at_call 47; (with_reducible refine (C.out _ HV.out.old).mono ?_); rintro r W ⟨rfl, hb⟩; replace HV := Lib.hid (HV.out.grow hb); clear hb C; have c0 := Joins.cell_of_block HV.out.head 11; simp only [List.getElem?_toArray, List.getElem?_cons_zero, List.getElem?_cons_succ] at c0) | fail)
    go_ret
    exact ⟨ret_bool EQ.out.symm, HV.out.old⟩

set_option maxRecDepth 100000 in
theorem raway_c (l : Lg) (lit : Bool) (n : Int) (w : World) (h : LawIn w l) : Calls Tryd.prog 39 #[.agg (lc l), .bool lit, .int .i64 n] w fun r w' => r = .returned (.bool (lit && (Sd.okB (la l) && decide (l.idle ≤ n)))) ∧ Below w.heap.size w w' := by
  have HV := Lib.hid ((Hv.nil w).made (lo l))
  cases hk : Sd.okB (la l) with
  | false =>
    have C := Lib.hid (fun W (hW : Below w.heap.size w W) => rl_v W (h.below hW) hk)
    clear h hk
    have EQ : Hid ((lit && (false && decide (l.idle ≤ n))) = false) := by show _ = _; simp
    go_enter Tryd.func39, Tryd.ntmps39
    go_wp2_with (first | (refine ldl rfl _ rfl _ _ rfl HV.out.head ?_) | (go_at_call 47; (with_reducible refine (C.out _ HV.out.old).mono ?_); rintro r W ⟨rfl, hb⟩; replace HV := Lib.hid (HV.out.grow hb); clear hb C) | fail)
    go_ret
    exact ⟨ret_bool EQ.out.symm, HV.out.old⟩
  | true =>
    have C := Lib.hid (fun W (hW : Below w.heap.size w W) => rl_v W (h.below hW) hk)
    clear h hk
    cases lit
    · have := 0
      have EQ : Hid ((false && (true && decide (l.idle ≤ n))) = false) := by show _ = _; simp
      go_enter Tryd.func39, Tryd.ntmps39
      go_wp2_with (first | (refine ldl rfl _ rfl _ _ rfl HV.out.head ?_) | (go_at_call 47; (with_reducible refine (C.out _ HV.out.old).mono ?_); rintro r W ⟨rfl, hb⟩; replace HV := Lib.hid (HV.out.grow hb); clear hb C; have c0 := Joins.cell_of_block HV.out.head 10; simp only [List.getElem?_toArray, List.getElem?_cons_zero, List.getElem?_cons_succ] at c0) | fail)
      go_ret
      exact ⟨ret_bool EQ.out.symm, HV.out.old⟩
    · have := 0
      have EQ : Hid ((true && (true && decide (l.idle ≤ n))) = decide (l.idle ≤ n)) := by show _ = _; simp
      go_enter Tryd.func39, Tryd.ntmps39
      go_wp2_with (first | (refine ldl rfl _ rfl _ _ rfl HV.out.head ?_) | (go_at_call 47; (with_reducible refine (C.out _ HV.out.old).mono ?_); rintro r W ⟨rfl, hb⟩; replace HV := Lib.hid (HV.out.grow hb); clear hb C; have c0 := Joins.cell_of_block HV.out.head 10; simp only [List.getElem?_toArray, List.getElem?_cons_zero, List.getElem?_cons_succ] at c0) | fail)
      go_ret
      exact ⟨ret_bool EQ.out.symm, HV.out.old⟩

end Bw
end Go.Proofs.YtodilljomjhohaaDoor

/- The document's own answers: which mode follows, the phase behind a frame, orders, which mode may follow which. Printed by gen_ref.py. -/
namespace Go.Proofs.YtodilljomjhohaaDoor
namespace Mw
open Go.RowKit TabC Lk Ew Hw Bw

set_option maxHeartbeats 4000000 in
theorem rallowed_c (a b : Int) (w : World) : Calls Tryd.prog 18 #[.int .i64 a, .int .i64 b] w fun r w' => r = .returned (.bool (Mm.allowed a b)) ∧ w' = w := by
  by_cases h : Mm.exist a = true ∧ Mm.exist b = true
  · rcases Mm.exist_iff.1 h.1 with rfl | rfl | rfl | rfl | rfl | rfl | rfl | rfl | rfl <;> rcases Mm.exist_iff.1 h.2 with rfl | rfl | rfl | rfl | rfl | rfl | rfl | rfl | rfl
    all_goals
      clear h
      go_enter Tryd.func18, Tryd.ntmps18
      go_wp2
      go_ret
      exact ⟨rfl, rfl⟩
  · have EQ : Hid (Mm.allowed a b = false) := Mm.allowed_out h
    have h' : a < 0 ∨ 8 < a ∨ b < 0 ∨ 8 < b := by simp only [Mm.exist, Bool.and_eq_true, decide_eq_true_eq] at h; omega
    clear h
    by_cases h1 : a < 0
    · clear h'
      go_enter Tryd.func18, Tryd.ntmps18
      go_wp2
      go_ret
      exact ⟨ret_bool EQ.out.symm, rfl⟩
    · by_cases h2 : 8 < a
      · clear h'
        have k1 : decide (a < 0) = false := by simpa using h1
        go_enter Tryd.func18, Tryd.ntmps18
        go_wp2
        go_ret
        exact ⟨ret_bool EQ.out.symm, rfl⟩
      · by_cases h3 : b < 0
        · clear h'
          go_enter Tryd.func18, Tryd.ntmps18
          go_wp2
          go_ret
          exact ⟨ret_bool EQ.out.symm, rfl⟩
        · have h4 : 8 < b := by omega
          clear h'
          go_enter Tryd.func18, Tryd.ntmps18
          go_wp2
          go_ret
          exact ⟨ret_bool EQ.out.symm, rfl⟩

theorem two_r (w : World) (e : Eg) : Hv w ((w.alloc (eo e)).alloc (oo false false false false)) [(w.heap.size + 1, oo false false false false), (w.heap.size, eo e)] := by
  have := ((Hv.nil w).made (eo e)).made (oo false false false false)
  simpa only [World.size_alloc] using this

set_option maxRecDepth 100000 in
set_option maxHeartbeats 4000000 in
theorem rorders_c (e : Eg) (m n : Int) (w : World) (h : EngIn w e) : Calls Tryd.prog 15 #[.agg (ec e), .int .i64 m, .int .i64 n] w fun r w' => r = .returned (.agg (od (Mm.starter (Sb.ready (en e) n) m) (Mm.spark m) (Mm.opn m) (Mm.opn m))) ∧ Below w.heap.size w w' := by
  have HV := Lib.hid (two_r w e)
  have C : Hid (∀ W, Below w.heap.size w W → Calls Tryd.prog 31 #[.agg (ec e), .int .i64 n] W fun r w' => r = .returned (.bool (Sb.ready (en e) n)) ∧ Below W.heap.size W w') := fun W hW => rready_c e n W (h.below hW)
  clear h
  generalize Sb.ready (en e) n = b at *
  by_cases h : m = 1 ∨ m = 2 ∨ m = 3 ∨ m = 4 ∨ m = 5 ∨ m = 7
  · rcases h with rfl | rfl | rfl | rfl | rfl | rfl
    all_goals
      cases b
      all_goals
        go_enter Tryd.func15, Tryd.ntmps15
        go_wp2_with (first | (refine lde rfl _ rfl _ _ rfl HV.out.h2 ?_) | (refine sto rfl _ _ rfl rfl _ false false false false _ _ _ _ rfl rfl HV.out.head ?_; intro w' hP hO; replace HV := Lib.hid (HV.out.old.trans (hO.below (by omega))); replace hP := Lib.hid hP; clear hO) | (go_at_call 31; (with_reducible refine (C.out _ HV.out.old).mono ?_); rintro r W ⟨rfl, hb⟩; replace HV := Lib.hid (HV.out.grow hb); clear hb) | fail)
        refine bodyPost_ret (res_o rfl _ _ _ _ _ _ _ rfl hP.out) rfl ?_
        exact ⟨rfl, HV.out⟩
  · have k1 : (m == 1) = false := by simp; omega
    have k2 : (m == 2) = false := by simp; omega
    have k3 : (m == 3) = false := by simp; omega
    have k4 : (m == 4) = false := by simp; omega
    have k5 : (m == 5) = false := by simp; omega
    have k7 : (m == 7) = false := by simp; omega
    have EQ : Hid (Mm.starter b m = false ∧ Mm.spark m = false ∧ Mm.opn m = false) := by
      show _ ∧ _ ∧ _
      simp [Mm.starter, Mm.spark, Mm.opn]; omega
    clear h
    go_enter Tryd.func15, Tryd.ntmps15
    go_wp2_with (first | (refine lde rfl _ rfl _ _ rfl HV.out.h2 ?_) | (refine sto rfl _ _ rfl rfl _ false false false false _ _ _ _ rfl rfl HV.out.head ?_; intro w' hP hO; replace HV := Lib.hid (HV.out.old.trans (hO.below (by omega))); replace hP := Lib.hid hP; clear hO) | (go_at_call 31; (with_reducible refine (C.out _ HV.out.old).mono ?_); rintro r W ⟨rfl, hb⟩; replace HV := Lib.hid (HV.out.grow hb); clear hb) | fail)
    refine bodyPost_ret (res_o rfl _ _ _ _ _ _ _ rfl hP.out) rfl ?_
    rw [EQ.out.1, EQ.out.2.1, EQ.out.2.2]
    exact ⟨rfl, HV.out⟩
end Mw
end Go.Proofs.YtodilljomjhohaaDoor

/- The document's own answers: which mode follows, the phase behind a frame, orders, which mode may follow which. Printed by gen_ref.py. -/
namespace Go.Proofs.YtodilljomjhohaaDoor
namespace Mw
open Go.RowKit TabC Lk Ew Hw Bw

/-- What follows lays for itself. -/
theorem four (w : World) (e : Eg) (l : Lg) (m c : Int) (s : Mm.Pan) : Hv w ((((w.alloc (eo e)).alloc (lo l)).alloc (po m c)).alloc (no s)) [(w.heap.size + 1 + 1 + 1, no s), (w.heap.size + 1 + 1, po m c), (w.heap.size + 1, lo l), (w.heap.size, eo e)] := by
  have := ((((Hv.nil w).made (eo e)).made (lo l)).made (po m c)).made (no s)
  simpa only [World.size_alloc] using this
abbrev RP (b : Nat) (m c : Int) (V : World) : Prop := V.cell? ⟨b, 0, none⟩ = some (.int .i64 m) ∧ V.cell? ⟨b, 1, none⟩ = some (.int .i64 c)
theorem rp {V : World} {b : Nat} {m c : Int} (h : V.heap[b]? = some (po m c)) : RP b m c V := ⟨Joins.cell_of_block h 0, Joins.cell_of_block h 1⟩
abbrev RN (b : Nat) (s : Mm.Pan) (V : World) : Prop := V.cell? ⟨b, 0, none⟩ = some (.bool s.master) ∧ V.cell? ⟨b, 1, none⟩ = some (.bool s.start) ∧ V.cell? ⟨b, 2, none⟩ = some (.bool s.crank) ∧ V.cell? ⟨b, 4, none⟩ = some (.int .i64 s.lever)
theorem rn {V : World} {b : Nat} {s : Mm.Pan} (h : V.heap[b]? = some (no s)) : RN b s V := ⟨Joins.cell_of_block h 0, Joins.cell_of_block h 1, Joins.cell_of_block h 2, Joins.cell_of_block h 4⟩

set_option maxRecDepth 100000 in
set_option maxHeartbeats 8000000 in
theorem rfollows_c (e : Eg) (l : Lg) (m c : Int) (s : Mm.Pan) (lit : Bool) (n h : Int) (w : World) (hE : EngIn w e) (hL : LawIn w l) : Calls Tryd.prog 29 #[.agg (ec e), .agg (lc l), .agg (ph m c), .agg (pn s), .bool lit, .int .i64 n, .int .i64 h] w fun r w' => r = .returned (.int .i64 (Mm.fol (see e l c s lit n h) m)) ∧ Below w.heap.size w w' := by
  have HV := Lib.hid (four w e l m c s)
  have D1 : Hid (∀ W, Below w.heap.size w W → Calls Tryd.prog 31 #[.agg (ec e), .int .i64 n] W fun r w' => r = .returned (.bool (Sb.ready (en e) n)) ∧ Below W.heap.size W w') := fun W hW => rready_c e n W (hE.below hW)
  have D2 : Hid (∀ W, Below w.heap.size w W → Calls Tryd.prog 39 #[.agg (lc l), .bool lit, .int .i64 n] W fun r w' => r = .returned (.bool (Sb.away (la l) lit n)) ∧ Below W.heap.size W w') := fun W hW => raway_c l lit n W (hL.below hW)
  have D3 : Hid (∀ W, Below w.heap.size w W → Calls Tryd.prog 40 #[.agg (lc l), .int .i64 h] W fun r w' => r = .returned (.bool (Sb.hot (la l) h)) ∧ Below W.heap.size W w') := fun W hW => rhot_c l h W (hL.below hW)
  have D4 : Hid (∀ W, Below w.heap.size w W → Calls Tryd.prog 41 #[.agg (lc l), .int .i64 c] W fun r w' => r = .returned (.bool (Sb.hung (la l) c)) ∧ Below W.heap.size W w') := fun W hW => rhung_c l c W (hL.below hW)
  obtain ⟨a1, a2, a3, a4, v⟩ := s
  obtain ⟨q, hq⟩ : ∃ q, Mm.fol (see e l c ⟨a1, a2, a3, a4, v⟩ lit n h) m = q := ⟨_, rfl⟩
  have EQ : Hid (Mm.fol ⟨⟨a1, a2, a3, a4, v⟩, lit, Sb.ready (en e) n, Sb.away (la l) lit n, Sb.hot (la l) h, Sb.hung (la l) c⟩ m = q) := hq
  rw [hq]
  generalize Sb.ready (en e) n = rd at *
  generalize Sb.away (la l) lit n = aw at *
  generalize Sb.hot (la l) h = ht at *
  generalize Sb.hung (la l) c = hg at *
  clear hq hE hL
  obtain ⟨c0, c1⟩ := rp HV.out.h2
  go_enter Tryd.func29, Tryd.ntmps29
  go_upto_region 1 with fail
  generalize hEE : Value.agg (ec e) = E at *
  generalize hLL : Value.agg (lc l) = L at *
  go_upto_region 6 with (first | (refine ldE' hEE rfl _ rfl _ rfl HV.out.h4 ?_) | (refine ldL' hLL rfl _ rfl _ rfl HV.out.h3 ?_) | (go_at_call 31; (with_reducible refine (D1.out _ HV.out.old).mono ?_); rintro r W ⟨rfl, hb⟩; replace HV := Lib.hid (HV.out.grow hb); clear hb c0 c1; obtain ⟨c0, c1⟩ := rp HV.out.h2) | (go_at_call 39; (with_reducible refine (D2.out _ HV.out.old).mono ?_); rintro r W ⟨rfl, hb⟩; replace HV := Lib.hid (HV.out.grow hb); clear hb c0 c1; obtain ⟨c0, c1⟩ := rp HV.out.h2) | (go_at_call 40; (with_reducible refine (D3.out _ HV.out.old).mono ?_); rintro r W ⟨rfl, hb⟩; replace HV := Lib.hid (HV.out.grow hb); clear hb c0 c1; obtain ⟨c0, c1⟩ := rp HV.out.h2) | (go_at_call 41; (with_reducible refine (D4.out _ HV.out.old).mono ?_); rintro r W ⟨rfl, hb⟩; replace HV := Lib.hid (HV.out.grow hb); clear hb c0 c1; obtain ⟨c0, c1⟩ := rp HV.out.h2) | fail)
  clear c0 c1 D1 D2 D3 D4
  obtain ⟨n0, n1, n2, n4⟩ := rn HV.out.head
  have HB := Lib.hid HV.out.old
  clear HV
  dsimp only at n0 n1 n2 n4
  by_cases hm : Mm.exist m = true
  · rcases Mm.exist_iff.1 hm with rfl | rfl | rfl | rfl | rfl | rfl | rfl | rfl | rfl
    · have EZ := Lib.hid ((Mm.fol0 _).symm.trans EQ.out)
      clear EQ hm
      cases a1 <;> cases a2 <;> cases a3
      all_goals
        go_wp2_with fail
        go_ret
        exact ⟨by rw [← EZ.out]; rfl, HB.out⟩
    · have EZ := Lib.hid ((Mm.fol1 _).symm.trans EQ.out)
      clear EQ hm
      cases a1 <;> cases a3
      all_goals
        go_wp2_with fail
        go_ret
        exact ⟨by rw [← EZ.out]; rfl, HB.out⟩
    · have EZ := Lib.hid ((Mm.fol2 _).symm.trans EQ.out)
      clear EQ hm
      cases a1
      · go_wp2_with fail
        go_ret
        exact ⟨by rw [← EZ.out]; rfl, HB.out⟩
      · skip
        cases rd
        rotate_left
        · go_wp2_with fail
          go_ret
          exact ⟨by rw [← EZ.out]; rfl, HB.out⟩
        · skip
          cases hg
          · go_wp2_with fail
            go_ret
            exact ⟨by rw [← EZ.out]; rfl, HB.out⟩
          · go_wp2_with fail
            go_ret
            exact ⟨by rw [← EZ.out]; rfl, HB.out⟩
    · have EZ := Lib.hid ((Mm.fol3 _).symm.trans EQ.out)
      clear EQ hm
      cases a1
      · go_wp2_with fail
        go_ret
        exact ⟨by rw [← EZ.out]; rfl, HB.out⟩
      · skip
        cases ht
        rotate_left
        · go_wp2_with fail
          go_ret
          exact ⟨by rw [← EZ.out]; rfl, HB.out⟩
        · skip
          cases aw
          rotate_left
          · go_wp2_with fail
            go_ret
            exact ⟨by rw [← EZ.out]; rfl, HB.out⟩
          · skip
            cases hg
            · go_wp2_with fail
              go_ret
              exact ⟨by rw [← EZ.out]; rfl, HB.out⟩
            · go_wp2_with fail
              go_ret
              exact ⟨by rw [← EZ.out]; rfl, HB.out⟩
    · have EZ := Lib.hid ((Mm.fol4 _).symm.trans EQ.out)
      clear EQ hm
      cases a1
      · go_wp2_with fail
        go_ret
        exact ⟨by rw [← EZ.out]; rfl, HB.out⟩
      · skip
        cases lit
        · go_wp2_with fail
          go_ret
          exact ⟨by rw [← EZ.out]; rfl, HB.out⟩
        · skip
          cases hv : decide (50 ≤ v)
          · go_wp2_with fail
            go_ret
            exact ⟨by rw [← EZ.out, hv]; rfl, HB.out⟩
          · go_wp2_with fail
            go_ret
            exact ⟨by rw [← EZ.out, hv]; rfl, HB.out⟩
    · have EZ := Lib.hid ((Mm.fol5 _).symm.trans EQ.out)
      clear EQ hm
      cases a1
      · go_wp2_with fail
        go_ret
        exact ⟨by rw [← EZ.out]; rfl, HB.out⟩
      · skip
        cases lit
        · go_wp2_with fail
          go_ret
          exact ⟨by rw [← EZ.out]; rfl, HB.out⟩
        · skip
          cases hv : decide (v < 50)
          · go_wp2_with fail
            go_ret
            exact ⟨by rw [← EZ.out, hv]; rfl, HB.out⟩
          · go_wp2_with fail
            go_ret
            exact ⟨by rw [← EZ.out, hv]; rfl, HB.out⟩
    · have EZ := Lib.hid ((Mm.fol6 _).symm.trans EQ.out)
      clear EQ hm
      cases a1 <;> cases rd
      all_goals
        go_wp2_with fail
        go_ret
        exact ⟨by rw [← EZ.out]; rfl, HB.out⟩
    · have EZ := Lib.hid ((Mm.fol7 _).symm.trans EQ.out)
      clear EQ hm
      cases a1
      · go_wp2_with fail
        go_ret
        exact ⟨by rw [← EZ.out]; rfl, HB.out⟩
      · skip
        cases ht
        rotate_left
        · go_wp2_with fail
          go_ret
          exact ⟨by rw [← EZ.out]; rfl, HB.out⟩
        · skip
          cases aw
          rotate_left
          · go_wp2_with fail
            go_ret
            exact ⟨by rw [← EZ.out]; rfl, HB.out⟩
          · skip
            cases hg
            · go_wp2_with fail
              go_ret
              exact ⟨by rw [← EZ.out]; rfl, HB.out⟩
            · go_wp2_with fail
              go_ret
              exact ⟨by rw [← EZ.out]; rfl, HB.out⟩
    · have EZ := Lib.hid ((Mm.fol8 _).symm.trans EQ.out)
      clear EQ hm
      cases a1
      all_goals
        go_wp2_with fail
        go_ret
        exact ⟨by rw [← EZ.out]; rfl, HB.out⟩
  · have EZ : Hid (q = 0) := by
      show _ = _
      rw [← EQ.out]
      unfold Mm.fol
      rw [if_neg hm]
    have h' : m < 0 ∨ 8 < m := by simp only [Mm.exist, Bool.and_eq_true, decide_eq_true_eq] at hm; omega
    clear hm EQ
    by_cases h1 : m < 0
    · clear h'
      go_wp2_with fail
      go_ret
      exact ⟨by rw [EZ.out]; rfl, HB.out⟩
    · have h2 : 8 < m := by omega
      clear h'
      go_wp2_with fail
      go_ret
      exact ⟨by rw [EZ.out]; rfl, HB.out⟩

end Mw
end Go.Proofs.YtodilljomjhohaaDoor

/- The document's own answer: the phase behind a frame. -/
namespace Go.Proofs.YtodilljomjhohaaDoor
namespace Mw
open Go.RowKit TabC Lk Ew Hw Bw

theorem five_r (w : World) (e : Eg) (l : Lg) (m c : Int) (s : Mm.Pan) : Hv w (((((w.alloc (eo e)).alloc (lo l)).alloc (po m c)).alloc (no s)).alloc (po 0 0)) [(w.heap.size + 1 + 1 + 1 + 1, po 0 0), (w.heap.size + 1 + 1 + 1, no s), (w.heap.size + 1 + 1, po m c), (w.heap.size + 1, lo l), (w.heap.size, eo e)] := by
  have := (((((Hv.nil w).made (eo e)).made (lo l)).made (po m c)).made (no s)).made (po 0 0)
  simpa only [World.size_alloc] using this

set_option maxRecDepth 100000 in
set_option maxHeartbeats 4000000 in
theorem rnext_c (e : Eg) (l : Lg) (m c : Int) (s : Mm.Pan) (lit : Bool) (n h : Int) (w : World) (hE : EngIn w e) (hL : LawIn w l) : Calls Tryd.prog 13 #[.agg (ec e), .agg (lc l), .agg (ph m c), .agg (pn s), .bool lit, .int .i64 n, .int .i64 h] w fun r w' => r = .returned (.agg (ph (Mm.nm (see e l c s lit n h) m) (Mm.nc (see e l c s lit n h) m c))) ∧ Below w.heap.size w w' := by
  have HV := Lib.hid (five_r w e l m c s)
  have D := Lib.hid (fun W (hW : Below w.heap.size w W) => rfollows_c e l m c s lit n h W (hE.below hW) (hL.below hW))
  clear hE hL
  unfold Mm.nm Mm.nc Mm.longer
  generalize Mm.fol (see e l c s lit n h) m = q at *
  obtain ⟨x, hx⟩ : ∃ x, max c 0 = x := ⟨_, rfl⟩
  obtain ⟨y, hy⟩ : ∃ y, min x 1073741823 = y := ⟨_, rfl⟩
  have h1 : 0 ≤ y := by omega
  have h2 : y ≤ 1073741823 := by omega
  rw [hx, hy]
  cases hq : decide (0 ≤ q)
  · have EQ : Hid ((if 0 ≤ q then q else m) = m ∧ (if 0 ≤ q then 0 else y + 1) = y + 1) := by
      have : ¬ 0 ≤ q := by simpa using hq
      exact ⟨if_neg this, if_neg this⟩
    rw [EQ.out.1, EQ.out.2]
    clear EQ
    go_enter Tryd.func13, Tryd.ntmps13
    go_upto_region 1 with fail
    generalize hEE : Value.agg (ec e) = E at *
    generalize hLL : Value.agg (lc l) = L at *
    go_wp2_with (first | (refine ldE' hEE rfl _ rfl _ rfl HV.out.tail.tail.tail.tail.head ?_) | (refine ldL' hLL rfl _ rfl _ rfl HV.out.h4 ?_) | (refine ldp rfl _ rfl _ _ _ rfl HV.out.h3 ?_) | (refine ldn rfl _ rfl _ _ rfl HV.out.h2 ?_) | (go_at_call 29; (with_reducible refine (D.out _ HV.out.old).mono ?_); rintro r W ⟨rfl, hb⟩; replace HV := Lib.hid (HV.out.grow hb); clear hb; obtain ⟨c0, c1⟩ := rp HV.out.h3) | (refine stp rfl _ _ rfl rfl _ 0 0 _ _ rfl rfl HV.out.head ?_; intro w' hP hO; replace HV := Lib.hid (HV.out.old.trans (hO.below (by omega))); replace hP := Lib.hid hP; clear hO) | fail)
    refine bodyPost_ret (res_p rfl _ _ _ _ _ rfl hP.out) rfl ?_
    exact ⟨rfl, HV.out⟩
  · have EQ : Hid ((if 0 ≤ q then q else m) = q ∧ (if 0 ≤ q then 0 else y + 1) = 0) := by
      have : 0 ≤ q := by simpa using hq
      exact ⟨if_pos this, if_pos this⟩
    rw [EQ.out.1, EQ.out.2]
    clear EQ
    go_enter Tryd.func13, Tryd.ntmps13
    go_upto_region 1 with fail
    generalize hEE : Value.agg (ec e) = E at *
    generalize hLL : Value.agg (lc l) = L at *
    go_wp2_with (first | (refine ldE' hEE rfl _ rfl _ rfl HV.out.tail.tail.tail.tail.head ?_) | (refine ldL' hLL rfl _ rfl _ rfl HV.out.h4 ?_) | (refine ldp rfl _ rfl _ _ _ rfl HV.out.h3 ?_) | (refine ldn rfl _ rfl _ _ rfl HV.out.h2 ?_) | (go_at_call 29; (with_reducible refine (D.out _ HV.out.old).mono ?_); rintro r W ⟨rfl, hb⟩; replace HV := Lib.hid (HV.out.grow hb); clear hb) | (refine stp rfl _ _ rfl rfl _ 0 0 _ _ rfl rfl HV.out.head ?_; intro w' hP hO; replace HV := Lib.hid (HV.out.old.trans (hO.below (by omega))); replace hP := Lib.hid hP; clear hO) | fail)
    refine bodyPost_ret (res_p rfl _ _ _ _ _ rfl hP.out) rfl ?_
    exact ⟨rfl, HV.out⟩
end Mw
end Go.Proofs.YtodilljomjhohaaDoor

/- The document's own answers: Rest and Model. -/
namespace Go.Proofs.YtodilljomjhohaaDoor
namespace Ew
open Go.RowKit TabC Lk



end Ew
end Go.Proofs.YtodilljomjhohaaDoor

/- Few, and the walk of SynthTells. -/
namespace Go.Proofs.YtodilljomjhohaaDoor
namespace Ew
open Go.RowKit TabC Lk

def fewE (e : Eg) : Bool := fewB e.f.xs e.f.ys && fewB e.p.xs e.p.ys && fewB e.q.xs e.q.ys && fewB e.h.xs e.h.ys

set_option maxRecDepth 100000 in
set_option maxHeartbeats 4000000 in
theorem few_e (e : Eg) (w : World) : Calls Tryd.prog 11 #[.agg (ec e)] w fun r w' => r = .returned (.bool (fewE e)) ∧ Below w.heap.size w w' := by
  have HV := Lib.hid (one_e w e)
  obtain ⟨c0, c1, c2, c3, c4, c5, c6, c7, _⟩ := efld HV.out.head
  obtain ⟨b1, h1⟩ : ∃ b, fewB e.f.xs e.f.ys = b := ⟨_, rfl⟩
  obtain ⟨b2, h2⟩ : ∃ b, fewB e.p.xs e.p.ys = b := ⟨_, rfl⟩
  obtain ⟨b3, h3⟩ : ∃ b, fewB e.q.xs e.q.ys = b := ⟨_, rfl⟩
  obtain ⟨b4, h4⟩ : ∃ b, fewB e.h.xs e.h.ys = b := ⟨_, rfl⟩
  rw [show fewE e = (b1 && b2 && b3 && b4) from by simp only [fewE, h1, h2, h3, h4]]
  have C1 := Lib.hid (fw_v h1)
  have C2 := Lib.hid (fw_v h2)
  have C3 := Lib.hid (fw_v h3)
  have C4 := Lib.hid (fw_v h4)
  clear h1 h2 h3 h4
  go_enter Tryd.func11, Tryd.ntmps11
  go_wp2_with (first | (go_at_call 21; (first | (with_reducible refine (C1.out _).mono ?_) | (with_reducible refine (C2.out _).mono ?_) | (with_reducible refine (C3.out _).mono ?_) | (with_reducible refine (C4.out _).mono ?_)); rintro r W ⟨rfl, hb⟩; replace HV := Lib.hid (HV.out.grow hb); clear hb c0 c1 c2 c3 c4 c5 c6 c7; obtain ⟨c0, c1, c2, c3, c4, c5, c6, c7, _⟩ := efld HV.out.head) | fail)
  all_goals
    go_ret
    exact ⟨ret_bool (by simp [*]), HV.out.old⟩

theorem few_v {e : Eg} {b : Bool} (h : fewE e = b) (W : World) : Calls Tryd.prog 11 #[.agg (ec e)] W fun r w' => r = .returned (.bool b) ∧ Below W.heap.size W w' := h ▸ few_e e W

end Ew
end Go.Proofs.YtodilljomjhohaaDoor

/- The walk of ModeTells, and of ModeNames. Printed by gen_laws.py. -/
namespace Go.Proofs.YtodilljomjhohaaDoor
namespace Mw
open Go.RowKit TabC Lk Ew Hw Bw

section
variable {op : Oper} {a : Act} {w : World}
/-- A struct, loaded as a whole, in a region that draws. -/
theorem rE {e : Eg} {E : Value} (hE : Value.agg (ec e) = E) (x : Operand) (ho : op.op = .load 27 x) (b : Nat) (hx : a.eval x = .pointer (some ⟨b, 0, none⟩)) (hP : w.heap[b]? = some (eo e)) : (execOp a.eval op).run Tryd.prog w = .ok (.value E) w := by
  subst hE; exact runE' hP x ho hx
theorem rL {l : Lg} {L : Value} (hL : Value.agg (lc l) = L) (x : Operand) (ho : op.op = .load 29 x) (b : Nat) (hx : a.eval x = .pointer (some ⟨b, 0, none⟩)) (hP : w.heap[b]? = some (lo l)) : (execOp a.eval op).run Tryd.prog w = .ok (.value L) w := by
  subst hL; exact runL' hP x ho hx
theorem rP {m c : Int} (x : Operand) (ho : op.op = .load 31 x) (b : Nat) (hx : a.eval x = .pointer (some ⟨b, 0, none⟩)) (hP : w.heap[b]? = some (po m c)) : (execOp a.eval op).run Tryd.prog w = .ok (.value (.agg (ph m c))) w := by
  unfold execOp
  simp only [ho, hx, Instr.loadAt, Instr.sureAddr, Sem.run_bind, Sem.run_pure, Result.andThen_ok, run_loadVar_row w b 31 31 (ph m c) (0, 0) _ hP Tryd.underlying31 rfl info_p]
theorem rN {s : Mm.Pan} (x : Operand) (ho : op.op = .load 33 x) (b : Nat) (hx : a.eval x = .pointer (some ⟨b, 0, none⟩)) (hP : w.heap[b]? = some (no s)) : (execOp a.eval op).run Tryd.prog w = .ok (.value (.agg (pn s))) w := by
  unfold execOp
  simp only [ho, hx, Instr.loadAt, Instr.sureAddr, Sem.run_bind, Sem.run_pure, Result.andThen_ok, run_loadVar_row w b 33 33 (pn s) (0, 0) _ hP Tryd.underlying33 rfl info_n]
end
/-- The rows lie still. -/
theorem ro {w W : World} {t : TypeId} (hR : w.heap[0]? = some (.cells rc t (0, 0))) (hb : Below w.heap.size w W) : W.heap[0]? = some (.cells rc t (0, 0)) := (hb.block 0 (Array.getElem?_eq_some_iff.1 hR).1).trans hR
/-- Four boxes, and the rows. -/
theorem four_l {w : World} {t : TypeId} (hR : w.heap[0]? = some (.cells rc t (0, 0))) (e : Eg) (l : Lg) (m c : Int) (s : Mm.Pan) : Hv w ((((w.alloc (eo e)).alloc (lo l)).alloc (po m c)).alloc (no s)) [(w.heap.size + 1 + 1 + 1, no s), (w.heap.size + 1 + 1, po m c), (w.heap.size + 1, lo l), (w.heap.size, eo e), (0, .cells rc t (0, 0))] := by
  have := (((((Hv.nil w).add (0, .cells rc t (0, 0)) hR).made (eo e)).made (lo l)).made (po m c)).made (no s)
  simpa only [World.size_alloc] using this
theorem three_l {w : World} {t : TypeId} (hR : w.heap[0]? = some (.cells rc t (0, 0))) (e : Eg) (l : Lg) (m c : Int) : Hv w (((w.alloc (eo e)).alloc (lo l)).alloc (po m c)) [(w.heap.size + 1 + 1, po m c), (w.heap.size + 1, lo l), (w.heap.size, eo e), (0, .cells rc t (0, 0))] := by
  have := ((((Hv.nil w).add (0, .cells rc t (0, 0)) hR).made (eo e)).made (lo l)).made (po m c)
  simpa only [World.size_alloc] using this
theorem two_l {w : World} {t : TypeId} (hR : w.heap[0]? = some (.cells rc t (0, 0))) (e : Eg) (l : Lg) : Hv w ((w.alloc (eo e)).alloc (lo l)) [(w.heap.size + 1, lo l), (w.heap.size, eo e), (0, .cells rc t (0, 0))] := by
  have := (((Hv.nil w).add (0, .cells rc t (0, 0)) hR).made (eo e)).made (lo l)
  simpa only [World.size_alloc] using this
/-- What lies while a region draws: an engine, laws, a phase and its mode, a panel. -/
abbrev S4 (N : Nat) (e : Eg) (l : Lg) (m c : Int) (s : Mm.Pan) (V : World) : Prop := V.heap[N]? = some (eo e) ∧ V.heap[N + 1]? = some (lo l) ∧ V.heap[N + 1 + 1]? = some (po m c) ∧ V.heap[N + 1 + 1 + 1]? = some (no s) ∧ V.cell? ⟨N + 1 + 1, 0, none⟩ = some (.int .i64 m)
theorem s4 {w V : World} {N : Nat} {e : Eg} {l : Lg} {m c : Int} {s : Mm.Pan} {t : TypeId} (h : Hv w V [(N + 1 + 1 + 1, no s), (N + 1 + 1, po m c), (N + 1, lo l), (N, eo e), (0, .cells rc t (0, 0))]) : S4 N e l m c s V := ⟨h.h4, h.h3, h.h2, h.head, Joins.cell_of_block h.h2 0⟩

set_option maxRecDepth 100000 in
set_option maxHeartbeats 8000000 in
theorem ModeNames_walk (t : TypeId) (w : World) (hR : w.heap[0]? = some (.cells rc t (0, 0))) : Calls Tryd.prog 3 #[] w fun r w' => r = .returned (.bool true) ∧ Below w.heap.size w w' := by
  have HV := Lib.hid (Hv.nil w)
  go_enter Tryd.func3, Tryd.ntmps3
  go_wp2_with (first | (go_at_call 9; (with_reducible refine (awake_c t _ hR).mono ?_); rintro r W ⟨rfl, hb⟩; replace HV := Lib.hid (HV.out.grow hb); clear hb) | fail)
  go_ret
  exact ⟨rfl, HV.out.old⟩

set_option maxRecDepth 100000 in
set_option maxHeartbeats 8000000 in
theorem ModeTells_few1 (e : Eg) (l : Lg) (m c : Int) (s : Mm.Pan) (lit : Bool) (n h : Int) (t : TypeId) (w : World) (hR : w.heap[0]? = some (.cells rc t (0, 0))) (h1 : fewL l = false) : Calls Tryd.prog 4 #[.agg (ec e), .agg (lc l), .agg (ph m c), .agg (pn s), .bool lit, .int .i64 n, .int .i64 h] w fun r w' => r = .returned (.bool true) ∧ Below w.heap.size w w' := by
  have HV := Lib.hid (four_l hR e l m c s)
  have F1 := Lib.hid (fewl_v h1)
  clear h1
  go_enter Tryd.func4, Tryd.ntmps4
  go_upto_region 1 with fail
  generalize hEE : Value.agg (ec e) = E at *
  generalize hLL : Value.agg (lc l) = L at *
  go_wp2_with (first | go_big_skip | (refine ldE' hEE rfl _ rfl _ rfl HV.out.tail.tail.tail.head ?_) | (refine ldL' hLL rfl _ rfl _ rfl HV.out.tail.tail.head ?_) | (go_at_call 9; (with_reducible refine (awake_c t _ HV.out.tail.tail.tail.tail.head).mono ?_); rintro r W ⟨rfl, hb⟩; replace HV := Lib.hid (HV.out.grow hb); clear hb) | (go_at_call 10; (with_reducible refine (F1.out _).mono ?_); rintro r W ⟨rfl, hb⟩; replace HV := Lib.hid (HV.out.grow hb); clear hb) | (go_at_call 11; (with_reducible refine (F2.out _).mono ?_); rintro r W ⟨rfl, hb⟩; replace HV := Lib.hid (HV.out.grow hb); clear hb) | fail)
  go_ret
  exact ⟨rfl, HV.out.old⟩

set_option maxRecDepth 100000 in
set_option maxHeartbeats 8000000 in
theorem ModeTells_few2 (e : Eg) (l : Lg) (m c : Int) (s : Mm.Pan) (lit : Bool) (n h : Int) (t : TypeId) (w : World) (hR : w.heap[0]? = some (.cells rc t (0, 0))) (h1 : fewL l = true) (h2 : fewE e = false) : Calls Tryd.prog 4 #[.agg (ec e), .agg (lc l), .agg (ph m c), .agg (pn s), .bool lit, .int .i64 n, .int .i64 h] w fun r w' => r = .returned (.bool true) ∧ Below w.heap.size w w' := by
  have HV := Lib.hid (four_l hR e l m c s)
  have F1 := Lib.hid (fewl_v h1)
  have F2 := Lib.hid (Ew.few_v h2)
  clear h1 h2
  go_enter Tryd.func4, Tryd.ntmps4
  go_upto_region 1 with fail
  generalize hEE : Value.agg (ec e) = E at *
  generalize hLL : Value.agg (lc l) = L at *
  go_wp2_with (first | go_big_skip | (refine ldE' hEE rfl _ rfl _ rfl HV.out.tail.tail.tail.head ?_) | (refine ldL' hLL rfl _ rfl _ rfl HV.out.tail.tail.head ?_) | (go_at_call 9; (with_reducible refine (awake_c t _ HV.out.tail.tail.tail.tail.head).mono ?_); rintro r W ⟨rfl, hb⟩; replace HV := Lib.hid (HV.out.grow hb); clear hb) | (go_at_call 10; (with_reducible refine (F1.out _).mono ?_); rintro r W ⟨rfl, hb⟩; replace HV := Lib.hid (HV.out.grow hb); clear hb) | (go_at_call 11; (with_reducible refine (F2.out _).mono ?_); rintro r W ⟨rfl, hb⟩; replace HV := Lib.hid (HV.out.grow hb); clear hb) | fail)
  go_ret
  exact ⟨rfl, HV.out.old⟩

theorem ord_t4 : Lk.orderedB (Lk.opsOf Tryd.f4 4) [(0, false), (1, false), (2, false), (3, false), (4, false), (5, false), (6, false), (8, false), (9, false), (10, false), (11, false), (12, false), (13, false), (14, false), (7, true), (15, true), (16, false), (17, false), (18, false), (19, false), (20, false), (21, false), (23, false), (24, false), (25, false), (26, false), (22, true), (27, true), (28, false), (29, false), (30, false)] = true := by kernel_rfl
theorem ord_t5 : Lk.orderedB (Lk.opsOf Tryd.f4 5) [(0, false), (1, false), (2, false), (3, false), (4, false), (5, false), (6, false), (8, false), (9, false), (10, false), (7, true), (11, false), (12, false), (13, false), (14, false), (15, false), (16, false), (17, false), (18, false)] = true := by kernel_rfl

set_option maxRecDepth 100000 in
set_option maxHeartbeats 8000000 in
theorem Tells_go (e : Eg) (l : Lg) (m c : Int) (s : Mm.Pan) (lit : Bool) (n h : Int) (t : TypeId) (w : World) (hE : EngIn w e) (hL : LawIn w l) (hR : w.heap[0]? = some (.cells rc t (0, 0))) (h1 : fewL l = true) (h2 : fewE e = true) : Calls Tryd.prog 4 #[.agg (ec e), .agg (lc l), .agg (ph m c), .agg (pn s), .bool lit, .int .i64 n, .int .i64 h] w fun r w' => r = .returned (.bool true) ∧ Below w.heap.size w w' := by
  have HV := Lib.hid (four_l hR e l m c s)
  have F1 := Lib.hid (fewl_v h1)
  have F2 := Lib.hid (Ew.few_v h2)
  have C1 := Lib.hid (fun W (hW : Below w.heap.size w W) => next_c e l m c s lit n h t W (hE.below hW) (hL.below hW) (ro hR hW))
  have D1 := Lib.hid (fun W (hW : Below w.heap.size w W) => rnext_c e l m c s lit n h W (hE.below hW) (hL.below hW))
  have C2 := Lib.hid (fun W (hW : Below w.heap.size w W) => orders_c e m n (Sb.ready (en e) n) W (fun V hV => ready_v (hE.below hW) rfl hV))
  have D2 := Lib.hid (fun W (hW : Below w.heap.size w W) => rorders_c e m n W (hE.below hW))
  have CB := Lib.hid (fun W => burns_c m W)
  generalize Mm.nm (see e l c s lit n h) m = q1 at C1 D1
  generalize Mm.nc (see e l c s lit n h) m c = q2 at C1 D1
  generalize Mm.starter (Sb.ready (en e) n) m = x1 at C2 D2
  generalize Mm.spark m = x2 at C2 D2
  generalize Mm.opn m = x3 at C2 D2
  clear hE hL h1 h2
  go_enter Tryd.func4, Tryd.ntmps4
  go_upto_region 1 with fail
  generalize hEE : Value.agg (ec e) = E at *
  generalize hLL : Value.agg (lc l) = L at *
  go_wp2_with (first | (refine ldE' hEE rfl _ rfl _ rfl HV.out.tail.tail.tail.head ?_) | (refine ldL' hLL rfl _ rfl _ rfl HV.out.tail.tail.head ?_) | (go_at_call 9; (with_reducible refine (awake_c t _ HV.out.tail.tail.tail.tail.head).mono ?_); rintro r W ⟨rfl, hb⟩; replace HV := Lib.hid (HV.out.grow hb); clear hb) | (go_at_call 10; (with_reducible refine (F1.out _).mono ?_); rintro r W ⟨rfl, hb⟩; replace HV := Lib.hid (HV.out.grow hb); clear hb) | (go_at_call 11; (with_reducible refine (F2.out _).mono ?_); rintro r W ⟨rfl, hb⟩; replace HV := Lib.hid (HV.out.grow hb); clear hb) | fail)
  refine wp_region_noPanic (Lk.wp_region_ordered ord_t4 (S4 w.heap.size e l m c s) (by kernel_rfl) (by kernel_rfl) (fun _ _ _ _ _ h => h) (by first | (with_reducible exact (s4 HV.out)) | (with_reducible exact (s4 HV.out.drew))) ?_)
  replace HV := Lib.hid HV.out.drew
  iterate 14 (refine Lk.ord_take ?_ rfl rfl ?_ ?_; rotate_left; (focus (intro w' hS; obtain ⟨s1, s2, s3, s4, s5⟩ := hS; first | (refine (rE hEE _ rfl _ rfl s1).trans ?_; with_reducible rfl) | (refine (rL hLL _ rfl _ rfl s2).trans ?_; with_reducible rfl) | (refine (rP _ rfl _ rfl s3).trans ?_; with_reducible rfl) | (refine (rN _ rfl _ rfl s4).trans ?_; with_reducible rfl) | (go_simp; try with_reducible rfl))); simp only [Act.put, List.setIfInBounds_toArray, List.set_cons_zero, List.set_cons_succ])
  refine Lk.ord_step rfl rfl (fun K hK => ?_)
  go_simp
  (with_reducible refine (C1.out _ HV.out.old).mono ?_)
  rintro r W ⟨rfl, hb⟩
  replace HV := Lib.hid (HV.out.grow hb)
  clear hb
  refine hK.out _ _ (by first | (with_reducible exact (s4 HV.out)) | (with_reducible exact (s4 HV.out.drew))) ?_
  clear hK K
  try simp only [Act.put, List.setIfInBounds_toArray, List.set_cons_zero, List.set_cons_succ]
  refine Lk.ord_step rfl rfl (fun K hK => ?_)
  go_simp
  (with_reducible refine (D1.out _ HV.out.old).mono ?_)
  rintro r W ⟨rfl, hb⟩
  replace HV := Lib.hid (HV.out.grow hb)
  clear hb
  refine hK.out _ _ (by first | (with_reducible exact (s4 HV.out)) | (with_reducible exact (s4 HV.out.drew))) ?_
  clear hK K
  try simp only [Act.put, List.setIfInBounds_toArray, List.set_cons_zero, List.set_cons_succ]
  iterate 10 (refine Lk.ord_take ?_ rfl rfl ?_ ?_; rotate_left; (focus (intro w' hS; obtain ⟨s1, s2, s3, s4, s5⟩ := hS; first | (refine (rE hEE _ rfl _ rfl s1).trans ?_; with_reducible rfl) | (refine (rL hLL _ rfl _ rfl s2).trans ?_; with_reducible rfl) | (refine (rP _ rfl _ rfl s3).trans ?_; with_reducible rfl) | (refine (rN _ rfl _ rfl s4).trans ?_; with_reducible rfl) | (go_simp; try with_reducible rfl))); simp only [Act.put, List.setIfInBounds_toArray, List.set_cons_zero, List.set_cons_succ])
  refine Lk.ord_step rfl rfl (fun K hK => ?_)
  go_simp
  (with_reducible refine (C2.out _ HV.out.old).mono ?_)
  rintro r W ⟨rfl, hb⟩
  replace HV := Lib.hid (HV.out.grow hb)
  clear hb
  refine hK.out _ _ (by first | (with_reducible exact (s4 HV.out)) | (with_reducible exact (s4 HV.out.drew))) ?_
  clear hK K
  try simp only [Act.put, List.setIfInBounds_toArray, List.set_cons_zero, List.set_cons_succ]
  refine Lk.ord_step rfl rfl (fun K hK => ?_)
  go_simp
  (with_reducible refine (D2.out _ HV.out.old).mono ?_)
  rintro r W ⟨rfl, hb⟩
  replace HV := Lib.hid (HV.out.grow hb)
  clear hb
  refine hK.out _ _ (by first | (with_reducible exact (s4 HV.out)) | (with_reducible exact (s4 HV.out.drew))) ?_
  clear hK K
  try simp only [Act.put, List.setIfInBounds_toArray, List.set_cons_zero, List.set_cons_succ]
  iterate 3 (refine Lk.ord_take ?_ rfl rfl ?_ ?_; rotate_left; (focus (intro w' hS; obtain ⟨s1, s2, s3, s4, s5⟩ := hS; first | (refine (rE hEE _ rfl _ rfl s1).trans ?_; with_reducible rfl) | (refine (rL hLL _ rfl _ rfl s2).trans ?_; with_reducible rfl) | (refine (rP _ rfl _ rfl s3).trans ?_; with_reducible rfl) | (refine (rN _ rfl _ rfl s4).trans ?_; with_reducible rfl) | (go_simp; try with_reducible rfl))); simp only [Act.put, List.setIfInBounds_toArray, List.set_cons_zero, List.set_cons_succ])
  refine Lk.ord_nil (NoPanic.normal ?_)
  go_wp2_with fail
  clear C1 C2 D1 D2 F1 F2
  by_cases h4 : m = 4
  · subst h4
    have EB : Hid (Mm.burns 4 = true) := rfl
    replace CB : Hid (∀ W : World, Calls Tryd.prog 16 #[.int .i64 4] W fun r w' => r = .returned (.bool true) ∧ w' = W) := fun W => yb 4 true EB.out W
    clear EB
    refine wp_region_noPanic (Lk.wp_region_ordered ord_t5 (fun V => V.cell? ⟨w.heap.size + 1 + 1, 0, none⟩ = some (.int .i64 4)) (by kernel_rfl) (by kernel_rfl) (fun _ _ _ _ _ h => h) (by first | (with_reducible exact (pfld HV.out.h2).1) | (with_reducible exact (pfld HV.out.drew.h2).1)) ?_)
    replace HV := Lib.hid HV.out.drew
    iterate 10 (refine Lk.ord_take ?_ rfl rfl ?_ ?_; rotate_left; (focus (intro w' hS; (try dsimp only at hS); go_simp; try with_reducible rfl)); simp only [Act.put, List.setIfInBounds_toArray, List.set_cons_zero, List.set_cons_succ])
    refine Lk.ord_step rfl rfl (fun K hK => ?_)
    go_simp
    (with_reducible refine (CB.out _).mono ?_)
    rintro r W ⟨rfl, rfl⟩
    refine hK.out _ _ (by first | (with_reducible exact (pfld HV.out.h2).1) | (with_reducible exact (pfld HV.out.drew.h2).1)) ?_
    clear hK K
    try simp only [Act.put, List.setIfInBounds_toArray, List.set_cons_zero, List.set_cons_succ]
    iterate 1 (refine Lk.ord_take ?_ rfl rfl ?_ ?_; rotate_left; (focus (intro w' hS; (try dsimp only at hS); go_simp; try with_reducible rfl)); simp only [Act.put, List.setIfInBounds_toArray, List.set_cons_zero, List.set_cons_succ])
    refine Lk.ord_skip rfl rfl ?_
    simp only [Act.put, List.setIfInBounds_toArray, List.set_cons_zero, List.set_cons_succ]
    refine Lk.ord_skip rfl rfl ?_
    simp only [Act.put, List.setIfInBounds_toArray, List.set_cons_zero, List.set_cons_succ]
    refine Lk.ord_skip rfl rfl ?_
    simp only [Act.put, List.setIfInBounds_toArray, List.set_cons_zero, List.set_cons_succ]
    iterate 4 (refine Lk.ord_take ?_ rfl rfl ?_ ?_; rotate_left; (focus (intro w' hS; (try dsimp only at hS); go_simp; try with_reducible rfl)); simp only [Act.put, List.setIfInBounds_toArray, List.set_cons_zero, List.set_cons_succ])
    refine Lk.ord_nil (NoPanic.normal ?_)
    go_wp2_with fail
    go_ret
    exact ⟨rfl, HV.out.old⟩
  · by_cases h5 : m = 5
    · clear h4
      subst h5
      have EB : Hid (Mm.burns 5 = true) := rfl
      replace CB : Hid (∀ W : World, Calls Tryd.prog 16 #[.int .i64 5] W fun r w' => r = .returned (.bool true) ∧ w' = W) := fun W => yb 5 true EB.out W
      clear EB
      refine wp_region_noPanic (Lk.wp_region_ordered ord_t5 (fun V => V.cell? ⟨w.heap.size + 1 + 1, 0, none⟩ = some (.int .i64 5)) (by kernel_rfl) (by kernel_rfl) (fun _ _ _ _ _ h => h) (by first | (with_reducible exact (pfld HV.out.h2).1) | (with_reducible exact (pfld HV.out.drew.h2).1)) ?_)
      replace HV := Lib.hid HV.out.drew
      iterate 10 (refine Lk.ord_take ?_ rfl rfl ?_ ?_; rotate_left; (focus (intro w' hS; (try dsimp only at hS); go_simp; try with_reducible rfl)); simp only [Act.put, List.setIfInBounds_toArray, List.set_cons_zero, List.set_cons_succ])
      refine Lk.ord_step rfl rfl (fun K hK => ?_)
      go_simp
      (with_reducible refine (CB.out _).mono ?_)
      rintro r W ⟨rfl, rfl⟩
      refine hK.out _ _ (by first | (with_reducible exact (pfld HV.out.h2).1) | (with_reducible exact (pfld HV.out.drew.h2).1)) ?_
      clear hK K
      try simp only [Act.put, List.setIfInBounds_toArray, List.set_cons_zero, List.set_cons_succ]
      iterate 8 (refine Lk.ord_take ?_ rfl rfl ?_ ?_; rotate_left; (focus (intro w' hS; (try dsimp only at hS); go_simp; try with_reducible rfl)); simp only [Act.put, List.setIfInBounds_toArray, List.set_cons_zero, List.set_cons_succ])
      refine Lk.ord_nil (NoPanic.normal ?_)
      go_wp2_with fail
      go_ret
      exact ⟨rfl, HV.out.old⟩
    · have k4 : (m == 4) = false := by simp [h4]
      have k5 : (m == 5) = false := by simp [h5]
      have EB : Hid (Mm.burns m = false) := by show _ = _; simp [Mm.burns, h4, h5]
      clear h4 h5
      replace CB : Hid (∀ W : World, Calls Tryd.prog 16 #[.int .i64 m] W fun r w' => r = .returned (.bool false) ∧ w' = W) := fun W => yb m false EB.out W
      clear EB
      refine wp_region_noPanic (Lk.wp_region_ordered ord_t5 (fun V => V.cell? ⟨w.heap.size + 1 + 1, 0, none⟩ = some (.int .i64 m)) (by kernel_rfl) (by kernel_rfl) (fun _ _ _ _ _ h => h) (by first | (with_reducible exact (pfld HV.out.h2).1) | (with_reducible exact (pfld HV.out.drew.h2).1)) ?_)
      replace HV := Lib.hid HV.out.drew
      iterate 10 (refine Lk.ord_take ?_ rfl rfl ?_ ?_; rotate_left; (focus (intro w' hS; (try dsimp only at hS); go_simp; try with_reducible rfl)); simp only [Act.put, List.setIfInBounds_toArray, List.set_cons_zero, List.set_cons_succ])
      refine Lk.ord_step rfl rfl (fun K hK => ?_)
      go_simp
      (with_reducible refine (CB.out _).mono ?_)
      rintro r W ⟨rfl, rfl⟩
      refine hK.out _ _ (by first | (with_reducible exact (pfld HV.out.h2).1) | (with_reducible exact (pfld HV.out.drew.h2).1)) ?_
      clear hK K
      try simp only [Act.put, List.setIfInBounds_toArray, List.set_cons_zero, List.set_cons_succ]
      iterate 8 (refine Lk.ord_take ?_ rfl rfl ?_ ?_; rotate_left; (focus (intro w' hS; (try dsimp only at hS); go_simp; try with_reducible rfl)); simp only [Act.put, List.setIfInBounds_toArray, List.set_cons_zero, List.set_cons_succ])
      refine Lk.ord_nil (NoPanic.normal ?_)
      go_wp2_with fail
      go_ret
      exact ⟨rfl, HV.out.old⟩

theorem ModeTells_walk (e : Eg) (l : Lg) (m c : Int) (s : Mm.Pan) (lit : Bool) (n h : Int) (t : TypeId) (w : World) (hE : EngIn w e) (hL : LawIn w l) (hR : w.heap[0]? = some (.cells rc t (0, 0))) : Calls Tryd.prog 4 #[.agg (ec e), .agg (lc l), .agg (ph m c), .agg (pn s), .bool lit, .int .i64 n, .int .i64 h] w fun r w' => r = .returned (.bool true) ∧ Below w.heap.size w w' := by
  cases h1 : fewL l with
  | false => exact ModeTells_few1 e l m c s lit n h t w hR h1
  | true =>
    cases h2 : fewE e with
    | false => exact ModeTells_few2 e l m c s lit n h t w hR h1 h2
    | true => exact Tells_go e l m c s lit n h t w hE hL hR h1 h2
end Mw
end Go.Proofs.YtodilljomjhohaaDoor

/- The rows of the package, as the start laid them. -/
namespace Go.Proofs.YtodilljomjhohaaDoor
namespace Mw
open Go Go.RowKit Go.WideShapes Go.ChangeShapes Go.ChangeAt

/-- What the row's condition lists. -/
abbrev laid : List (String × DataW Unit) := [("turbojet/mode.rows", Rows.laid_turbojet_mode_rows)]
theorem gRows : Tryd.prog.globalNamed "turbojet/mode.rows" = some 0 := by kernel_rfl
theorem tRows : (Tryd.prog.globals[0]?).map (·.type) = some 58 := by kernel_rfl
theorem c_rows : Tryd.prog.cellsOf 58 = 66 := by kernel_rfl
theorem c_row : Tryd.prog.cellsOf 57 = 3 := by kernel_rfl
theorem c_int : Tryd.prog.cellsOf 3 = 1 := by kernel_rfl
def rowD (r : Mm.R) : DataW Unit := .agg [.lit (.int .i64 r.f), .lit (.int .i64 r.w), .lit (.int .i64 r.t)]
theorem laid_is : (Rows.laid_turbojet_mode_rows : DataW Unit) = .agg (Mm.rows.map rowD) := by rfl

theorem chunk (i : Nat) (hi : i < 22) : (rc.toList.drop (i * 3)).take 3 = (rv (Mm.row i)).toList := by
  obtain rfl | rfl | rfl | rfl | rfl | rfl | rfl | rfl | rfl | rfl | rfl | rfl | rfl | rfl | rfl | rfl | rfl | rfl | rfl | rfl | rfl | rfl : i = 0 ∨ i = 1 ∨ i = 2 ∨ i = 3 ∨ i = 4 ∨ i = 5 ∨ i = 6 ∨ i = 7 ∨ i = 8 ∨ i = 9 ∨ i = 10 ∨ i = 11 ∨ i = 12 ∨ i = 13 ∨ i = 14 ∨ i = 15 ∨ i = 16 ∨ i = 17 ∨ i = 18 ∨ i = 19 ∨ i = 20 ∨ i = 21 := by omega
  all_goals rfl
theorem of_chunks {α : Type} {l r : List α} (hl : l.length = 66) (hr : r.length = 66) (h : ∀ i, i < 22 → (l.drop (i * 3)).take 3 = (r.drop (i * 3)).take 3) : l = r := by
  apply List.ext_getElem?
  intro j
  by_cases hj : j < 66
  · have := congrArg (·[j % 3]?) (h (j / 3) (by omega))
    simp only [List.getElem?_take, List.getElem?_drop, show j % 3 < 3 from Nat.mod_lt _ (by decide), if_true, show j / 3 * 3 + j % 3 = j from by omega] at this
    exact this
  · rw [List.getElem?_eq_none (by omega), List.getElem?_eq_none (by omega)]

theorem int_is {enc : TypeId × Value → Unit} {W : World} {sp : Nat → Bool} {held : Bool} {b f : Nat} {v : Value} {n : Int} {p : List MemPlace} {x : Option (DataW Unit × List MemPlace)} (h : DataW.trod enc Tryd.prog W b sp held f 3 [v] = x) (hx : x = some (.lit (.int .i64 n), p)) : v = .int .i64 n := by
  subst hx
  obtain ⟨m, e, h2, _⟩ := DataW.trod_int Tryd.underlying3 h
  have e' : v = .int .i64 m := by simpa using e
  have : n = m := by simpa using congrArg Prod.fst h2
  rw [e', this]
theorem row_is {enc : TypeId × Value → Unit} {W : World} {sp : Nat → Bool} {held : Bool} {b f : Nat} {cs : List Value} {r : Mm.R} {x : DataW Unit × List MemPlace} (h : DataW.trod enc Tryd.prog W b sp held f 57 cs = some x) (hx : x.1 = rowD r) : cs = (rv r).toList := by
  obtain ⟨xs, n, _, rfl, hl, hn, hh⟩ := DataW.trod_struct Tryd.underlying57 h
  rw [c_row] at hl
  match cs, hl, hh with
  | [c0, c1, c2], _, hh =>
    match xs, hn, hx, hh with
    | [x0, x1, x2], _, hx, hh =>
      simp only [rowD, List.map_cons, List.map_nil, DataW.agg.injEq, List.cons.injEq, and_true] at hx
      have h0 : DataW.trod enc Tryd.prog W b sp held n 3 (([c0, c1, c2].drop 0).take (Tryd.prog.cellsOf 3)) = some x0 := hh 0 _ rfl
      have h1 : DataW.trod enc Tryd.prog W b sp held n 3 (([c0, c1, c2].drop 1).take (Tryd.prog.cellsOf 3)) = some x1 := hh 1 _ rfl
      have h2 : DataW.trod enc Tryd.prog W b sp held n 3 (([c0, c1, c2].drop 2).take (Tryd.prog.cellsOf 3)) = some x2 := hh 2 _ rfl
      rw [c_int] at h0 h1 h2
      obtain rfl := int_is (p := x0.2) h0 (by rw [← hx.1])
      obtain rfl := int_is (p := x1.2) h1 (by rw [← hx.2.1])
      obtain rfl := int_is (p := x2.2) h2 (by rw [← hx.2.2])
      rfl

theorem rows_is {enc : TypeId × Value → Unit} {W : World} {sp : Nat → Bool} {held : Bool} {b f : Nat} {cs : List Value} {p : List MemPlace} (h : DataW.trod enc Tryd.prog W b sp held f 58 cs = some (Rows.laid_turbojet_mode_rows, p)) : cs = rc.toList := by
  obtain ⟨xs, n, _, hx, hl, hn, hh⟩ := DataW.trod_array Tryd.underlying58 h
  rw [c_rows] at hl
  rw [c_row] at hh
  refine of_chunks hl rfl fun i hi => ?_
  rw [chunk i hi]
  have h1 : xs.map (·.1) = Mm.rows.map rowD := by
    have := congrArg Prod.fst hx
    rw [laid_is] at this
    exact (DataW.agg.inj this).symm
  obtain ⟨x, he⟩ : ∃ x, xs[i]? = some x := ⟨xs[i]'(by omega), List.getElem?_eq_getElem _⟩
  have h2 := hh i hi
  rw [he] at h2
  refine row_is h2 ?_
  have h3 := congrArg (·[i]?) h1
  simp only [List.getElem?_map, he, Option.map_some] at h3
  have hi' : i < Mm.rows.length := hi
  rw [List.getElem?_eq_getElem hi'] at h3
  have h4 : Mm.row i = Mm.rows[i] := by simp [Mm.row, hi']
  rw [h4]
  exact Option.some.inj h3

/-- What the condition gives the walks. -/
theorem of_laid {W : World} (h : laidMetH Tryd.prog laid W) : ∃ t, W.heap[0]? = some (.cells rc t (0, 0)) := by
  rw [MakeChecks.laidMetH_plain _ _ _ (by kernel_rfl)] at h
  obtain ⟨ps, ⟨g0, t0, cs0, f0, p0, q0, hg0, ht0, hv0, hd0, _, hps⟩, _, hc⟩ := h
  obtain rfl := Option.some.inj (gRows.symm.trans hg0)
  obtain rfl := Option.some.inj (tRows.symm.trans ht0)
  have hcs : cs0 = rc := Array.toList_inj.1 (rows_is hd0)
  subst hcs
  obtain ⟨⟨c, t, hb⟩, _⟩ := hc 0 0 (by rw [hps]; exact List.mem_append_left _ (List.mem_append_left _ (List.mem_map.2 ⟨0, List.mem_range.2 (Nat.lt_of_lt_of_eq (by decide : 0 < 66) (by kernel_rfl)), rfl⟩)))
  refine ⟨t, ?_⟩
  simp only [World.var?, gRows, Option.bind_some, hb] at hv0
  rw [hb, Option.some.inj hv0]

/-- The start's own heap meets the condition. -/
theorem door_met (os : Os) (args : Array Value) : laidMetH Tryd.prog laid ((World.doorLaid Tryd.prog 36 os).forCall (fun _ _ => 0) ⟨#[], args, []⟩).memory :=
  laidMetH_of_parts3 (fuel := 8) (laidMet_of_run' 8 (by kernel_rfl) (by kernel_rfl)) (by kernel_rfl) (by kernel_rfl)
end Mw
end Go.Proofs.YtodilljomjhohaaDoor

/- A table that came in as an argument, opened. -/
namespace Go.Proofs.YtodilljomjhohaaDoor
namespace TabC
open Go.RowKit Go.WideShapes Go.ChangeShapes Go.ChangeAt Go.Joins

theorem cellsInt : Tryd.prog.cellsOf 3 = 1 := by kernel_rfl
theorem cellsTab : Tryd.prog.cellsOf 25 = 2 := by kernel_rfl

/-- A cell that reads as a slice of integers. -/
theorem open_ints_cell {H : Type} {enc : TypeId × Value → H} {P : Program} {t e : TypeId} {k : IntKind} {W : World} {fuel : Nat} {v : Value} {y : DataW H × List MemPlace} (ht : P.underlying t = some (.slice e)) (he : P.underlying e = some (.int k)) (hc : P.cellsOf e = 1)
    (h : DataW.trod enc P W 0 (fun _ => true) true fuel t [v] = some y) :
    ∃ (A : Option Addr) (l : List Int) (cap : Nat), v = .slice A l.length cap ∧ l.length ≤ cap ∧ cap ≤ maxLen ∧ Lk.IntsAt W k A l := by
  rcases open_ints ht he hc h with ⟨hcs, _⟩ | ⟨a, len, cap, zs, hcs, _, hlc, hm, hz, _, hcell, _⟩
  · simp only [List.cons.injEq, and_true] at hcs
    subst hcs
    exact ⟨none, [], 0, rfl, Nat.le_refl _, Nat.zero_le _, fun i hi => by simp at hi⟩
  · simp only [List.cons.injEq, and_true] at hcs
    subst hcs
    have hzl : len ≤ zs.length := by rw [hz]; simpa using hlc
    have hl : (zs.take len).length = len := by simp; omega
    refine ⟨some a, zs.take len, cap, by rw [hl], by omega, hm, ?_⟩
    intro i hi
    rw [hl] at hi
    obtain ⟨b, off, rfl, hcc⟩ := ints_at hcell (by omega)
    refine ⟨b, off, rfl, ?_⟩
    rw [hcc i (by omega)]
    simp [List.getD_eq_getElem?_getD, hi]

theorem open_tab {H : Type} {enc : TypeId × Value → H} {W : World} {base : Nat} {v : Value} {d : DataW H} {ps : List MemPlace}
    (hv : Value.okWide Tryd.prog W .any base 25 v) (h : DataW.Trod enc Tryd.prog W 0 (fun _ => true) true 25 v d ps) :
    ∃ (A B : Option Addr) (ca cb : Nat) (xs ys : List Int), v = .agg #[.slice A xs.length ca, .slice B ys.length cb] ∧ TabIn W A B xs ys := by
  obtain ⟨c0, c1, y0, y1, m, rfl, rfl, rfl, hy0, hy1⟩ := open_agg2 Tryd.underlying25 (by kernel_rfl) cellsTab hv h
  obtain ⟨A, xs, ca, rfl, h1, h2, hA⟩ := open_ints_cell Tryd.underlying23 Tryd.underlying3 cellsInt hy0
  obtain ⟨B, ys, cb, rfl, h3, h4, hB⟩ := open_ints_cell Tryd.underlying23 Tryd.underlying3 cellsInt hy1
  unfold maxLen at h2 h4
  exact ⟨A, B, ca, cb, xs, ys, rfl, ⟨by omega, by omega, hA, hB⟩⟩

end TabC
end Go.Proofs.YtodilljomjhohaaDoor

/- An engine, and an array of five, that came in as arguments, opened. -/
namespace Go.Proofs.YtodilljomjhohaaDoor
namespace Ew
open Go.RowKit Go.WideShapes Go.ChangeShapes Go.ChangeAt Go.Joins TabC

theorem cells_e : Tryd.prog.cellsOf 27 = 16 := by kernel_rfl

theorem cells_t : Tryd.prog.cellsOf 25 = 2 := by kernel_rfl
theorem cells_i : Tryd.prog.cellsOf 3 = 1 := by kernel_rfl
theorem cells_s : Tryd.prog.cellsOf 23 = 1 := by kernel_rfl

section

variable {H : Type} {enc : TypeId × Value → H} {W : World}
theorem one_int {f : Nat} {v : Value} {x : Option (DataW H × List MemPlace)} (hx : x.isSome = true) (h : DataW.trod enc Tryd.prog W 0 (fun _ => true) true f 3 [v] = x) : ∃ n, v = .int .i64 n := by
  obtain ⟨y, rfl⟩ := Option.isSome_iff_exists.1 hx
  obtain ⟨n, e, _⟩ := DataW.trod_int Tryd.underlying3 h
  exact ⟨n, by simpa using e⟩
theorem one_tab {f : Nat} {a b : Value} {x : Option (DataW H × List MemPlace)} (hx : x.isSome = true) (h : DataW.trod enc Tryd.prog W 0 (fun _ => true) true f 25 [a, b] = x) : ∃ t : Tv, (a = .slice t.A t.xs.length t.ca ∧ b = .slice t.B t.ys.length t.cb) ∧ TabIn W t.A t.B t.xs t.ys := by
  obtain ⟨y, rfl⟩ := Option.isSome_iff_exists.1 hx
  obtain ⟨xs, n, _, _, _, hn, hh⟩ := DataW.trod_struct Tryd.underlying25 h
  have k : ∀ i, i < 2 → xs[i]?.isSome = true := fun i hi => by simp [hn, hi]
  have h0 : DataW.trod enc Tryd.prog W 0 (fun _ => true) true n 23 (([a, b].drop 0).take (Tryd.prog.cellsOf 23)) = xs[0]? := hh 0 _ rfl
  have h1 : DataW.trod enc Tryd.prog W 0 (fun _ => true) true n 23 (([a, b].drop 1).take (Tryd.prog.cellsOf 23)) = xs[1]? := hh 1 _ rfl
  rw [cells_s] at h0 h1
  obtain ⟨y0, e0⟩ := Option.isSome_iff_exists.1 (k 0 (by decide))
  obtain ⟨y1, e1⟩ := Option.isSome_iff_exists.1 (k 1 (by decide))
  obtain ⟨A0, l0, cx, r0, _, m0, hX⟩ := open_ints_cell Tryd.underlying23 Tryd.underlying3 cells_i (h0.trans e0)
  obtain ⟨A1, l1, cy, r1, _, m1, hY⟩ := open_ints_cell Tryd.underlying23 Tryd.underlying3 cells_i (h1.trans e1)
  unfold maxLen at m0 m1
  exact ⟨⟨A0, A1, cx, cy, l0, l1⟩, ⟨r0, r1⟩, ⟨by show l0.length ≤ _; omega, by show l1.length ≤ _; omega, hX, hY⟩⟩

theorem list16 {α : Type} {l : List α} (h : l.length = 16) : ∃ c0 c1 c2 c3 c4 c5 c6 c7 c8 c9 c10 c11 c12 c13 c14 c15, l = [c0, c1, c2, c3, c4, c5, c6, c7, c8, c9, c10, c11, c12, c13, c14, c15] := by
  match l, h with
  | [c0, c1, c2, c3, c4, c5, c6, c7, c8, c9, c10, c11, c12, c13, c14, c15], _ => exact ⟨c0, c1, c2, c3, c4, c5, c6, c7, c8, c9, c10, c11, c12, c13, c14, c15, rfl⟩

/-- Sixteen cells that read as an engine. -/
theorem e_cells {f : Nat} {cs : List Value} {x : DataW H × List MemPlace} (h : DataW.trod enc Tryd.prog W 0 (fun _ => true) true f 27 cs = some x) : ∃ e : Eg, cs = (ec e).toList ∧ EngIn W e := by
  obtain ⟨xs, n, _, _, hl, hn, hh⟩ := DataW.trod_struct Tryd.underlying27 h
  rw [cells_e] at hl
  obtain ⟨c0, c1, c2, c3, c4, c5, c6, c7, c8, c9, c10, c11, c12, c13, c14, c15, rfl⟩ := list16 hl
  have k : ∀ i, i < 12 → xs[i]?.isSome = true := fun i hi => by simp [hn, hi]
  have h0 : DataW.trod enc Tryd.prog W 0 (fun _ => true) true n 25 (([c0, c1, c2, c3, c4, c5, c6, c7, c8, c9, c10, c11, c12, c13, c14, c15].drop 0).take (Tryd.prog.cellsOf 25)) = xs[0]? := hh 0 _ rfl
  have h1 : DataW.trod enc Tryd.prog W 0 (fun _ => true) true n 25 (([c0, c1, c2, c3, c4, c5, c6, c7, c8, c9, c10, c11, c12, c13, c14, c15].drop 2).take (Tryd.prog.cellsOf 25)) = xs[1]? := hh 1 _ rfl
  have h2 : DataW.trod enc Tryd.prog W 0 (fun _ => true) true n 25 (([c0, c1, c2, c3, c4, c5, c6, c7, c8, c9, c10, c11, c12, c13, c14, c15].drop 4).take (Tryd.prog.cellsOf 25)) = xs[2]? := hh 2 _ rfl
  have h3 : DataW.trod enc Tryd.prog W 0 (fun _ => true) true n 25 (([c0, c1, c2, c3, c4, c5, c6, c7, c8, c9, c10, c11, c12, c13, c14, c15].drop 6).take (Tryd.prog.cellsOf 25)) = xs[3]? := hh 3 _ rfl
  have h4 : DataW.trod enc Tryd.prog W 0 (fun _ => true) true n 3 (([c0, c1, c2, c3, c4, c5, c6, c7, c8, c9, c10, c11, c12, c13, c14, c15].drop 8).take (Tryd.prog.cellsOf 3)) = xs[4]? := hh 4 _ rfl
  have h5 : DataW.trod enc Tryd.prog W 0 (fun _ => true) true n 3 (([c0, c1, c2, c3, c4, c5, c6, c7, c8, c9, c10, c11, c12, c13, c14, c15].drop 9).take (Tryd.prog.cellsOf 3)) = xs[5]? := hh 5 _ rfl
  have h6 : DataW.trod enc Tryd.prog W 0 (fun _ => true) true n 3 (([c0, c1, c2, c3, c4, c5, c6, c7, c8, c9, c10, c11, c12, c13, c14, c15].drop 10).take (Tryd.prog.cellsOf 3)) = xs[6]? := hh 6 _ rfl
  have h7 : DataW.trod enc Tryd.prog W 0 (fun _ => true) true n 3 (([c0, c1, c2, c3, c4, c5, c6, c7, c8, c9, c10, c11, c12, c13, c14, c15].drop 11).take (Tryd.prog.cellsOf 3)) = xs[7]? := hh 7 _ rfl
  have h8 : DataW.trod enc Tryd.prog W 0 (fun _ => true) true n 3 (([c0, c1, c2, c3, c4, c5, c6, c7, c8, c9, c10, c11, c12, c13, c14, c15].drop 12).take (Tryd.prog.cellsOf 3)) = xs[8]? := hh 8 _ rfl
  have h9 : DataW.trod enc Tryd.prog W 0 (fun _ => true) true n 3 (([c0, c1, c2, c3, c4, c5, c6, c7, c8, c9, c10, c11, c12, c13, c14, c15].drop 13).take (Tryd.prog.cellsOf 3)) = xs[9]? := hh 9 _ rfl
  have h10 : DataW.trod enc Tryd.prog W 0 (fun _ => true) true n 3 (([c0, c1, c2, c3, c4, c5, c6, c7, c8, c9, c10, c11, c12, c13, c14, c15].drop 14).take (Tryd.prog.cellsOf 3)) = xs[10]? := hh 10 _ rfl
  have h11 : DataW.trod enc Tryd.prog W 0 (fun _ => true) true n 3 (([c0, c1, c2, c3, c4, c5, c6, c7, c8, c9, c10, c11, c12, c13, c14, c15].drop 15).take (Tryd.prog.cellsOf 3)) = xs[11]? := hh 11 _ rfl
  rw [cells_t] at h0 h1 h2 h3
  rw [cells_i] at h4 h5 h6 h7 h8 h9 h10 h11
  obtain ⟨t0, ⟨rfl, rfl⟩, g0⟩ := one_tab (k 0 (by decide)) h0
  obtain ⟨t1, ⟨rfl, rfl⟩, g1⟩ := one_tab (k 1 (by decide)) h1
  obtain ⟨t2, ⟨rfl, rfl⟩, g2⟩ := one_tab (k 2 (by decide)) h2
  obtain ⟨t3, ⟨rfl, rfl⟩, g3⟩ := one_tab (k 3 (by decide)) h3
  obtain ⟨n4, rfl⟩ := one_int (k 4 (by decide)) h4
  obtain ⟨n5, rfl⟩ := one_int (k 5 (by decide)) h5
  obtain ⟨n6, rfl⟩ := one_int (k 6 (by decide)) h6
  obtain ⟨n7, rfl⟩ := one_int (k 7 (by decide)) h7
  obtain ⟨n8, rfl⟩ := one_int (k 8 (by decide)) h8
  obtain ⟨n9, rfl⟩ := one_int (k 9 (by decide)) h9
  obtain ⟨n10, rfl⟩ := one_int (k 10 (by decide)) h10
  obtain ⟨n11, rfl⟩ := one_int (k 11 (by decide)) h11
  exact ⟨⟨t0, t1, t2, t3, n4, n5, n6, n7, n8, n9, n10, n11⟩, rfl, ⟨g0, g1, g2, g3⟩⟩

end

theorem open_e {H : Type} {enc : TypeId × Value → H} {W : World} {base : Nat} {v : Value} {d : DataW H} {ps : List MemPlace} (hv : Value.okWide Tryd.prog W .any base 27 v) (h : DataW.Trod enc Tryd.prog W 0 (fun _ => true) true 27 v d ps) :
    ∃ e : Eg, v = .agg (ec e) ∧ EngIn W e := by
  obtain ⟨cs, rfl, hsz⟩ := okWide_struct Tryd.underlying27 hv
  obtain ⟨fuel, hf⟩ := h
  obtain ⟨e, hp, hE⟩ := e_cells hf
  refine ⟨e, ?_, hE⟩
  have : cs.toList = (ec e).toList := by simpa [Value.cells] using hp
  rw [Array.toList_inj.1 this]

theorem okWide_arr {P : Program} {w : World} {r : Reach} {base : Nat} {t : TypeId} {v : Value} {n : Nat} {e : TypeId} (ht : P.underlying t = some (.array n e)) (h : Value.okWide P w r base t v) : ∃ cs, v = .agg cs ∧ cs.size = P.cellsOf t := by
  simp only [Value.okWide, ht] at h
  obtain ⟨cs, h1, h2, _⟩ := h
  exact ⟨cs, h1, h2⟩
theorem list5 {α : Type} {l : List α} (h : l.length = 5) : ∃ a b c d e, l = [a, b, c, d, e] := by
  match l, h with
  | [a, b, c, d, e], _ => exact ⟨a, b, c, d, e, rfl⟩

end Ew
end Go.Proofs.YtodilljomjhohaaDoor

/- Laws that came in as arguments, opened. -/
namespace Go.Proofs.YtodilljomjhohaaDoor
namespace Hw
open Go.RowKit Go.WideShapes Go.ChangeShapes Go.ChangeAt Go.Joins TabC Ew

theorem cells_l : Tryd.prog.cellsOf 29 = 12 := by kernel_rfl
section
variable {H : Type} {enc : TypeId × Value → H} {W : World}
theorem list12 {α : Type} {l : List α} (h : l.length = 12) : ∃ c0 c1 c2 c3 c4 c5 c6 c7 c8 c9 c10 c11, l = [c0, c1, c2, c3, c4, c5, c6, c7, c8, c9, c10, c11] := by
  match l, h with
  | [c0, c1, c2, c3, c4, c5, c6, c7, c8, c9, c10, c11], _ => exact ⟨c0, c1, c2, c3, c4, c5, c6, c7, c8, c9, c10, c11, rfl⟩
/-- Twelve cells that read as laws. -/
theorem l_cells {f : Nat} {cs : List Value} {x : DataW H × List MemPlace} (h : DataW.trod enc Tryd.prog W 0 (fun _ => true) true f 29 cs = some x) : ∃ l : Lg, cs = (lc l).toList ∧ LawIn W l := by
  obtain ⟨xs, n, _, _, hl, hn, hh⟩ := DataW.trod_struct Tryd.underlying29 h
  rw [cells_l] at hl
  obtain ⟨c0, c1, c2, c3, c4, c5, c6, c7, c8, c9, c10, c11, rfl⟩ := list12 hl
  have k : ∀ i, i < 9 → xs[i]?.isSome = true := fun i hi => by simp [hn, hi]
  have h0 : DataW.trod enc Tryd.prog W 0 (fun _ => true) true n 25 (([c0, c1, c2, c3, c4, c5, c6, c7, c8, c9, c10, c11].drop 0).take (Tryd.prog.cellsOf 25)) = xs[0]? := hh 0 _ rfl
  have h1 : DataW.trod enc Tryd.prog W 0 (fun _ => true) true n 25 (([c0, c1, c2, c3, c4, c5, c6, c7, c8, c9, c10, c11].drop 2).take (Tryd.prog.cellsOf 25)) = xs[1]? := hh 1 _ rfl
  have h2 : DataW.trod enc Tryd.prog W 0 (fun _ => true) true n 25 (([c0, c1, c2, c3, c4, c5, c6, c7, c8, c9, c10, c11].drop 4).take (Tryd.prog.cellsOf 25)) = xs[2]? := hh 2 _ rfl
  have h3 : DataW.trod enc Tryd.prog W 0 (fun _ => true) true n 3 (([c0, c1, c2, c3, c4, c5, c6, c7, c8, c9, c10, c11].drop 6).take (Tryd.prog.cellsOf 3)) = xs[3]? := hh 3 _ rfl
  have h4 : DataW.trod enc Tryd.prog W 0 (fun _ => true) true n 3 (([c0, c1, c2, c3, c4, c5, c6, c7, c8, c9, c10, c11].drop 7).take (Tryd.prog.cellsOf 3)) = xs[4]? := hh 4 _ rfl
  have h5 : DataW.trod enc Tryd.prog W 0 (fun _ => true) true n 3 (([c0, c1, c2, c3, c4, c5, c6, c7, c8, c9, c10, c11].drop 8).take (Tryd.prog.cellsOf 3)) = xs[5]? := hh 5 _ rfl
  have h6 : DataW.trod enc Tryd.prog W 0 (fun _ => true) true n 3 (([c0, c1, c2, c3, c4, c5, c6, c7, c8, c9, c10, c11].drop 9).take (Tryd.prog.cellsOf 3)) = xs[6]? := hh 6 _ rfl
  have h7 : DataW.trod enc Tryd.prog W 0 (fun _ => true) true n 3 (([c0, c1, c2, c3, c4, c5, c6, c7, c8, c9, c10, c11].drop 10).take (Tryd.prog.cellsOf 3)) = xs[7]? := hh 7 _ rfl
  have h8 : DataW.trod enc Tryd.prog W 0 (fun _ => true) true n 3 (([c0, c1, c2, c3, c4, c5, c6, c7, c8, c9, c10, c11].drop 11).take (Tryd.prog.cellsOf 3)) = xs[8]? := hh 8 _ rfl
  rw [cells_t] at h0 h1 h2
  rw [cells_i] at h3 h4 h5 h6 h7 h8
  obtain ⟨t0, ⟨rfl, rfl⟩, g0⟩ := one_tab (k 0 (by decide)) h0
  obtain ⟨t1, ⟨rfl, rfl⟩, g1⟩ := one_tab (k 1 (by decide)) h1
  obtain ⟨t2, ⟨rfl, rfl⟩, g2⟩ := one_tab (k 2 (by decide)) h2
  obtain ⟨n3, rfl⟩ := one_int (k 3 (by decide)) h3
  obtain ⟨n4, rfl⟩ := one_int (k 4 (by decide)) h4
  obtain ⟨n5, rfl⟩ := one_int (k 5 (by decide)) h5
  obtain ⟨n6, rfl⟩ := one_int (k 6 (by decide)) h6
  obtain ⟨n7, rfl⟩ := one_int (k 7 (by decide)) h7
  obtain ⟨n8, rfl⟩ := one_int (k 8 (by decide)) h8
  exact ⟨⟨t0, t1, t2, n3, n4, n5, n6, n7, n8⟩, rfl, ⟨g0, g1, g2⟩⟩
end
theorem open_l {H : Type} {enc : TypeId × Value → H} {W : World} {base : Nat} {v : Value} {d : DataW H} {ps : List MemPlace} (hv : Value.okWide Tryd.prog W .any base 29 v) (h : DataW.Trod enc Tryd.prog W 0 (fun _ => true) true 29 v d ps) :
    ∃ l : Lg, v = .agg (lc l) ∧ LawIn W l := by
  obtain ⟨cs, rfl, hsz⟩ := okWide_struct Tryd.underlying29 hv
  obtain ⟨fuel, hf⟩ := h
  obtain ⟨l, hp, hL⟩ := l_cells hf
  refine ⟨l, ?_, hL⟩
  have : cs.toList = (lc l).toList := by simpa [Value.cells] using hp
  rw [Array.toList_inj.1 this]

end Hw
end Go.Proofs.YtodilljomjhohaaDoor

/- Frames: as values, as they came in; loaded out of a slice's midst, their panel out of their block. -/
namespace Go.Proofs.YtodilljomjhohaaDoor
namespace Mw
open Go Go.RowKit TabC Lk Ew Hw Bw

structure Fr where
  s : Mm.Pan
  lit : Bool
  n : Int
  h : Int
abbrev fc (f : Fr) : Array Value := #[.bool f.s.master, .bool f.s.start, .bool f.s.crank, .bool f.s.revert, .int .i64 f.s.lever, .bool f.lit, .int .i64 f.n, .int .i64 f.h]
abbrev fo (f : Fr) : Obj := .cells (fc f) 46 (0, 0)
theorem info_fr : (Tryd.prog.info? 46).map (·.size) = some 8 := by kernel_rfl
/-- Frames that came in. -/
def Frs (W : World) (A : Option Addr) (L : List Fr) : Prop := ∀ i f, L[i]? = some f → ∃ g o, A = some ⟨g, o, none⟩ ∧ g < W.heap.size ∧ W.rangeAt g (o + i * 8) (fc f).toList
theorem Frs.below {W W' : World} {A : Option Addr} {L : List Fr} (h : Frs W A L) (hb : Below W.heap.size W W') : Frs W' A L := by
  intro i f hi
  obtain ⟨g, o, e, hg, hr⟩ := h i f hi
  exact ⟨g, o, e, Nat.lt_of_lt_of_le hg hb.size, fun j v hv => (hb.cell (p := ⟨g, o + i * 8 + j, none⟩) hg).trans (hr j v hv)⟩
/-- What Next sees in one. -/
def seef (e : Eg) (l : Lg) (c : Int) (f : Fr) : Mm.See := see e l c f.s f.lit f.n f.h
section
variable {ops : Array Oper} {rest : List Oper} {op : Oper} {a : Act} {w : World} {Q : Exit → Act → World → Prop}
theorem ldf (hw : Region.wanted op (yielded ops a.tmps) = true) (x : Operand) (ho : op.op = .load 46 x) (b off : Nat) (f : Fr) (hx : a.eval x = .pointer (some ⟨b, off, none⟩)) (hP : w.rangeAt b off (fc f).toList)
    (c : wpList Tryd.prog ops Q rest (a.put op.dst (.agg (fc f))) w) : wpList Tryd.prog ops Q (op :: rest) a w :=
  Lk.wanted hw fun _ hK => wp_load_mid 46 x ho b off hx (fc f).toList _ hP Tryd.underlying46 rfl info_fr (hK _ _ c)
theorem ldnf (hw : Region.wanted op (yielded ops a.tmps) = true) (x : Operand) (ho : op.op = .load 33 x) (b : Nat) (f : Fr) (hx : a.eval x = .pointer (some ⟨b, 0, none⟩)) (hP : w.heap[b]? = some (fo f))
    (c : wpList Tryd.prog ops Q rest (a.put op.dst (.agg (pn f.s))) w) : wpList Tryd.prog ops Q (op :: rest) a w :=
  Lk.wanted hw fun _ hK => wp_load_mid 33 x ho b 0 hx (pn f.s).toList _ (World.rangeAt_of_block hP 0 5) Tryd.underlying33 rfl info_n (hK _ _ c)
end
/-- A frame's own cells. -/
abbrev FF (b : Nat) (f : Fr) (V : World) : Prop := V.cell? ⟨b, 0, none⟩ = some (.bool f.s.master) ∧ V.cell? ⟨b, 5, none⟩ = some (.bool f.lit) ∧ V.cell? ⟨b, 6, none⟩ = some (.int .i64 f.n) ∧ V.cell? ⟨b, 7, none⟩ = some (.int .i64 f.h)
theorem ff {V : World} {b : Nat} {f : Fr} (h : V.heap[b]? = some (fo f)) : FF b f V := ⟨Joins.cell_of_block h 0, Joins.cell_of_block h 5, Joins.cell_of_block h 6, Joins.cell_of_block h 7⟩
theorem apart3 {N : Nat} {x y z : Obj} : ∀ e ∈ [(N + 1, x), (N, y), (0, z)], e.1 ≠ N + 1 + 1 := by
  intro e he
  simp only [List.mem_cons, List.not_mem_nil, or_false] at he
  rcases he with rfl | rfl | rfl <;> simp <;> omega
end Mw
end Go.Proofs.YtodilljomjhohaaDoor

/- General, over any program: a slice of structs that came in as an argument, opened. -/
namespace Go.Proofs.YtodilljomjhohaaDoor
namespace Lk
open Go Go.RowKit Go.WideShapes Go.ChangeShapes Go.ChangeAt

section
variable {H : Type} {enc : TypeId × Value → H} {P : Program} {W : World} {sp : Nat → Bool} {held : Bool} {b0 : Nat}
theorem one_int {t : TypeId} {k : IntKind} (ht : P.underlying t = some (.int k)) {f : Nat} {v : Value} {x : Option (DataW H × List MemPlace)} (hx : x.isSome = true) (h : DataW.trod enc P W b0 sp held f t [v] = x) : ∃ n, v = .int k n ∧ (Lit.int k n).wf = true := by
  obtain ⟨y, rfl⟩ := Option.isSome_iff_exists.1 hx
  obtain ⟨n, e, hw⟩ := DataW.trod_int ht h
  exact ⟨n, by simpa using e, hw.2⟩
theorem one_bool {t : TypeId} (ht : P.underlying t = some .bool) {f : Nat} {v : Value} {x : Option (DataW H × List MemPlace)} (hx : x.isSome = true) (h : DataW.trod enc P W b0 sp held f t [v] = x) : ∃ n, v = .bool n := by
  obtain ⟨y, rfl⟩ := Option.isSome_iff_exists.1 hx
  obtain ⟨n, e, _⟩ := DataW.trod_bool ht h
  exact ⟨n, by simpa using e⟩
end

/-- Elements of sz cells each, each of which is some a that meets Q. -/
theorem open_rows {H : Type} {enc : TypeId × Value → H} {P : Program} {W : World} {base : Nat} {T E : TypeId} {sz : Nat} {α : Type} (f : α → List Value) (Q : α → Prop) (z : α) (hT : P.underlying T = some (.slice E)) (hc : P.cellsOf E = sz) (hsz : 0 < sz) (hlen : ∀ a, (f a).length = sz)
    (hcells : ∀ {fuel : Nat} {cs : List Value} {x : DataW H × List MemPlace}, DataW.trod enc P W 0 (fun _ => true) true fuel E cs = some x → ∃ a, cs = f a ∧ Q a)
    {v : Value} {d : DataW H} {ps : List MemPlace} (hv : Value.okWide P W .any base T v) (h : DataW.Trod enc P W 0 (fun _ => true) true T v d ps) :
    ∃ (A : Option Addr) (L : List α) (c : Nat), v = .slice A L.length c ∧ L.length ≤ c ∧ (∀ i a, L[i]? = some a → ∃ g o, A = some ⟨g, o, none⟩ ∧ g < W.heap.size ∧ W.rangeAt g (o + i * sz) (f a)) ∧ ∀ a ∈ L, Q a := by
  obtain ⟨a0, len0, cap0, rfl⟩ := okWide_slice hT hv
  obtain ⟨fuel, hf⟩ := h
  rcases Go.Deep.open_slice hT hf with ⟨hcn, _⟩ | ⟨a, len, cap, m, n, D, Pl, hcn, _, hlc, hm, hmm, _, hx⟩
  · simp only [Value.cells, List.cons.injEq, Value.slice.injEq, and_true] at hcn
    obtain ⟨rfl, rfl, rfl⟩ := hcn
    exact ⟨none, [], 0, rfl, Nat.le_refl _, fun i a hi => by simp at hi, fun a ha => by simp at ha⟩
  · simp only [Value.cells, List.cons.injEq, Value.slice.injEq, and_true] at hcn
    obtain ⟨rfl, rfl, rfl⟩ := hcn
    simp only [if_true] at hmm
    subst hmm
    rw [hc] at hx
    have each : ∀ i, i < m → ∃ c : α, W.cells? 0 (a.add (i * sz)) sz = some (f c) ∧ Q c := by
      intro i hi
      obtain ⟨cs', h1, h2⟩ := hx i hi
      obtain ⟨p, rfl, hp⟩ := hcells h2
      exact ⟨p, h1, hp⟩
    obtain ⟨b, off, spot⟩ := a
    have hspot : 0 < m → spot = none := by
      intro h0
      obtain ⟨j, hj, _⟩ := each 0 h0
      obtain ⟨_, _, h5⟩ := World.cells?_some hj
      have := h5 0 hsz
      rw [List.getElem?_eq_getElem (by rw [hlen]; exact hsz)] at this
      simpa [Addr.add] using World.cell?_spot this
    have hF : ∃ F : Nat → α, ∀ i, i < len0 → W.cells? 0 (Addr.add ⟨b, off, spot⟩ (i * sz)) sz = some (f (F i)) ∧ Q (F i) :=
      ⟨fun i => if hi : i < len0 then (each i (by omega)).choose else z, fun i hi => by
        simp only [dif_pos hi]
        exact (each i (by omega)).choose_spec⟩
    obtain ⟨F, hF⟩ := hF
    refine ⟨some ⟨b, off, spot⟩, (List.range len0).map F, m, by simp, by simpa using hlc, fun i c hi => ?_, fun c hc => ?_⟩
    · have hi' : i < len0 := by have := (List.getElem?_eq_some_iff.1 hi).1; simpa using this
      have hc' : c = F i := by
        rw [List.getElem?_map, List.getElem?_range hi'] at hi
        simpa using hi.symm
      subst hc'
      have h1 := (hF i hi').1
      obtain rfl := hspot (by omega)
      have hbl := World.cells?_block h1 hsz
      obtain ⟨_, h3, h4⟩ := World.cells?_some h1
      rw [Addr.add_mid] at hbl h4
      refine ⟨b, off, rfl, hbl, fun j v hv => ?_⟩
      have hj : j < sz := by
        rcases Nat.lt_or_ge j sz with g | g
        · exact g
        · rw [List.getElem?_eq_none (by rw [hlen]; exact g)] at hv; cases hv
      have := h4 j hj
      rw [hv] at this
      rw [← this, Addr.add_mid]
    · obtain ⟨i, hi, rfl⟩ := List.mem_map.1 hc
      exact (hF i (by simpa using hi)).2
end Lk
end Go.Proofs.YtodilljomjhohaaDoor

/- The ends of integers that came in. -/
namespace Go.Proofs.YtodilljomjhohaaDoor
namespace Lk
open Go.RowKit

theorem i64_lim {v : Int} (h : (Lit.int .i64 v).wf = true) : -9223372036854775808 ≤ v ∧ v ≤ 9223372036854775807 := by
  simp only [Lit.wf, IntKind.min, IntKind.max, IntKind.signed, IntKind.bits, Bool.and_eq_true, decide_eq_true_eq, if_true] at h
  omega
theorem i32_lim {v : Int} (h : (Lit.int .i32 v).wf = true) : -2147483648 ≤ v ∧ v ≤ 2147483647 := by
  simp only [Lit.wf, IntKind.min, IntKind.max, IntKind.signed, IntKind.bits, Bool.and_eq_true, decide_eq_true_eq, if_true] at h
  omega
theorem i16_lim {v : Int} (h : (Lit.int .i16 v).wf = true) : -32768 ≤ v ∧ v ≤ 32767 := by
  simp only [Lit.wf, IntKind.min, IntKind.max, IntKind.signed, IntKind.bits, Bool.and_eq_true, decide_eq_true_eq, if_true] at h
  omega
theorem i8_lim {v : Int} (h : (Lit.int .i8 v).wf = true) : -128 ≤ v ∧ v ≤ 127 := by
  simp only [Lit.wf, IntKind.min, IntKind.max, IntKind.signed, IntKind.bits, Bool.and_eq_true, decide_eq_true_eq, if_true] at h
  omega
theorem u8_lim {v : Int} (h : (Lit.int .u8 v).wf = true) : 0 ≤ v ∧ v ≤ 255 := by
  simp only [Lit.wf, IntKind.min, IntKind.max, IntKind.signed, IntKind.bits, Bool.and_eq_true, decide_eq_true_eq, Bool.false_eq_true, if_false] at h
  omega
theorem u16_lim {v : Int} (h : (Lit.int .u16 v).wf = true) : 0 ≤ v ∧ v ≤ 65535 := by
  simp only [Lit.wf, IntKind.min, IntKind.max, IntKind.signed, IntKind.bits, Bool.and_eq_true, decide_eq_true_eq, Bool.false_eq_true, if_false] at h
  omega
theorem u32_lim {v : Int} (h : (Lit.int .u32 v).wf = true) : 0 ≤ v ∧ v ≤ 4294967295 := by
  simp only [Lit.wf, IntKind.min, IntKind.max, IntKind.signed, IntKind.bits, Bool.and_eq_true, decide_eq_true_eq, Bool.false_eq_true, if_false] at h
  omega
theorem u64_lim {v : Int} (h : (Lit.int .u64 v).wf = true) : 0 ≤ v ∧ v ≤ 18446744073709551615 := by
  simp only [Lit.wf, IntKind.min, IntKind.max, IntKind.signed, IntKind.bits, Bool.and_eq_true, decide_eq_true_eq, Bool.false_eq_true, if_false] at h
  omega
theorem u8_nat {v : Int} (h : (Lit.int .u8 v).wf = true) : ∃ n : Nat, v = n ∧ n < 256 := by
  have := u8_lim h
  exact ⟨v.toNat, by omega, by omega⟩
theorem u16_nat {v : Int} (h : (Lit.int .u16 v).wf = true) : ∃ n : Nat, v = n ∧ n < 65536 := by
  have := u16_lim h
  exact ⟨v.toNat, by omega, by omega⟩
theorem u32_nat {v : Int} (h : (Lit.int .u32 v).wf = true) : ∃ n : Nat, v = n ∧ n < 4294967296 := by
  have := u32_lim h
  exact ⟨v.toNat, by omega, by omega⟩
end Lk
end Go.Proofs.YtodilljomjhohaaDoor

/- Phases, panels, frames that came in as arguments, opened. -/
namespace Go.Proofs.YtodilljomjhohaaDoor
namespace Mw
open Go Go.RowKit Go.WideShapes Go.ChangeShapes Go.ChangeAt

theorem cells_ph : Tryd.prog.cellsOf 31 = 2 := by kernel_rfl
theorem cells_pn : Tryd.prog.cellsOf 33 = 5 := by kernel_rfl
theorem cells_fr : Tryd.prog.cellsOf 46 = 8 := by kernel_rfl
theorem cells_in : Tryd.prog.cellsOf 3 = 1 := by kernel_rfl
theorem cells_bo : Tryd.prog.cellsOf 4 = 1 := by kernel_rfl
theorem list2 {α : Type} {l : List α} (h : l.length = 2) : ∃ a b, l = [a, b] := by
  match l, h with
  | [a, b], _ => exact ⟨a, b, rfl⟩
theorem list5 {α : Type} {l : List α} (h : l.length = 5) : ∃ a b c d e, l = [a, b, c, d, e] := by
  match l, h with
  | [a, b, c, d, e], _ => exact ⟨a, b, c, d, e, rfl⟩
theorem list8 {α : Type} {l : List α} (h : l.length = 8) : ∃ a b c d e f g i, l = [a, b, c, d, e, f, g, i] := by
  match l, h with
  | [a, b, c, d, e, f, g, i], _ => exact ⟨a, b, c, d, e, f, g, i, rfl⟩
section
variable {H : Type} {enc : TypeId × Value → H} {W : World} {sp : Nat → Bool} {held : Bool} {b0 : Nat}
theorem ph_cells {f : Nat} {cs : List Value} {x : DataW H × List MemPlace} (h : DataW.trod enc Tryd.prog W b0 sp held f 31 cs = some x) : ∃ m c : Int, cs = (ph m c).toList := by
  obtain ⟨xs, n, _, _, hl, hn, hh⟩ := DataW.trod_struct Tryd.underlying31 h
  rw [cells_ph] at hl
  obtain ⟨c0, c1, rfl⟩ := list2 hl
  have k : ∀ i, i < 2 → xs[i]?.isSome = true := fun i hi => by simp [hn, hi]
  have h0 : DataW.trod enc Tryd.prog W b0 sp held n 3 (([c0, c1].drop 0).take (Tryd.prog.cellsOf 3)) = xs[0]? := hh 0 _ rfl
  have h1 : DataW.trod enc Tryd.prog W b0 sp held n 3 (([c0, c1].drop 1).take (Tryd.prog.cellsOf 3)) = xs[1]? := hh 1 _ rfl
  rw [cells_in] at h0 h1
  obtain ⟨n0, rfl, _⟩ := Lk.one_int Tryd.underlying3 (k 0 (by decide)) h0
  obtain ⟨n1, rfl, _⟩ := Lk.one_int Tryd.underlying3 (k 1 (by decide)) h1
  exact ⟨n0, n1, rfl⟩
theorem pn_cells {f : Nat} {cs : List Value} {x : DataW H × List MemPlace} (h : DataW.trod enc Tryd.prog W b0 sp held f 33 cs = some x) : ∃ s : Mm.Pan, cs = (pn s).toList := by
  obtain ⟨xs, n, _, _, hl, hn, hh⟩ := DataW.trod_struct Tryd.underlying33 h
  rw [cells_pn] at hl
  obtain ⟨c0, c1, c2, c3, c4, rfl⟩ := list5 hl
  have k : ∀ i, i < 5 → xs[i]?.isSome = true := fun i hi => by simp [hn, hi]
  have h0 : DataW.trod enc Tryd.prog W b0 sp held n 4 (([c0, c1, c2, c3, c4].drop 0).take (Tryd.prog.cellsOf 4)) = xs[0]? := hh 0 _ rfl
  have h1 : DataW.trod enc Tryd.prog W b0 sp held n 4 (([c0, c1, c2, c3, c4].drop 1).take (Tryd.prog.cellsOf 4)) = xs[1]? := hh 1 _ rfl
  have h2 : DataW.trod enc Tryd.prog W b0 sp held n 4 (([c0, c1, c2, c3, c4].drop 2).take (Tryd.prog.cellsOf 4)) = xs[2]? := hh 2 _ rfl
  have h3 : DataW.trod enc Tryd.prog W b0 sp held n 4 (([c0, c1, c2, c3, c4].drop 3).take (Tryd.prog.cellsOf 4)) = xs[3]? := hh 3 _ rfl
  have h4 : DataW.trod enc Tryd.prog W b0 sp held n 3 (([c0, c1, c2, c3, c4].drop 4).take (Tryd.prog.cellsOf 3)) = xs[4]? := hh 4 _ rfl
  rw [cells_bo] at h0 h1 h2 h3
  rw [cells_in] at h4
  obtain ⟨n0, rfl⟩ := Lk.one_bool Tryd.underlying4 (k 0 (by decide)) h0
  obtain ⟨n1, rfl⟩ := Lk.one_bool Tryd.underlying4 (k 1 (by decide)) h1
  obtain ⟨n2, rfl⟩ := Lk.one_bool Tryd.underlying4 (k 2 (by decide)) h2
  obtain ⟨n3, rfl⟩ := Lk.one_bool Tryd.underlying4 (k 3 (by decide)) h3
  obtain ⟨n4, rfl, _⟩ := Lk.one_int Tryd.underlying3 (k 4 (by decide)) h4
  exact ⟨⟨n0, n1, n2, n3, n4⟩, rfl⟩
theorem fr_cells {f : Nat} {cs : List Value} {x : DataW H × List MemPlace} (h : DataW.trod enc Tryd.prog W b0 sp held f 46 cs = some x) : ∃ a : Fr, cs = (fc a).toList := by
  obtain ⟨xs, n, _, _, hl, hn, hh⟩ := DataW.trod_struct Tryd.underlying46 h
  rw [cells_fr] at hl
  obtain ⟨c0, c1, c2, c3, c4, c5, c6, c7, rfl⟩ := list8 hl
  have k : ∀ i, i < 4 → xs[i]?.isSome = true := fun i hi => by simp [hn, hi]
  have h0 : DataW.trod enc Tryd.prog W b0 sp held n 33 (([c0, c1, c2, c3, c4, c5, c6, c7].drop 0).take (Tryd.prog.cellsOf 33)) = xs[0]? := hh 0 _ rfl
  have h1 : DataW.trod enc Tryd.prog W b0 sp held n 4 (([c0, c1, c2, c3, c4, c5, c6, c7].drop 5).take (Tryd.prog.cellsOf 4)) = xs[1]? := hh 1 _ rfl
  have h2 : DataW.trod enc Tryd.prog W b0 sp held n 3 (([c0, c1, c2, c3, c4, c5, c6, c7].drop 6).take (Tryd.prog.cellsOf 3)) = xs[2]? := hh 2 _ rfl
  have h3 : DataW.trod enc Tryd.prog W b0 sp held n 3 (([c0, c1, c2, c3, c4, c5, c6, c7].drop 7).take (Tryd.prog.cellsOf 3)) = xs[3]? := hh 3 _ rfl
  rw [cells_pn] at h0
  rw [cells_bo] at h1
  rw [cells_in] at h2 h3
  obtain ⟨y, hy⟩ := Option.isSome_iff_exists.1 (k 0 (by decide))
  rw [hy] at h0
  obtain ⟨s, hs⟩ := pn_cells h0
  obtain ⟨n1, rfl⟩ := Lk.one_bool Tryd.underlying4 (k 1 (by decide)) h1
  obtain ⟨n2, rfl, _⟩ := Lk.one_int Tryd.underlying3 (k 2 (by decide)) h2
  obtain ⟨n3, rfl, _⟩ := Lk.one_int Tryd.underlying3 (k 3 (by decide)) h3
  have hs' : [c0, c1, c2, c3, c4] = (pn s).toList := hs
  injection hs' with e1 hs'
  injection hs' with e2 hs'
  injection hs' with e3 hs'
  injection hs' with e4 hs'
  injection hs' with e5
  subst e1 e2 e3 e4 e5
  exact ⟨⟨s, n1, n2, n3⟩, rfl⟩
end
section
variable {H : Type} {enc : TypeId × Value → H} {W : World} {base : Nat} {v : Value} {d : DataW H} {ps : List MemPlace}
set_option maxRecDepth 100000 in
theorem open_ph (hv : Value.okWide Tryd.prog W .any base 31 v) (h : DataW.Trod enc Tryd.prog W 0 (fun _ => true) true 31 v d ps) : ∃ m c : Int, v = .agg (ph m c) := by
  obtain ⟨cs, rfl, hsz⟩ := okWide_struct Tryd.underlying31 hv
  obtain ⟨fuel, hf⟩ := h
  obtain ⟨m, c, hp⟩ := ph_cells hf
  refine ⟨m, c, ?_⟩
  have : cs.toList = (ph m c).toList := by simpa [Value.cells] using hp
  rw [Array.toList_inj.1 this]
set_option maxRecDepth 100000 in
theorem open_pn (hv : Value.okWide Tryd.prog W .any base 33 v) (h : DataW.Trod enc Tryd.prog W 0 (fun _ => true) true 33 v d ps) : ∃ s : Mm.Pan, v = .agg (pn s) := by
  obtain ⟨cs, rfl, hsz⟩ := okWide_struct Tryd.underlying33 hv
  obtain ⟨fuel, hf⟩ := h
  obtain ⟨s, hp⟩ := pn_cells hf
  refine ⟨s, ?_⟩
  have : cs.toList = (pn s).toList := by simpa [Value.cells] using hp
  rw [Array.toList_inj.1 this]
set_option maxRecDepth 100000 in
theorem open_frs (hv : Value.okWide Tryd.prog W .any base 44 v) (h : DataW.Trod enc Tryd.prog W 0 (fun _ => true) true 44 v d ps) : ∃ A T c, v = .slice A T.length c ∧ Frs W A T := by
  obtain ⟨A, T, c, e, _, hr, _⟩ := Lk.open_rows (fun a : Fr => (fc a).toList) (fun _ => True) ⟨⟨false, false, false, false, 0⟩, false, 0, 0⟩ Tryd.underlying44 cells_fr (by decide) (fun _ => rfl) (fun h => by
    obtain ⟨a, e⟩ := fr_cells h
    exact ⟨a, e, trivial⟩) hv h
  exact ⟨A, T, c, e, hr⟩
end
end Mw
end Go.Proofs.YtodilljomjhohaaDoor

/- Waiting, and rest, over frames. No program is named here. -/
namespace Mm

theorem wait_step (z : See) {m c : Int} (he : exist m = true) (h0 : 0 ≤ c) (h1 : c ≤ 200) : (nm z m ≠ m → nc z m c = 0) ∧ (nm z m = m → nc z m c = c + 1) ∧ (m = 2 → nm z m = 3 → z.rd = true) ∧ (nm z m = m → (m = 2 ∨ m = 3 ∨ m = 7) → z.hg = false) := by
  have hlo : longer c = c + 1 := by unfold longer; omega
  rcases step_of z he c with ⟨r, hr, hf, hs, h2, h3⟩ | ⟨hn, h2, h3⟩
  · have hne : nm z m ≠ m := by
      rw [h2, ← hf]
      have := rows_ne r hr
      omega
    refine ⟨fun _ => h3, fun h => absurd h hne, fun hm ht => ?_, fun h => absurd h hne⟩
    have : ∀ r ∈ rows, r.f = 2 → r.t = 3 → r.w = 4 := by decide
    have hw := this r hr (by omega) (by omega)
    rw [hw] at hs
    exact hs
  · refine ⟨fun h => absurd h2 h, fun _ => h3.trans hlo, fun hm ht => by omega, fun _ hm => ?_⟩
    rcases hm with rfl | rfl | rfl
    · exact hn ⟨2, 7, 8⟩ (by decide) rfl
    · exact hn ⟨3, 7, 8⟩ (by decide) rfl
    · exact hn ⟨7, 7, 8⟩ (by decide) rfl
theorem wait_8 (z : See) (hz : z.s.master = true) (h : nm z 2 = 8) : z.hg = true := by
  simp only [nm, fol2, hz] at h
  by_cases h1 : z.rd = true
  · simp [h1] at h
  · by_cases h2 : z.hg = true
    · exact h2
    · simp [h1, h2] at h
theorem nm_exist (z : See) (m : Int) : exist (nm z m) = true := by
  have := nm_in z m
  simp only [exist, Bool.and_eq_true, decide_eq_true_eq]
  omega
/-- Laws over a phase, what they see. -/
theorem waits {e : Em.En} {l : Sd.Ls} {s : Pan} {lit aw ht : Bool} {m c n : Int} (he : exist m = true) (h0 : 0 ≤ c) (h1 : c ≤ 200) (hp : 1 ≤ l.patience) :
    (nm ⟨s, lit, Sb.ready e n, aw, ht, Sb.hung l c⟩ m ≠ m → nc ⟨s, lit, Sb.ready e n, aw, ht, Sb.hung l c⟩ m c = 0) ∧ (nm ⟨s, lit, Sb.ready e n, aw, ht, Sb.hung l c⟩ m = m → nc ⟨s, lit, Sb.ready e n, aw, ht, Sb.hung l c⟩ m c = c + 1) ∧
    (m = 2 → nm ⟨s, lit, Sb.ready e n, aw, ht, Sb.hung l c⟩ m = 3 → e.light ≤ n) ∧
    (∀ (s' : Pan) (lit' rd aw' ht' : Bool) (k : Int), s'.master = true → nm ⟨s', lit', rd, aw', ht', Sb.hung l k⟩ 2 = 8 → (nm ⟨s, lit, Sb.ready e n, aw, ht, Sb.hung l c⟩ m = 2 ∨ nm ⟨s, lit, Sb.ready e n, aw, ht, Sb.hung l c⟩ m = 3 ∨ nm ⟨s, lit, Sb.ready e n, aw, ht, Sb.hung l c⟩ m = 7) → nc ⟨s, lit, Sb.ready e n, aw, ht, Sb.hung l c⟩ m c ≤ l.patience) := by
  obtain ⟨a, b, r, g⟩ := wait_step ⟨s, lit, Sb.ready e n, aw, ht, Sb.hung l c⟩ he h0 h1
  refine ⟨a, b, fun hm h3 => ?_, fun s' lit' rd aw' ht' k hs h8 hw => ?_⟩
  · have := r hm h3
    simp only [Sb.ready, Bool.and_eq_true, decide_eq_true_eq] at this
    exact this.2
  · have hh := wait_8 _ hs h8
    simp only [Sb.hung, Bool.and_eq_true] at hh
    by_cases hq : nm ⟨s, lit, Sb.ready e n, aw, ht, Sb.hung l c⟩ m = m
    · rw [hq] at hw
      have := g hq hw
      simp only [Sb.hung, hh.1, Bool.true_and, decide_eq_false_iff_not] at this
      rw [b hq]
      omega
    · rw [a hq]
      omega
/-- A frame at rest: what the next mode is, by the rounds that went. -/
theorem rests (lit aw ht hg : Bool) {m : Int} {k : Nat} (h : (k = 1 → m = 0 ∨ m = 6) ∧ (1 < k → m = 0)) : (k + 1 = 1 → nm (still false aw ht hg lit) m = 0 ∨ nm (still false aw ht hg lit) m = 6) ∧ (1 < k + 1 → nm (still false aw ht hg lit) m = 0) := by
  refine ⟨fun _ => rest1 _ _ _ _ m, fun hk => ?_⟩
  rcases Nat.lt_or_ge 1 k with h1 | h1
  · rw [h.2 h1]; exact rest0 _ _ _ _
  · obtain rfl : k = 1 := by omega
    rcases h.1 rfl with rfl | rfl
    · exact rest0 _ _ _ _
    · exact rest6 _ _ _ _
end Mm
