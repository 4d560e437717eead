/- What a start goes by: an engine and laws as one value; the five things that are asked of it; tell, over one or two closures. Printed by gen_in.py. -/
import Derived.Test.YtjhgcbkdghcgmaaScheduleIn
import Derived.Test.YtjhgcbkdghcgmaaStartMath
import Derived.Test.YtjhgcbkdghcgmaaTabAt2
import Derived.Test.YtjhgcbkdghcgmaaOrdKit
import Derived.Lib.MinMax
namespace Go.Proofs.Ytjhgcbkdghcgmaa
namespace Bw
open Go.RowKit TabC Lk Ew Hw

/-- An engine and laws in one value, and its block. -/
abbrev qc (e : Eg) (l : Lg) : Array Value := #[.slice e.f.A e.f.xs.length e.f.ca, .slice e.f.B e.f.ys.length e.f.cb, .slice e.p.A e.p.xs.length e.p.ca, .slice e.p.B e.p.ys.length e.p.cb, .slice e.q.A e.q.xs.length e.q.ca, .slice e.q.B e.q.ys.length e.q.cb, .slice e.h.A e.h.xs.length e.h.ca, .slice e.h.B e.h.ys.length e.h.cb, .int .i64 e.lag2, .int .i64 e.lag1, .int .i64 e.lagE, .int .i64 e.slew, .int .i64 e.starter, .int .i64 e.light, .int .i64 e.lean, .int .i64 e.disturb,
  .slice l.a.A l.a.xs.length l.a.ca, .slice l.a.B l.a.ys.length l.a.cb, .slice l.d.A l.d.xs.length l.d.ca, .slice l.d.B l.d.ys.length l.d.cb, .slice l.s.A l.s.xs.length l.s.ca, .slice l.s.B l.s.ys.length l.s.cb, .int .i64 l.red1, .int .i64 l.red2, .int .i64 l.redE, .int .i64 l.margin, .int .i64 l.idle, .int .i64 l.patience]
abbrev qo (e : Eg) (l : Lg) : Obj := .cells (qc e l) 49 (0, 0)
theorem one_q (w : World) (e : Eg) (l : Lg) : Hv w (w.alloc (qo e l)) [(w.heap.size, qo e l)] := (Hv.nil w).made (qo e l)

/-- An engine, or laws, that a call leaves empty. -/
def tz : Tv := ⟨none, none, 0, 0, [], []⟩
def ez : Eg := ⟨tz, tz, tz, tz, 0, 0, 0, 0, 0, 0, 0, 0⟩
def lz : Lg := ⟨tz, tz, tz, 0, 0, 0, 0, 0, 0⟩

theorem lights_c (e : Eg) (l : Lg) (n : Int) (w : World) : Calls Try.prog 33 #[.agg (qc e l), .int .i64 n] w fun r w' => r = .returned (.bool (decide (e.light ≤ n))) ∧ Below w.heap.size w w' := by
  have HV := Lib.hid (one_q w e l)
  have c0 := Joins.cell_of_block HV.out.head 13
  simp only [List.getElem?_toArray, List.getElem?_cons_zero, List.getElem?_cons_succ] at c0
  have HB := Lib.hid HV.out.old
  clear HV
  go_enter Try.func33, Try.ntmps33
  go_wp2
  go_ret
  exact ⟨rfl, HB.out⟩

theorem idles_c (e : Eg) (l : Lg) (n : Int) (w : World) : Calls Try.prog 34 #[.agg (qc e l), .int .i64 n] w fun r w' => r = .returned (.bool (decide (l.idle ≤ n))) ∧ Below w.heap.size w w' := by
  have HV := Lib.hid (one_q w e l)
  have c0 := Joins.cell_of_block HV.out.head 26
  simp only [List.getElem?_toArray, List.getElem?_cons_zero, List.getElem?_cons_succ] at c0
  have HB := Lib.hid HV.out.old
  clear HV
  go_enter Try.func34, Try.ntmps34
  go_wp2
  go_ret
  exact ⟨rfl, HB.out⟩

theorem glows_c (e : Eg) (l : Lg) (n : Int) (w : World) : Calls Try.prog 35 #[.agg (qc e l), .int .i64 n] w fun r w' => r = .returned (.bool (decide (l.redE ≤ n))) ∧ Below w.heap.size w w' := by
  have HV := Lib.hid (one_q w e l)
  have c0 := Joins.cell_of_block HV.out.head 24
  simp only [List.getElem?_toArray, List.getElem?_cons_zero, List.getElem?_cons_succ] at c0
  have HB := Lib.hid HV.out.old
  clear HV
  go_enter Try.func35, Try.ntmps35
  go_wp2
  go_ret
  exact ⟨rfl, HB.out⟩

theorem waits_c (e : Eg) (l : Lg) (n : Int) (w : World) : Calls Try.prog 36 #[.agg (qc e l), .int .i64 n] w fun r w' => r = .returned (.bool (decide (l.patience ≤ n))) ∧ Below w.heap.size w w' := by
  have HV := Lib.hid (one_q w e l)
  have c0 := Joins.cell_of_block HV.out.head 27
  simp only [List.getElem?_toArray, List.getElem?_cons_zero, List.getElem?_cons_succ] at c0
  have HB := Lib.hid HV.out.old
  clear HV
  go_enter Try.func36, Try.ntmps36
  go_wp2
  go_ret
  exact ⟨rfl, HB.out⟩

/-- The cells that the fuel is told from. -/
abbrev QFld (V : World) (b : Nat) (e : Eg) (l : Lg) : Prop := V.cell? ⟨b, 20, none⟩ = some (.slice l.s.A l.s.xs.length l.s.ca) ∧ V.cell? ⟨b, 21, none⟩ = some (.slice l.s.B l.s.ys.length l.s.cb) ∧ V.cell? ⟨b, 14, none⟩ = some (.int .i64 e.lean)
theorem qfld {V : World} {b : Nat} {e : Eg} {l : Lg} (h : V.heap[b]? = some (qo e l)) : QFld V b e l := ⟨Joins.cell_of_block h 20, Joins.cell_of_block h 21, Joins.cell_of_block h 14⟩
theorem ord_fuel : Lk.orderedB (Lk.opsOf Try.f26 1) [(0, false), (1, false), (2, false), (3, false), (5, false), (6, false), (7, false), (4, true), (8, false), (9, false)] = true := by kernel_rfl

set_option maxRecDepth 100000 in
theorem fuelq_c (e : Eg) (l : Lg) (n : Int) (w : World) (hT : TabIn w l.s.A l.s.B l.s.xs l.s.ys) : Calls Try.prog 26 #[.agg (qc e l), .int .i64 n] w fun r w' => r = .returned (.int .i64 (max (Tb.atv l.s.xs l.s.ys n) e.lean)) ∧ Below w.heap.size w w' := by
  have HV := Lib.hid (one_q w e l)
  have C1 := Lib.hid (fun W (hW : Below w.heap.size w W) => atv_c l.s.A l.s.B l.s.ca l.s.cb l.s.xs l.s.ys n W (hT.below hW))
  clear hT
  generalize Tb.atv l.s.xs l.s.ys n = v at *
  go_enter Try.func26, Try.ntmps26
  go_wp2_with fail
  refine wp_region_noPanic (Lk.wp_region_ordered ord_fuel (fun V => QFld V w.heap.size e l) (by kernel_rfl) (by kernel_rfl) (fun _ _ _ _ _ h => h) (by first | (with_reducible exact qfld HV.out.head) | (with_reducible exact qfld HV.out.drew.head)) ?_)
  replace HV := Lib.hid HV.out.drew
  iterate 7 (refine Lk.ord_take ?_ rfl rfl ?_ ?_; rotate_left; (focus (intro w' hS; (try dsimp only at hS); go_simp; try with_reducible rfl)); simp only [Act.put, List.setIfInBounds_toArray, List.set_cons_zero, List.set_cons_succ])
  refine Lk.ord_step rfl rfl (fun K hK => ?_)
  go_simp
  (with_reducible refine (C1.out _ HV.out.old).mono ?_)
  rintro r W ⟨rfl, hb⟩
  replace HV := Lib.hid (HV.out.grow hb)
  clear hb
  refine hK.out _ _ (by first | (with_reducible exact qfld HV.out.head) | (with_reducible exact qfld HV.out.drew.head)) ?_
  clear hK K
  try simp only [Act.put, List.setIfInBounds_toArray, List.set_cons_zero, List.set_cons_succ]
  iterate 2 (refine Lk.ord_take ?_ rfl rfl ?_ ?_; rotate_left; (focus (intro w' hS; (try dsimp only at hS); go_simp; try with_reducible rfl)); simp only [Act.put, List.setIfInBounds_toArray, List.set_cons_zero, List.set_cons_succ])
  refine Lk.ord_nil (NoPanic.normal ?_)
  go_wp2_with fail
  go_ret
  exact ⟨rfl, HV.out.old⟩

/-- A closure over an engine, or over laws; a row of one, or two. -/
abbrev fe (b : Nat) : Value := .func (.func 49) #[] #[.pointer (some ⟨b, 0, none⟩)]
abbrev fl (b : Nat) : Value := .func (.func 50) #[] #[.pointer (some ⟨b, 0, none⟩)]
abbrev ro1 (f : Value) : Obj := .cells #[f] 29 (0, 0)
abbrev ro2 (f g : Value) : Obj := .cells #[f, g] 29 (0, 0)
theorem mk_e (e : Eg) (W : World) : Calls Try.prog 27 #[.agg (ec e)] W fun r w' => r = .returned (fe W.heap.size) ∧ w' = W.alloc (eo e) := by
  go_enter Try.func27, Try.ntmps27
  go_wp2
  go_ret
  exact ⟨rfl, rfl⟩
theorem mk_l (l : Lg) (W : World) : Calls Try.prog 28 #[.agg (lc l)] W fun r w' => r = .returned (fl W.heap.size) ∧ w' = W.alloc (lo l) := by
  go_enter Try.func28, Try.ntmps28
  go_wp2
  go_ret
  exact ⟨rfl, rfl⟩

theorem tell_lights (q : Array Value) (n : Int) (g b : Nat) (s a : Bool) (w : World) (hg : w.heap[g]? = some (ro1 (fe b)))
    (CS : ∀ V, Below w.heap.size w V → Calls Try.prog 49 #[.pointer (some ⟨b, 0, none⟩)] V fun r V' => r = .returned (.bool s) ∧ Below V.heap.size V V')
    (CA : ∀ V, Below w.heap.size w V → Calls Try.prog 33 #[.agg q, .int .i64 n] V fun r V' => r = .returned (.bool a) ∧ Below V.heap.size V V') :
    Calls Try.prog 32 #[.func (.func 33) #[.agg q] #[], .int .i64 n, .slice (some ⟨g, 0, none⟩) 1 1] w fun r w' => r = .returned (.bool (s && a)) ∧ Below w.heap.size w w' := by
  have HV := Lib.hid ((Hv.nil w).add (g, ro1 (fe b)) hg)
  replace CS := Lib.hid CS
  replace CA := Lib.hid CA
  clear hg
  go_enter Try.func32, Try.ntmps32
  go_wp2_with fail
  go_loopw [12] (fun i wr => ∃ k : Nat, k ≤ 1 ∧ i = .int .i64 k ∧ (k = 1 → s = true) ∧ Hv w wr [(g, ro1 (fe b))]) (fun i _ => 1 - (intOf i).toNat)
  case atStart => exact ⟨0, by decide, rfl, (fun h => by omega), HV.out⟩
  case round =>
    clear HV
    obtain ⟨k, hk, rfl, hs, hv⟩ := hrel
    have HV := Lib.hid hv
    clear hv
    obtain rfl | rfl : k = 0 ∨ k = 1 := by omega
    · clear hs
      have c0 := Joins.cell_of_block HV.out.head 0
      simp only [List.getElem?_toArray, List.getElem?_cons_zero] at c0
      cases s
      · go_wp2_with (first | (go_at_call 49; (with_reducible refine (CS.out _ HV.out.old).mono ?_); rintro r W ⟨rfl, hb⟩; replace HV := Lib.hid (HV.out.grow hb); clear hb) | fail)
        go_ret
        exact ⟨rfl, HV.out.old⟩
      · go_wp2_with (first | (go_at_call 49; (with_reducible refine (CS.out _ HV.out.old).mono ?_); rintro r W ⟨rfl, hb⟩; replace HV := Lib.hid (HV.out.grow hb); clear hb) | fail)
        go_roundw
        case rel => exact ⟨1, by omega, by go_num, fun _ => by first | rfl | trivial, HV.out⟩
        case measure => simp [intOf]
    · obtain rfl := hs rfl
      clear hs
      go_wp2_with (first | (go_at_call 33; (with_reducible refine (CA.out _ HV.out.old).mono ?_); rintro r W ⟨rfl, hb⟩; replace HV := Lib.hid (HV.out.grow hb); clear hb) | fail)
      go_ret
      exact ⟨ret_bool (Bool.true_and a).symm, HV.out.old⟩

theorem tell_idles (q : Array Value) (n : Int) (g b : Nat) (s a : Bool) (w : World) (hg : w.heap[g]? = some (ro1 (fl b)))
    (CS : ∀ V, Below w.heap.size w V → Calls Try.prog 50 #[.pointer (some ⟨b, 0, none⟩)] V fun r V' => r = .returned (.bool s) ∧ Below V.heap.size V V')
    (CA : ∀ V, Below w.heap.size w V → Calls Try.prog 34 #[.agg q, .int .i64 n] V fun r V' => r = .returned (.bool a) ∧ Below V.heap.size V V') :
    Calls Try.prog 32 #[.func (.func 34) #[.agg q] #[], .int .i64 n, .slice (some ⟨g, 0, none⟩) 1 1] w fun r w' => r = .returned (.bool (s && a)) ∧ Below w.heap.size w w' := by
  have HV := Lib.hid ((Hv.nil w).add (g, ro1 (fl b)) hg)
  replace CS := Lib.hid CS
  replace CA := Lib.hid CA
  clear hg
  go_enter Try.func32, Try.ntmps32
  go_wp2_with fail
  go_loopw [12] (fun i wr => ∃ k : Nat, k ≤ 1 ∧ i = .int .i64 k ∧ (k = 1 → s = true) ∧ Hv w wr [(g, ro1 (fl b))]) (fun i _ => 1 - (intOf i).toNat)
  case atStart => exact ⟨0, by decide, rfl, (fun h => by omega), HV.out⟩
  case round =>
    clear HV
    obtain ⟨k, hk, rfl, hs, hv⟩ := hrel
    have HV := Lib.hid hv
    clear hv
    obtain rfl | rfl : k = 0 ∨ k = 1 := by omega
    · clear hs
      have c0 := Joins.cell_of_block HV.out.head 0
      simp only [List.getElem?_toArray, List.getElem?_cons_zero] at c0
      cases s
      · go_wp2_with (first | (go_at_call 50; (with_reducible refine (CS.out _ HV.out.old).mono ?_); rintro r W ⟨rfl, hb⟩; replace HV := Lib.hid (HV.out.grow hb); clear hb) | fail)
        go_ret
        exact ⟨rfl, HV.out.old⟩
      · go_wp2_with (first | (go_at_call 50; (with_reducible refine (CS.out _ HV.out.old).mono ?_); rintro r W ⟨rfl, hb⟩; replace HV := Lib.hid (HV.out.grow hb); clear hb) | fail)
        go_roundw
        case rel => exact ⟨1, by omega, by go_num, fun _ => by first | rfl | trivial, HV.out⟩
        case measure => simp [intOf]
    · obtain rfl := hs rfl
      clear hs
      go_wp2_with (first | (go_at_call 34; (with_reducible refine (CA.out _ HV.out.old).mono ?_); rintro r W ⟨rfl, hb⟩; replace HV := Lib.hid (HV.out.grow hb); clear hb) | fail)
      go_ret
      exact ⟨ret_bool (Bool.true_and a).symm, HV.out.old⟩

theorem tell_glows (q : Array Value) (n : Int) (g b : Nat) (s a : Bool) (w : World) (hg : w.heap[g]? = some (ro1 (fl b)))
    (CS : ∀ V, Below w.heap.size w V → Calls Try.prog 50 #[.pointer (some ⟨b, 0, none⟩)] V fun r V' => r = .returned (.bool s) ∧ Below V.heap.size V V')
    (CA : ∀ V, Below w.heap.size w V → Calls Try.prog 35 #[.agg q, .int .i64 n] V fun r V' => r = .returned (.bool a) ∧ Below V.heap.size V V') :
    Calls Try.prog 32 #[.func (.func 35) #[.agg q] #[], .int .i64 n, .slice (some ⟨g, 0, none⟩) 1 1] w fun r w' => r = .returned (.bool (s && a)) ∧ Below w.heap.size w w' := by
  have HV := Lib.hid ((Hv.nil w).add (g, ro1 (fl b)) hg)
  replace CS := Lib.hid CS
  replace CA := Lib.hid CA
  clear hg
  go_enter Try.func32, Try.ntmps32
  go_wp2_with fail
  go_loopw [12] (fun i wr => ∃ k : Nat, k ≤ 1 ∧ i = .int .i64 k ∧ (k = 1 → s = true) ∧ Hv w wr [(g, ro1 (fl b))]) (fun i _ => 1 - (intOf i).toNat)
  case atStart => exact ⟨0, by decide, rfl, (fun h => by omega), HV.out⟩
  case round =>
    clear HV
    obtain ⟨k, hk, rfl, hs, hv⟩ := hrel
    have HV := Lib.hid hv
    clear hv
    obtain rfl | rfl : k = 0 ∨ k = 1 := by omega
    · clear hs
      have c0 := Joins.cell_of_block HV.out.head 0
      simp only [List.getElem?_toArray, List.getElem?_cons_zero] at c0
      cases s
      · go_wp2_with (first | (go_at_call 50; (with_reducible refine (CS.out _ HV.out.old).mono ?_); rintro r W ⟨rfl, hb⟩; replace HV := Lib.hid (HV.out.grow hb); clear hb) | fail)
        go_ret
        exact ⟨rfl, HV.out.old⟩
      · go_wp2_with (first | (go_at_call 50; (with_reducible refine (CS.out _ HV.out.old).mono ?_); rintro r W ⟨rfl, hb⟩; replace HV := Lib.hid (HV.out.grow hb); clear hb) | fail)
        go_roundw
        case rel => exact ⟨1, by omega, by go_num, fun _ => by first | rfl | trivial, HV.out⟩
        case measure => simp [intOf]
    · obtain rfl := hs rfl
      clear hs
      go_wp2_with (first | (go_at_call 35; (with_reducible refine (CA.out _ HV.out.old).mono ?_); rintro r W ⟨rfl, hb⟩; replace HV := Lib.hid (HV.out.grow hb); clear hb) | fail)
      go_ret
      exact ⟨ret_bool (Bool.true_and a).symm, HV.out.old⟩

theorem tell_waits (q : Array Value) (n : Int) (g b : Nat) (s a : Bool) (w : World) (hg : w.heap[g]? = some (ro1 (fl b)))
    (CS : ∀ V, Below w.heap.size w V → Calls Try.prog 50 #[.pointer (some ⟨b, 0, none⟩)] V fun r V' => r = .returned (.bool s) ∧ Below V.heap.size V V')
    (CA : ∀ V, Below w.heap.size w V → Calls Try.prog 36 #[.agg q, .int .i64 n] V fun r V' => r = .returned (.bool a) ∧ Below V.heap.size V V') :
    Calls Try.prog 32 #[.func (.func 36) #[.agg q] #[], .int .i64 n, .slice (some ⟨g, 0, none⟩) 1 1] w fun r w' => r = .returned (.bool (s && a)) ∧ Below w.heap.size w w' := by
  have HV := Lib.hid ((Hv.nil w).add (g, ro1 (fl b)) hg)
  replace CS := Lib.hid CS
  replace CA := Lib.hid CA
  clear hg
  go_enter Try.func32, Try.ntmps32
  go_wp2_with fail
  go_loopw [12] (fun i wr => ∃ k : Nat, k ≤ 1 ∧ i = .int .i64 k ∧ (k = 1 → s = true) ∧ Hv w wr [(g, ro1 (fl b))]) (fun i _ => 1 - (intOf i).toNat)
  case atStart => exact ⟨0, by decide, rfl, (fun h => by omega), HV.out⟩
  case round =>
    clear HV
    obtain ⟨k, hk, rfl, hs, hv⟩ := hrel
    have HV := Lib.hid hv
    clear hv
    obtain rfl | rfl : k = 0 ∨ k = 1 := by omega
    · clear hs
      have c0 := Joins.cell_of_block HV.out.head 0
      simp only [List.getElem?_toArray, List.getElem?_cons_zero] at c0
      cases s
      · go_wp2_with (first | (go_at_call 50; (with_reducible refine (CS.out _ HV.out.old).mono ?_); rintro r W ⟨rfl, hb⟩; replace HV := Lib.hid (HV.out.grow hb); clear hb) | fail)
        go_ret
        exact ⟨rfl, HV.out.old⟩
      · go_wp2_with (first | (go_at_call 50; (with_reducible refine (CS.out _ HV.out.old).mono ?_); rintro r W ⟨rfl, hb⟩; replace HV := Lib.hid (HV.out.grow hb); clear hb) | fail)
        go_roundw
        case rel => exact ⟨1, by omega, by go_num, fun _ => by first | rfl | trivial, HV.out⟩
        case measure => simp [intOf]
    · obtain rfl := hs rfl
      clear hs
      go_wp2_with (first | (go_at_call 36; (with_reducible refine (CA.out _ HV.out.old).mono ?_); rintro r W ⟨rfl, hb⟩; replace HV := Lib.hid (HV.out.grow hb); clear hb) | fail)
      go_ret
      exact ⟨ret_bool (Bool.true_and a).symm, HV.out.old⟩

theorem tell_fuel (q : Array Value) (n a : Int) (g b c : Nat) (s t : Bool) (w : World) (hg : w.heap[g]? = some (ro2 (fe b) (fl c)))
    (CS : ∀ V, Below w.heap.size w V → Calls Try.prog 49 #[.pointer (some ⟨b, 0, none⟩)] V fun r V' => r = .returned (.bool s) ∧ Below V.heap.size V V')
    (CT : ∀ V, Below w.heap.size w V → Calls Try.prog 50 #[.pointer (some ⟨c, 0, none⟩)] V fun r V' => r = .returned (.bool t) ∧ Below V.heap.size V V')
    (CA : ∀ V, Below w.heap.size w V → Calls Try.prog 26 #[.agg q, .int .i64 n] V fun r V' => r = .returned (.int .i64 a) ∧ Below V.heap.size V V') :
    Calls Try.prog 25 #[.func (.func 26) #[.agg q] #[], .int .i64 n, .slice (some ⟨g, 0, none⟩) 2 2] w fun r w' => r = .returned (.int .i64 (if (s && t) = true then a else 0)) ∧ Below w.heap.size w w' := by
  have HV := Lib.hid ((Hv.nil w).add (g, ro2 (fe b) (fl c)) hg)
  replace CS := Lib.hid CS
  replace CT := Lib.hid CT
  replace CA := Lib.hid CA
  clear hg
  go_enter Try.func25, Try.ntmps25
  go_wp2_with fail
  go_loopw [12] (fun i wr => ∃ k : Nat, k ≤ 2 ∧ i = .int .i64 k ∧ (1 ≤ k → s = true) ∧ (2 ≤ k → t = true) ∧ Hv w wr [(g, ro2 (fe b) (fl c))]) (fun i _ => 2 - (intOf i).toNat)
  case atStart => exact ⟨0, by decide, rfl, (fun h => by omega), (fun h => by omega), HV.out⟩
  case round =>
    clear HV
    obtain ⟨k, hk, rfl, hs, ht, hv⟩ := hrel
    have HV := Lib.hid hv
    clear hv
    obtain rfl | rfl | rfl : k = 0 ∨ k = 1 ∨ k = 2 := by omega
    · clear hs ht
      have c0 := Joins.cell_of_block HV.out.head 0
      simp only [List.getElem?_toArray, List.getElem?_cons_zero] at c0
      cases s
      · go_wp2_with (first | (go_at_call 49; (with_reducible refine (CS.out _ HV.out.old).mono ?_); rintro r W ⟨rfl, hb⟩; replace HV := Lib.hid (HV.out.grow hb); clear hb) | fail)
        go_ret
        exact ⟨rfl, HV.out.old⟩
      · go_wp2_with (first | (go_at_call 49; (with_reducible refine (CS.out _ HV.out.old).mono ?_); rintro r W ⟨rfl, hb⟩; replace HV := Lib.hid (HV.out.grow hb); clear hb) | fail)
        go_roundw
        case rel => exact ⟨1, by omega, by go_num, (fun _ => by first | rfl | trivial), (fun h => by omega), HV.out⟩
        case measure => simp [intOf]
    · obtain rfl := hs (by omega)
      clear hs ht
      have c0 := Joins.cell_of_block HV.out.head 1
      simp only [List.getElem?_toArray, List.getElem?_cons_zero, List.getElem?_cons_succ] at c0
      cases t
      · go_wp2_with (first | (go_at_call 50; (with_reducible refine (CT.out _ HV.out.old).mono ?_); rintro r W ⟨rfl, hb⟩; replace HV := Lib.hid (HV.out.grow hb); clear hb) | fail)
        go_ret
        exact ⟨rfl, HV.out.old⟩
      · go_wp2_with (first | (go_at_call 50; (with_reducible refine (CT.out _ HV.out.old).mono ?_); rintro r W ⟨rfl, hb⟩; replace HV := Lib.hid (HV.out.grow hb); clear hb) | fail)
        go_roundw
        case rel => exact ⟨2, by omega, by go_num, (fun _ => by first | rfl | trivial), (fun _ => by first | rfl | trivial), HV.out⟩
        case measure => simp [intOf]
    · obtain rfl := hs (by omega)
      obtain rfl := ht (by omega)
      clear hs ht
      go_wp2_with (first | (go_at_call 26; (with_reducible refine (CA.out _ HV.out.old).mono ?_); rintro r W ⟨rfl, hb⟩; replace HV := Lib.hid (HV.out.grow hb); clear hb) | fail)
      go_ret
      exact ⟨rfl, HV.out.old⟩

end Bw
end Go.Proofs.Ytjhgcbkdghcgmaa
