/- Records as they lie; whether two lists of them are the same; the program's within and Code, the document's Code. -/
import Derived.Test.YtddkmaplficofaaFaultMath
import Derived.Test.YtddkmaplficofaaCopyKit
import Derived.Test.YtddkmaplficofaaLimKit
import Derived.ChangeKeysEq
import Derived.Laws.StructEq
import Derived.BigQuiet
import Derived.Deep.QuietTactic
import Derived.Deep.RegionHeld3
import Derived.LoopTactic
import Derived.Lib.Hide
import Derived.Lib.MinMax
import Derived.Handy
import Derived.Test.YtddkmaplficofaaProg
namespace Go.Proofs.Ytddkmaplficofaa
namespace Fw
open Go.RowKit Fa Lk
open Sp (R)

/-- A record's cells. -/
abbrev rcs (r : R) : Array Value := #[.int .i64 r.code, .int .i64 r.cnt, .bool r.lat]
abbrev rf_ (r : R) : List Value := (rcs r).toList
/-- Records that lie in a slice. -/
def Rcs (W : World) (A : Option Addr) (L : List R) : Prop := ∀ i r, L[i]? = some r → ∃ g o, A = some ⟨g, o, none⟩ ∧ g < W.heap.size ∧ W.rangeAt g (o + i * 3) (rcs r).toList
theorem Rcs.below {W W' : World} {A : Option Addr} {L : List R} (h : Rcs W A L) (hb : Below W.heap.size W W') : Rcs W' A L := fun i r hi => by
  obtain ⟨g, o, e, hg, hr⟩ := h i r hi
  exact ⟨g, o, e, Nat.lt_of_lt_of_le hg hb.size, fun j v hv => (hb.cell (p := ⟨g, o + i * 3 + j, none⟩) hg).trans (hr j v hv)⟩
/-- Records that append makes, from block base on. -/
abbrev Row (W : World) (base : Nat) (v : Value) (l : List R) : Prop := Rw 30 3 rf_ W base v l
theorem Row.form {W : World} {base : Nat} {v : Value} {l : List R} (h : Row W base v l) : ∃ A c, v = .slice A l.length c ∧ l.length ≤ c ∧ Rcs W A l := by
  obtain ⟨A, c, e, hc, hel⟩ := Rw.form (f := rf_) (sz := 3) (fun _ => rfl) h
  refine ⟨A, c, e, hc, fun i r hi => ?_⟩
  obtain ⟨g, e2, h1, h2, h3⟩ := hel i r hi
  exact ⟨g, 0, e2, h2, by rw [Nat.zero_add]; exact h3⟩

theorem rf_len (r : R) : (rf_ r).length = 3 := rfl
theorem rf_one (r : R) : ∀ u ∈ rf_ r, u.oneCell' = true := by
  intro u hu
  change u ∈ [Value.int .i64 r.code, .int .i64 r.cnt, .bool r.lat] at hu
  simp only [List.mem_cons, List.not_mem_nil, or_false] at hu
  rcases hu with rfl | rfl | rfl <;> rfl
theorem flat_one (l : List R) : ∀ u ∈ l.flatMap rf_, u.oneCell' = true := by
  intro u hu
  obtain ⟨r, _, h⟩ := List.mem_flatMap.1 hu
  exact rf_one r u h
theorem info_r1 : (Try.prog.info? 30).map (fun i => (i.zero, i.size, i.bytes)) = some (some (.agg (rcs ⟨0, 0, false⟩)), 3, 24) := by kernel_rfl
theorem info_r3 : ∃ i, Try.prog.info? 30 = some i ∧ i.zero = some (.agg (rcs ⟨0, 0, false⟩)) ∧ i.size = 3 ∧ i.bytes = 24 := by
  obtain ⟨i, hi, hz⟩ := Option.map_eq_some_iff.1 info_r1
  simp only [Prod.mk.injEq] at hz
  exact ⟨i, hi, hz.1, hz.2.1, hz.2.2⟩
theorem info_rs : (Try.prog.info? 30).map (·.size) = some 3 := by kernel_rfl
theorem range_r (w : World) (r : R) : (w.alloc (.cells (rcs r) 30)).rangeAt w.heap.size 0 (rf_ r) := fun j v hv => by
  rw [Nat.zero_add]
  exact (Joins.cell_of_block (heap_alloc_last w _) j).trans (by simpa using hv)
/-- A record's cells, one by one. -/
theorem rc_cells {W : World} {g o : Nat} {r : R} (h : W.rangeAt g o (rcs r).toList) : W.cell? ⟨g, o, none⟩ = some (.int .i64 r.code) ∧ W.cell? ⟨g, o + 1, none⟩ = some (.int .i64 r.cnt) ∧ W.cell? ⟨g, o + 2, none⟩ = some (.bool r.lat) :=
  ⟨h 0 _ rfl, h 1 _ rfl, h 2 _ rfl⟩
/-- A record loaded out of the midst of a block. -/
theorem ldrm {ops : Array Oper} {rest : List Oper} {op : Oper} {a : Act} {w : World} {Q : Exit → Act → World → Prop} (hw : Region.wanted op (yielded ops a.tmps) = true) (x : Operand) (ho : op.op = .load 30 x)
    (b off : Nat) (r : R) (hx : a.eval x = .pointer (some ⟨b, off, none⟩)) (hP : w.rangeAt b off (rcs r).toList)
    (c : wpList Try.prog ops Q rest (a.put op.dst (.agg (rcs r))) w) : wpList Try.prog ops Q (op :: rest) a w :=
  Lk.wanted hw fun _ hK => wp_load_mid 30 x ho b off hx (rcs r).toList _ hP Try.underlying30 rfl info_rs (hK _ _ c)

theorem below_n {m : Nat} {W W' : World} (h : Below m W W') (n : Nat) : Below m W (W'.drewN n) := h.trans ⟨rfl, rfl, rfl, Nat.le_refl _, fun _ _ => rfl⟩
theorem ret_b {a b : Bool} (h : a = b) : Ending.returned (.bool a) = .returned (.bool b) := by rw [h]
theorem ret_i {a b : Int} (h : a = b) : Ending.returned (.int .i64 a) = .returned (.int .i64 b) := by rw [h]

theorem eqin_r (a b : R) (w : World) : (Op.equalIn 10000 30 (.agg (rcs a)) (.agg (rcs b))).run Try.prog w = .ok (decide (a = b)) w := by
  have e : decide (a = b) = (a.code == b.code && (a.cnt == b.cnt && a.lat == b.lat)) := by
    obtain ⟨a1, a2, a3⟩ := a
    obtain ⟨b1, b2, b3⟩ := b
    rw [Bool.eq_iff_iff]
    simp
  rw [e]
  simp [go_sem, rcs]
  by_cases h1 : a.code = b.code <;> by_cases h2 : a.cnt = b.cnt <;> by_cases h3 : a.lat = b.lat <;> simp [h1, h2, h3]
theorem neq_r (a b : R) (w : World) : (binOp .neq 30 (.agg (rcs a)) (.agg (rcs b))).run Try.prog w = .ok (.bool (!decide (a = b))) w := by
  rw [run_neq_struct, eqin_r]
  rfl
theorem eq_r (a b : R) (w : World) : (binOp .eql 30 (.agg (rcs a)) (.agg (rcs b))).run Try.prog w = .ok (.bool (decide (a = b))) w := by
  rw [run_eql_struct, eqin_r]
  rfl

set_option maxHeartbeats 4000000 in
theorem same_ne (A B : Option Addr) (na nb ca cb : Nat) (hn : na ≠ nb) (w : World) :
    Calls Try.prog 12 #[.slice A na ca, .slice B nb cb] w fun e w' => e = .returned (.bool false) ∧ w = w' := by
  have d : ((na : Int) == (nb : Int)) = false := by simp; omega
  go_enter Try.func12, Try.ntmps12
  go_wp2_with fail
  go_ret
  exact ⟨rfl, rfl⟩
set_option maxHeartbeats 4000000 in
theorem same_eq (A B : Option Addr) (La Lb : List R) (n ca cb : Nat) (hna : La.length = n) (hnb : Lb.length = n) (hl : n ≤ 1000) (w : World) (hA : Rcs w A La) (hB : Rcs w B Lb) :
    Calls Try.prog 12 #[.slice A n ca, .slice B n cb] w fun e w' => e = .returned (.bool (decide (La = Lb))) ∧ Below w.heap.size w w' := by
  have HA := Lib.hid hA
  have HB := Lib.hid hB
  have HN := Lib.hid (And.intro hna hnb)
  clear hA hB hna hnb
  go_enter Try.func12, Try.ntmps12
  go_wp2_with fail
  go_loopw [5] (fun i wr => ∃ k : Nat, k ≤ n ∧ i = .int .i64 k ∧ La.take k = Lb.take k ∧ Below w.heap.size w wr) (fun i _ => n - (intOf i).toNat)
  case atStart => exact ⟨0, Nat.zero_le _, rfl, by simp, Below.refl _ _⟩
  case round =>
    obtain ⟨k, hk, rfl, ht, hb⟩ := hrel
    have HT := Lib.hid ht
    have HW := Lib.hid hb
    clear ht hb
    by_cases hlt : k < n
    · obtain ⟨ra, hra⟩ : ∃ r, La[k]? = some r := ⟨La[k]'(by rw [HN.out.1]; exact hlt), List.getElem?_eq_getElem _⟩
      obtain ⟨rb, hrb⟩ : ∃ r, Lb[k]? = some r := ⟨Lb[k]'(by rw [HN.out.2]; exact hlt), List.getElem?_eq_getElem _⟩
      obtain ⟨ga, oa, rfl, _, h1⟩ := (HA.out.below HW.out) k ra hra
      obtain ⟨gb, ob, rfl, _, h2⟩ := (HB.out.below HW.out) k rb hrb
      obtain ⟨a0, a1, a2⟩ := rc_cells h1
      obtain ⟨b0, b1, b2⟩ := rc_cells h2
      have E := neq_r ra rb
      have hkn : (k : Int) < n := by omega
      have ET : Hid (La.take (k + 1) = La.take k ++ [ra] ∧ Lb.take (k + 1) = Lb.take k ++ [rb]) := ⟨by rw [List.take_add_one, hra]; rfl, by rw [List.take_add_one, hrb]; rfl⟩
      have EN : Hid (ra ≠ rb → La ≠ Lb) := fun c e => c (by rw [e, hrb] at hra; injection hra with hra; exact hra.symm)
      clear h1 h2 hra hrb HA HB
      dsimp only [rcs] at E
      by_cases he : ra = rb
      · subst he
        simp only [decide_true, Bool.not_true] at E
        go_wp2_with fail
        go_quiet (fail)
        go_wp2_with fail
        go_roundw
        case rel => exact ⟨k + 1, by omega, by go_num, by rw [ET.out.1, ET.out.2, HT.out], below_n HW.out _⟩
        case measure => simp [intOf]; omega
      · have hd : decide (ra = rb) = false := decide_eq_false he
        have hx : decide (La = Lb) = false := decide_eq_false (EN.out he)
        rw [hd] at E
        simp only [Bool.not_false] at E
        go_wp2_with fail
        go_quiet (fail)
        go_wp2_with fail
        go_ret
        rw [hx]
        exact ⟨rfl, below_n HW.out _⟩
    · obtain rfl : n = k := by omega
      have hx : decide (La = Lb) = true := by
        have := HT.out
        rw [List.take_of_length_le (by rw [HN.out.1]; exact Nat.le_refl _), List.take_of_length_le (by rw [HN.out.2]; exact Nat.le_refl _)] at this
        exact decide_eq_true this
      go_wp2_with fail
      go_ret
      rw [hx]
      exact ⟨rfl, HW.out⟩
theorem same_c (A B : Option Addr) (La Lb : List R) (na nb ca cb : Nat) (hna : La.length = na) (hnb : Lb.length = nb) (hl : na ≤ 1000) (w : World) (hA : Rcs w A La) (hB : Rcs w B Lb) :
    Calls Try.prog 12 #[.slice A na ca, .slice B nb cb] w fun e w' => e = .returned (.bool (decide (La = Lb))) ∧ Below w.heap.size w w' := by
  by_cases hn : na = nb
  · subst hn
    exact same_eq A B La Lb na ca cb hna hnb hl w hA hB
  · have hx : decide (La = Lb) = false := decide_eq_false fun e => hn (by rw [← hna, ← hnb, e])
    refine (same_ne A B na nb ca cb hn w).mono ?_
    rintro e w' ⟨rfl, rfl⟩
    rw [hx]
    exact ⟨rfl, Below.refl _ _⟩

theorem within_c (n lo hi : Int) (w : World) : Calls Try.prog 21 #[.int .i64 n, .int .i64 lo, .int .i64 hi] w fun e w' => e = .returned (.bool (decide (lo ≤ n ∧ n ≤ hi))) ∧ w = w' := by
  by_cases h1 : lo ≤ n
  · by_cases h2 : n ≤ hi
    · have d : decide (lo ≤ n ∧ n ≤ hi) = true := decide_eq_true ⟨h1, h2⟩
      rw [d]
      go_enter Try.func21, Try.ntmps21
      go_wp2_with fail
      go_ret
      exact ⟨rfl, rfl⟩
    · have d : decide (lo ≤ n ∧ n ≤ hi) = false := decide_eq_false fun h => h2 h.2
      have h3 : decide (n ≤ hi) = false := decide_eq_false h2
      rw [d]
      go_enter Try.func21, Try.ntmps21
      go_wp2_with fail
      go_ret
      exact ⟨rfl, rfl⟩
  · have d : decide (lo ≤ n ∧ n ≤ hi) = false := decide_eq_false fun h => h1 h.1
    rw [d]
    go_enter Try.func21, Try.ntmps21
    go_wp2_with fail
    go_ret
    exact ⟨rfl, rfl⟩
theorem within_t {n lo hi : Int} (h : lo ≤ n ∧ n ≤ hi) (w : World) : Calls Try.prog 21 #[.int .i64 n, .int .i64 lo, .int .i64 hi] w fun e w' => e = .returned (.bool true) ∧ w = w' := by
  have := within_c n lo hi w
  rwa [decide_eq_true h] at this
theorem within_f {n lo hi : Int} (h : ¬ (lo ≤ n ∧ n ≤ hi)) (w : World) : Calls Try.prog 21 #[.int .i64 n, .int .i64 lo, .int .i64 hi] w fun e w' => e = .returned (.bool false) ∧ w = w' := by
  have := within_c n lo hi w
  rwa [decide_eq_false h] at this

theorem code_bad {a b : Int} (h : a < 0 ∨ 1 < a ∨ b < 0 ∨ 14 < b) : code a b = 0 := if_pos h
theorem code_ok {a b : Int} (h : ¬ (a < 0 ∨ 1 < a ∨ b < 0 ∨ 14 < b)) : code a b = 1 + 16 * a + b := if_neg h
set_option maxHeartbeats 1600000 in
theorem code_c (a b : Int) (w : World) : Calls Try.prog 18 #[.int .i64 a, .int .i64 b] w fun e w' => e = .returned (.int .i64 (code a b)) ∧ w = w' := by
  by_cases ha : 0 ≤ a ∧ a ≤ 1
  · have H1 := Lib.hid (fun W => within_t ha W)
    by_cases hb : 0 ≤ b ∧ b ≤ 14
    · have H2 := Lib.hid (fun W => within_t hb W)
      have e := code_ok (a := a) (b := b) (by omega)
      rw [e]
      go_enter Try.func18, Try.ntmps18
      go_wp2_with (go_at_call 21; (first | (with_reducible refine (H1.out _).mono ?_) | (with_reducible refine (H2.out _).mono ?_)); rintro e w' ⟨rfl, rfl⟩)
      go_ret
      exact ⟨ret_i (by omega), rfl⟩
    · have H2 := Lib.hid (fun W => within_f hb W)
      have e := code_bad (a := a) (b := b) (by omega)
      rw [e]
      go_enter Try.func18, Try.ntmps18
      go_wp2_with (go_at_call 21; (first | (with_reducible refine (H1.out _).mono ?_) | (with_reducible refine (H2.out _).mono ?_)); rintro e w' ⟨rfl, rfl⟩)
      go_ret
      exact ⟨rfl, rfl⟩
  · have H1 := Lib.hid (fun W => within_f ha W)
    have e := code_bad (a := a) (b := b) (by omega)
    rw [e]
    go_enter Try.func18, Try.ntmps18
    go_wp2_with (go_at_call 21; (with_reducible refine (H1.out _).mono ?_); rintro e w' ⟨rfl, rfl⟩)
    go_ret
    exact ⟨rfl, rfl⟩
set_option maxHeartbeats 1600000 in
theorem rcode_c (a b : Int) (w : World) : Calls Try.prog 19 #[.int .i64 a, .int .i64 b] w fun e w' => e = .returned (.int .i64 (code a b)) ∧ w = w' := by
  have hc : a < 0 ∨ (¬ a < 0 ∧ 1 < a) ∨ (¬ a < 0 ∧ ¬ 1 < a ∧ b < 0) ∨ (¬ a < 0 ∧ ¬ 1 < a ∧ ¬ b < 0 ∧ 14 < b) ∨ (0 ≤ a ∧ a ≤ 1 ∧ 0 ≤ b ∧ b ≤ 14) := by omega
  rcases hc with h1 | ⟨h1, h2⟩ | ⟨h1, h2, h3⟩ | ⟨h1, h2, h3, h4⟩ | ⟨h1, h2, h3, h4⟩
  · rw [code_bad (by omega)]
    go_enter Try.func19, Try.ntmps19
    go_wp2_with fail
    go_ret
    exact ⟨rfl, rfl⟩
  · rw [code_bad (by omega)]
    have d1 : decide (a < 0) = false := decide_eq_false h1
    go_enter Try.func19, Try.ntmps19
    go_wp2_with fail
    go_ret
    exact ⟨rfl, rfl⟩
  · rw [code_bad (by omega)]
    have d1 : decide (a < 0) = false := decide_eq_false h1
    have d2 : decide (1 < a) = false := decide_eq_false h2
    go_enter Try.func19, Try.ntmps19
    go_wp2_with fail
    go_ret
    exact ⟨rfl, rfl⟩
  · rw [code_bad (by omega)]
    have d1 : decide (a < 0) = false := decide_eq_false h1
    have d2 : decide (1 < a) = false := decide_eq_false h2
    have d3 : decide (b < 0) = false := decide_eq_false h3
    go_enter Try.func19, Try.ntmps19
    go_wp2_with fail
    go_ret
    exact ⟨rfl, rfl⟩
  · rw [code_ok (by omega)]
    have d1 : decide (a < 0) = false := decide_eq_false (by omega)
    have d2 : decide (1 < a) = false := decide_eq_false (by omega)
    have d3 : decide (b < 0) = false := decide_eq_false (by omega)
    have d4 : decide (14 < b) = false := decide_eq_false (by omega)
    go_enter Try.func19, Try.ntmps19
    go_wp2_with fail
    go_ret
    exact ⟨ret_i (by omega), rfl⟩
end Fw
end Go.Proofs.Ytddkmaplficofaa
