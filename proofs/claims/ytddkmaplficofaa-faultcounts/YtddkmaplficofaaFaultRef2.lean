/- The document's own Raise, of any code, and Edge; whether two lists of numbers are the same. -/
import Derived.Test.YtddkmaplficofaaFaultRef
namespace Go.Proofs.Ytddkmaplficofaa
namespace Fw
open Go.RowKit Fa Lk
open Sp (R)

set_option maxHeartbeats 1600000 in
/-- **Raise**, the document's. -/
theorem rraise_c (A : Option Addr) (n cp : Nat) (L : List R) (c : Int) (m : Nat) (hg : Fa.Good L m) (hm : m ≤ 1000) (w : World) (h : Rd w A n cp L) :
    Calls Try.prog 11 #[.slice A n cp, .int .i64 c] w fun e w' => ∃ A' cp', e = .returned (.tuple #[.slice A' (raise L c).length cp', .int .i64 (err c)]) ∧ Rd w' A' (raise L c).length cp' (raise L c) ∧ Below w.heap.size w w' := by
  have hn : n ≤ 1000 := by have := hg.len; have := h.len; omega
  by_cases hc : okC c = true
  · have hc2 : 1 ≤ c ∧ c ≤ 255 := of_decide_eq_true hc
    have e1 : raise L c = put c L := if_pos hc
    have e2 : err c = 0 := if_pos hc
    rw [e1, e2]
    refine (rraise_ok A n cp L c h.len hn hg.few hg.up hc2 w h.rcs).mono ?_
    rintro e w' ⟨v, rfl, h1, hb⟩
    obtain ⟨A', cp', rfl, h2⟩ := lst_of h1 (fun h => absurd h (put_pos c L))
    exact ⟨A', cp', rfl, h2.rd, hb⟩
  · have hc2 : c < 1 ∨ (¬ c < 1 ∧ 255 < c) := by
      have : ¬ (1 ≤ c ∧ c ≤ 255) := fun x => hc (decide_eq_true x)
      omega
    have e1 : raise L c = L := if_neg hc
    have e2 : err c = 1 := if_neg hc
    rw [e1, e2]
    have HD := Lib.hid h
    have hl := h.len
    clear h hg hc
    subst hl
    rcases hc2 with h1 | ⟨h1, h2⟩
    · go_enter Try.func11, Try.ntmps11
      go_wp2_with fail
      go_ret2
      exact ⟨A, cp, rfl, HD.out, Below.refl _ _⟩
    · have d1 : decide (c < 1) = false := decide_eq_false h1
      go_enter Try.func11, Try.ntmps11
      go_wp2_with fail
      go_ret2
      exact ⟨A, cp, rfl, HD.out, Below.refl _ _⟩

/-- One number put behind the others. -/
theorem app_i {ops : Array Oper} {Q : Exit → Act → World → Prop} {a : Act} {w : World} {rest : List Oper} {o : Oper} (hw : Region.wanted o (yielded ops a.tmps) = true)
    (s x : Operand) (ho : o.op = .call { callee := .builtin .append, args := #[s, x], argTypes := #[22, 22] })
    (base : Nat) (v : Value) (l : List Nat) (hs : a.eval s = v) (hown : Ints w base v l) (g c : Nat) (b : Nat) (hx : a.eval x = .slice (some ⟨g, 0, none⟩) 1 c) (hA : w.rangeAt g 0 (fi b))
    (hm : l.length ≤ 1000000) (hbase : base ≤ w.heap.size)
    (h : ∀ v' w', Ints w' base v' (l ++ [b]) → Below base w w' → wpList Try.prog ops Q rest (a.put o.dst v') w') : wpList Try.prog ops Q (o :: rest) a w :=
  app_one hw s x 22 ho Try.underlying22 _ 8 (info_parts info_i1) rfl (by decide) fi_len fi_one (by decide) base v l hs hown g c b hx hA hm hbase h
theorem range_i (w : World) (n : Nat) : (w.alloc (.cells #[.int .i64 n] 3)).rangeAt w.heap.size 0 (fi n) := fun j v hv => by
  rw [Nat.zero_add]
  exact (Joins.cell_of_block (heap_alloc_last w _) j).trans (by simpa using hv)

structure Li (w W : World) (v : Value) (l : List Nat) : Prop where
  row : Ints W w.heap.size v l
  old : Below w.heap.size w W
theorem Li.alloc {w W : World} {v : Value} {l : List Nat} (h : Li w W v l) (o : Obj) : Li w (W.alloc o) v l := ⟨h.row.alloc o, h.old.alloc h.old.size o⟩
theorem Li.app {w W W' : World} {v v' : Value} {l l' : List Nat} (h : Li w W v l) (hr : Ints W' w.heap.size v' l') (hb : Below w.heap.size W W') : Li w W' v' l' := ⟨hr, h.old.trans hb⟩

set_option maxRecDepth 100000 in
set_option maxHeartbeats 4000000 in
/-- **Edge**, the document's. -/
theorem redge_c (Aw An : Option Addr) (nw cw nn cn : Nat) (was now : List Bool) (hw : was.length = nw) (hn : now.length = nn) (hl : nn ≤ 1000) (w : World) (hW : Bls w Aw was) (hA : Bls w An now) :
    Calls Try.prog 17 #[.slice Aw nw cw, .slice An nn cn] w fun e w' => ∃ v, e = .returned v ∧ Ints w' w.heap.size v (edges was now) ∧ Below w.heap.size w w' := by
  have HW := Lib.hid hW
  have HA := Lib.hid hA
  have HN := Lib.hid hn
  have HNw := Lib.hid hw
  have HE : Hid (edges was now = ups (edgeB was now) nn) := by show _ = _; unfold edges; rw [hn]
  have HQ : Hid (Li w w (.slice none 0 0) (ups (edgeB was now) 0)) := ⟨Rw.nil _ _ _ _ _, Below.refl _ _⟩
  clear hW hA hn hw
  go_enter Try.func17, Try.ntmps17
  go_wp2_with fail
  go_loopw [5, 6] (fun o i wr => ∃ k : Nat, k ≤ nn ∧ i = .int .i64 k ∧ Li w wr o (ups (edgeB was now) k)) (fun _ i _ => nn - (intOf i).toNat)
  case atStart => exact ⟨0, Nat.zero_le _, rfl, HQ.out⟩
  case round =>
    clear HQ
    obtain ⟨k, hk, rfl, hq⟩ := hrel
    have HQ := Lib.hid hq
    clear hq
    have hbase := HQ.out.old.size
    by_cases hlt : k < nn
    · obtain ⟨b, hb⟩ : ∃ b, now[k]? = some b := ⟨now[k]'(by rw [HN.out]; exact hlt), List.getElem?_eq_getElem _⟩
      obtain ⟨g, o, rfl, hg, hc⟩ := HA.out k b hb
      have c0 := (HQ.out.old.cell (p := ⟨g, o + k, none⟩) hg).trans hc
      have hkn : (k : Int) < nn := by omega
      have HY : Hid (edgeB was now k = (b && !was.getD k false)) := by show _ = _; unfold edgeB; rw [List.getD_eq_getElem?_getD (l := now), hb]; rfl
      have hlen := ups_len (edgeB was now) k
      have HS : Hid (∀ x, edgeB was now k = x → ups (edgeB was now) (k + 1) = ups (edgeB was now) k ++ if x = true then [k] else []) := fun x hx => by rw [ups_succ, hx]
      generalize ups (edgeB was now) k = l at HQ hlen HS
      clear hc hb
      cases b with
      | false =>
        have HN2 : Hid (ups (edgeB was now) (k + 1) = l) := by show _ = _; rw [HS.out false (by rw [HY.out]; rfl)]; simp
        clear HS HY
        go_wp2_with fail
        go_roundw
        case rel => exact ⟨k + 1, by omega, by go_num, by rw [HN2.out]; exact HQ.out⟩
        case measure => simp [intOf]; omega
      | true =>
        by_cases hlw : k < nw
        · obtain ⟨x, hx⟩ : ∃ x, was[k]? = some x := ⟨was[k]'(by rw [HNw.out]; exact hlw), List.getElem?_eq_getElem _⟩
          obtain ⟨gw, ow, rfl, hgw, hcw⟩ := HW.out k x hx
          have c1 := (HQ.out.old.cell (p := ⟨gw, ow + k, none⟩) hgw).trans hcw
          have d1 : decide ((nw : Int) ≤ (k : Int)) = false := decide_eq_false (by omega)
          have d2 : (k : Int) < nw := by omega
          have HX : Hid (was.getD k false = x) := by show _ = _; rw [List.getD_eq_getElem?_getD, hx]; rfl
          clear hcw hx
          cases x with
          | true =>
            have HN2 : Hid (ups (edgeB was now) (k + 1) = l) := by show _ = _; rw [HS.out false (by rw [HY.out, HX.out]; rfl)]; simp
            clear HS HY HX
            go_wp2_with fail
            go_roundw
            case rel => exact ⟨k + 1, by omega, by go_num, by rw [HN2.out]; exact HQ.out⟩
            case measure => simp [intOf]; omega
          | false =>
            have HN2 : Hid (ups (edgeB was now) (k + 1) = l ++ [k]) := by show _ = _; rw [HS.out true (by rw [HY.out, HX.out]; rfl)]; simp
            clear HS HY HX
            go_wp2_with (first | (at_builtin; refine app_i rfl _ _ rfl w.heap.size _ l rfl (HQ.out.row.alloc _) wr.heap.size 1 k rfl (range_i wr k) (by omega) (by simp; omega) ?_) | fail)
            intro v5 W5 h8 hb8
            replace HQ := Lib.hid ((HQ.out.alloc (.cells #[.int .i64 k] 3)).app h8 hb8)
            clear h8 hb8
            go_wp2_with fail
            go_roundw
            case rel => exact ⟨k + 1, by omega, by go_num, by rw [HN2.out]; exact HQ.out⟩
            case measure => simp [intOf]; omega
        · have d1 : decide ((nw : Int) ≤ (k : Int)) = true := decide_eq_true (by omega)
          have HX : Hid (was.getD k false = false) := by show _ = _; rw [List.getD_eq_getElem?_getD, List.getElem?_eq_none (by rw [HNw.out]; omega)]; rfl
          have HN2 : Hid (ups (edgeB was now) (k + 1) = l ++ [k]) := by show _ = _; rw [HS.out true (by rw [HY.out, HX.out]; rfl)]; simp
          clear HS HY HX
          go_wp2_with (first | (at_builtin; refine app_i rfl _ _ rfl w.heap.size _ l rfl (HQ.out.row.alloc _) wr.heap.size 1 k rfl (range_i wr k) (by omega) (by simp; omega) ?_) | fail)
          intro v5 W5 h8 hb8
          replace HQ := Lib.hid ((HQ.out.alloc (.cells #[.int .i64 k] 3)).app h8 hb8)
          clear h8 hb8
          go_wp2_with fail
          go_roundw
          case rel => exact ⟨k + 1, by omega, by go_num, by rw [HN2.out]; exact HQ.out⟩
          case measure => simp [intOf]; omega
    · obtain rfl : k = nn := by omega
      go_wp2_with fail
      go_ret
      exact ⟨_, rfl, by rw [HE.out]; exact HQ.out.row, HQ.out.old⟩

/-- Numbers that lie in a slice. -/
def Ins (W : World) (A : Option Addr) (l : List Nat) : Prop := ∀ i x : Nat, l[i]? = some x → ∃ g, A = some ⟨g, 0, none⟩ ∧ g < W.heap.size ∧ W.cell? ⟨g, i, none⟩ = some (.int .i64 x)
theorem Ins.below {W W' : World} {A : Option Addr} {l : List Nat} (h : Ins W A l) (hb : Below W.heap.size W W') : Ins W' A l := fun i x hi => by
  obtain ⟨g, e, hg, hr⟩ := h i x hi
  exact ⟨g, e, Nat.lt_of_lt_of_le hg hb.size, (hb.cell (p := ⟨g, i, none⟩) hg).trans hr⟩
theorem ins_of {W : World} {base : Nat} {v : Value} {l : List Nat} (h : Ints W base v l) : ∃ A c, v = .slice A l.length c ∧ Ins W A l := by
  obtain ⟨A, c, e, _, hel⟩ := Rw.form (f := fi) (sz := 1) fi_len h
  refine ⟨A, c, e, fun i x hi => ?_⟩
  obtain ⟨g, e2, _, h2, h3⟩ := hel i x hi
  refine ⟨g, e2, h2, ?_⟩
  have := h3 0 _ rfl
  simpa using this
set_option maxHeartbeats 4000000 in
/-- The same numbers are the same. -/
theorem same_i (A B : Option Addr) (ca cb : Nat) (l : List Nat) (n : Nat) (hn : l.length = n) (hl : n ≤ 1000) (w : World) (hA : Ins w A l) (hB : Ins w B l) :
    Calls Try.prog 15 #[.slice A n ca, .slice B n cb] w fun e w' => e = .returned (.bool true) ∧ Below w.heap.size w w' := by
  have HA := Lib.hid hA
  have HB := Lib.hid hB
  have HN := Lib.hid hn
  clear hA hB hn
  go_enter Try.func15, Try.ntmps15
  go_wp2_with fail
  go_loopw [5] (fun i wr => ∃ k : Nat, k ≤ n ∧ i = .int .i64 k ∧ Below w.heap.size w wr) (fun i _ => n - (intOf i).toNat)
  case atStart => exact ⟨0, Nat.zero_le _, rfl, Below.refl _ _⟩
  case round =>
    obtain ⟨k, hk, rfl, hb⟩ := hrel
    have HW := Lib.hid hb
    clear hb
    by_cases hlt : k < n
    · obtain ⟨x, hx⟩ : ∃ x, l[k]? = some x := ⟨l[k]'(by rw [HN.out]; exact hlt), List.getElem?_eq_getElem _⟩
      obtain ⟨ga, rfl, _, h1⟩ := (HA.out.below HW.out) k x hx
      obtain ⟨gb, rfl, _, h2⟩ := (HB.out.below HW.out) k x hx
      have hkn : (k : Int) < n := by omega
      clear hx HA HB
      go_wp2_with fail
      go_quiet (fail)
      go_wp2_with fail
      go_roundw
      case rel => exact ⟨k + 1, by omega, by go_num, below_n HW.out _⟩
      case measure => simp [intOf]; omega
    · obtain rfl : n = k := by omega
      go_wp2_with fail
      go_ret
      exact ⟨rfl, HW.out⟩
end Fw
end Go.Proofs.Ytddkmaplficofaa
