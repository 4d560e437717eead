/- The document's own store: whether two lists of records are the same. -/
import Derived.Test.YtlhapipgmadbeaaStoreOld
import Derived.ChangeKeysEq
import Derived.Laws.StructEq
namespace Go.Proofs.Ytlhapipgmadbeaa
namespace Sq
open Go.RowKit Nv Nw Sp Lk

/-- Records that lie in a slice. -/
def Rcs (W : World) (A : Option Addr) (L : List R) : Prop := ∀ i r, L[i]? = some r → ∃ g o, A = some ⟨g, o, none⟩ ∧ g < W.heap.size ∧ W.rangeAt g (o + i * 3) (rcs r).toList
theorem Rcs.below {W W' : World} {A : Option Addr} {L : List R} (h : Rcs W A L) (hb : Below W.heap.size W W') : Rcs W' A L := fun i r hi => by
  obtain ⟨g, o, e, hg, hr⟩ := h i r hi
  exact ⟨g, o, e, Nat.lt_of_lt_of_le hg hb.size, fun j v hv => (hb.cell (p := ⟨g, o + i * 3 + j, none⟩) hg).trans (hr j v hv)⟩

theorem eqin_r (a b : R) (w : World) : (Op.equalIn 10000 37 (.agg (rcs a)) (.agg (rcs b))).run Try.prog w = .ok (decide (a = b)) w := by
  have e : decide (a = b) = (a.code == b.code && (a.cnt == b.cnt && a.lat == b.lat)) := by
    obtain ⟨a1, a2, a3⟩ := a
    obtain ⟨b1, b2, b3⟩ := b
    rw [Bool.eq_iff_iff]
    simp
  rw [e]
  simp [go_sem, rcs]
  by_cases h1 : a.code = b.code <;> by_cases h2 : a.cnt = b.cnt <;> by_cases h3 : a.lat = b.lat <;> simp [h1, h2, h3]
theorem neq_r (a b : R) (w : World) : (binOp .neq 37 (.agg (rcs a)) (.agg (rcs b))).run Try.prog w = .ok (.bool (!decide (a = b))) w := by
  rw [run_neq_struct, eqin_r]
  rfl
theorem eq_r (a b : R) (w : World) : (binOp .eql 37 (.agg (rcs a)) (.agg (rcs b))).run Try.prog w = .ok (.bool (decide (a = b))) w := by
  rw [run_eql_struct, eqin_r]
  rfl
/-- A record's cells, one by one. -/
theorem rc_cells {W : World} {g o : Nat} {r : R} (h : W.rangeAt g o (rcs r).toList) : W.cell? ⟨g, o, none⟩ = some (.int .i64 r.code) ∧ W.cell? ⟨g, o + 1, none⟩ = some (.int .i64 r.cnt) ∧ W.cell? ⟨g, o + 2, none⟩ = some (.bool r.lat) :=
  ⟨h 0 _ rfl, h 1 _ rfl, h 2 _ rfl⟩

set_option maxHeartbeats 4000000 in
theorem same_ne (A B : Option Addr) (na nb ca cb : Nat) (hn : na ≠ nb) (w : World) :
    Calls Try.prog 25 #[.slice A na ca, .slice B nb cb] w fun e w' => e = .returned (.bool false) ∧ w = w' := by
  have d : ((na : Int) == (nb : Int)) = false := by simp; omega
  go_enter Try.func25, Try.ntmps25
  go_wp2_with fail
  go_ret
  exact ⟨rfl, rfl⟩
set_option maxHeartbeats 4000000 in
theorem same_eq (A B : Option Addr) (La Lb : List R) (n ca cb : Nat) (hna : La.length = n) (hnb : Lb.length = n) (hl : n ≤ 1000) (w : World) (hA : Rcs w A La) (hB : Rcs w B Lb) :
    Calls Try.prog 25 #[.slice A n ca, .slice B n cb] w fun e w' => e = .returned (.bool (decide (La = Lb))) ∧ Below w.heap.size w w' := by
  have HA := Lib.hid hA
  have HB := Lib.hid hB
  have HN := Lib.hid (And.intro hna hnb)
  clear hA hB hna hnb
  go_enter Try.func25, Try.ntmps25
  go_wp2_with fail
  go_loopw [5] (fun i wr => ∃ k : Nat, k ≤ n ∧ i = .int .i64 k ∧ La.take k = Lb.take k ∧ Below w.heap.size w wr) (fun i _ => n - (intOf i).toNat)
  case atStart => exact ⟨0, Nat.zero_le _, rfl, by simp, Below.refl _ _⟩
  case round =>
    obtain ⟨k, hk, rfl, ht, hb⟩ := hrel
    have HT := Lib.hid ht
    have HW := Lib.hid hb
    clear ht hb
    by_cases hlt : k < n
    · obtain ⟨ra, hra⟩ : ∃ r, La[k]? = some r := ⟨La[k]'(by rw [HN.out.1]; exact hlt), List.getElem?_eq_getElem _⟩
      obtain ⟨rb, hrb⟩ : ∃ r, Lb[k]? = some r := ⟨Lb[k]'(by rw [HN.out.2]; exact hlt), List.getElem?_eq_getElem _⟩
      obtain ⟨ga, oa, rfl, _, h1⟩ := (HA.out.below HW.out) k ra hra
      obtain ⟨gb, ob, rfl, _, h2⟩ := (HB.out.below HW.out) k rb hrb
      obtain ⟨a0, a1, a2⟩ := rc_cells h1
      obtain ⟨b0, b1, b2⟩ := rc_cells h2
      have E := neq_r ra rb
      have hkn : (k : Int) < n := by omega
      have ET : Hid (La.take (k + 1) = La.take k ++ [ra] ∧ Lb.take (k + 1) = Lb.take k ++ [rb]) := ⟨by rw [List.take_add_one, hra]; rfl, by rw [List.take_add_one, hrb]; rfl⟩
      have EN : Hid (ra ≠ rb → La ≠ Lb) := fun c e => c (by rw [e, hrb] at hra; injection hra with hra; exact hra.symm)
      clear h1 h2 hra hrb HA HB
      dsimp only [rcs] at E
      by_cases he : ra = rb
      · subst he
        simp only [decide_true, Bool.not_true] at E
        go_wp2_with fail
        go_quiet (fail)
        go_wp2_with fail
        go_roundw
        case rel => exact ⟨k + 1, by omega, by go_num, by rw [ET.out.1, ET.out.2, HT.out], below_n HW.out _⟩
        case measure => simp [intOf]; omega
      · have hd : decide (ra = rb) = false := decide_eq_false he
        have hx : decide (La = Lb) = false := decide_eq_false (EN.out he)
        rw [hd] at E
        simp only [Bool.not_false] at E
        go_wp2_with fail
        go_quiet (fail)
        go_wp2_with fail
        go_ret
        rw [hx]
        exact ⟨rfl, below_n HW.out _⟩
    · obtain rfl : n = k := by omega
      have hx : decide (La = Lb) = true := by
        have := HT.out
        rw [List.take_of_length_le (by rw [HN.out.1]; exact Nat.le_refl _), List.take_of_length_le (by rw [HN.out.2]; exact Nat.le_refl _)] at this
        exact decide_eq_true this
      go_wp2_with fail
      go_ret
      rw [hx]
      exact ⟨rfl, HW.out⟩
theorem same_c (A B : Option Addr) (La Lb : List R) (na nb ca cb : Nat) (hna : La.length = na) (hnb : Lb.length = nb) (hl : na ≤ 1000) (w : World) (hA : Rcs w A La) (hB : Rcs w B Lb) :
    Calls Try.prog 25 #[.slice A na ca, .slice B nb cb] w fun e w' => e = .returned (.bool (decide (La = Lb))) ∧ Below w.heap.size w w' := by
  by_cases hn : na = nb
  · subst hn
    exact same_eq A B La Lb na ca cb hna hnb hl w hA hB
  · have hx : decide (La = Lb) = false := decide_eq_false fun e => hn (by rw [← hna, ← hnb, e])
    refine (same_ne A B na nb ca cb hn w).mono ?_
    rintro e w' ⟨rfl, rfl⟩
    rw [hx]
    exact ⟨rfl, Below.refl _ _⟩
end Sq
end Go.Proofs.Ytlhapipgmadbeaa
