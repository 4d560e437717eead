/- The document's own store: the oldest one that holds. -/
import Derived.Test.YtlhapipgmadbeaaStoreRef
import Derived.Test.YtlhapipgmadbeaaAppKit
import Derived.BigQuiet
import Derived.Deep.MidRow
namespace Go.Proofs.Ytlhapipgmadbeaa
namespace Sq
open Go.RowKit Nv Nw Sp Lk

theorem pc_len (p : Pl) : ((pc p).toList).length = 5 := rfl
theorem pc_one (p : Pl) : ∀ u ∈ (pc p).toList, u.oneCell' = true := by
  intro u hu
  simp only [List.mem_cons, List.not_mem_nil, or_false] at hu
  rcases hu with rfl | rfl | rfl | rfl | rfl <;> rfl
/-- Places, bools that lie in rows: the places of l, the first P of them. -/
def Pls (W : World) (A : Option Addr) (P : Nat) (l : Nat → Pl) : Prop := ∀ i, i < P → ∃ g, A = some ⟨g, 0, none⟩ ∧ g < W.heap.size ∧ W.rangeAt g (i * 5) (pc (l i)).toList
def Bls (W : World) (A : Option Addr) (P : Nat) (h : Nat → Bool) : Prop := ∀ i, i < P → ∃ g, A = some ⟨g, 0, none⟩ ∧ g < W.heap.size ∧ W.cell? ⟨g, i, none⟩ = some (.bool (h i))

/-- A place's cells, one by one. -/
theorem pl_cells {W : World} {g o : Nat} {p : Pl} (h : W.rangeAt g o (pc p).toList) : W.cell? ⟨g, o, none⟩ = some (.int .u32 p.num) ∧ W.cell? ⟨g, o + 1, none⟩ = some (.int .i64 p.code) ∧ W.cell? ⟨g, o + 2, none⟩ = some (.int .i64 p.cnt) ∧ W.cell? ⟨g, o + 3, none⟩ = some (.bool p.lat) ∧ W.cell? ⟨g, o + 4, none⟩ = some (.bool p.good) :=
  ⟨h 0 _ rfl, h 1 _ rfl, h 2 _ rfl, h 3 _ rfl, h 4 _ rfl⟩
theorem Pls.below {W W' : World} {A : Option Addr} {P : Nat} {l : Nat → Pl} (h : Pls W A P l) (hb : Below W.heap.size W W') : Pls W' A P l := fun i hi => by
  obtain ⟨g, e, hg, hr⟩ := h i hi
  exact ⟨g, e, Nat.lt_of_lt_of_le hg hb.size, fun j v hv => (hb.cell (p := ⟨g, i * 5 + j, none⟩) hg).trans (hr j v hv)⟩
theorem Bls.below {W W' : World} {A : Option Addr} {P : Nat} {h : Nat → Bool} (hB : Bls W A P h) (hb : Below W.heap.size W W') : Bls W' A P h := fun i hi => by
  obtain ⟨g, e, hg, hr⟩ := hB i hi
  exact ⟨g, e, Nat.lt_of_lt_of_le hg hb.size, (hb.cell (p := ⟨g, i, none⟩) hg).trans hr⟩
theorem below_n {m : Nat} {W W' : World} (h : Below m W W') (n : Nat) : Below m W (W'.drewN n) := h.trans ⟨rfl, rfl, rfl, Nat.le_refl _, fun _ _ => rfl⟩
def oi : Option Nat → Int
  | none => -1
  | some a => a
theorem old_lt {l : Nat → Pl} {h : Nat → Bool} {x : Bool} {n a : Nat} (e : old l h x n = some a) : a < n := (old_some e).1

set_option maxHeartbeats 4000000 in
theorem oldest_c (A B : Option Addr) (ca cb P : Nat) (l : Nat → Pl) (h : Nat → Bool) (x : Bool) (w : World) (hP : P ≤ 1000) (hA : Pls w A P l) (hB : Bls w B P h) :
    Calls Try.prog 51 #[.slice A P ca, .slice B P cb, .bool x] w fun e w' => e = .returned (.int .i64 (oi (old l h x P))) ∧ Below w.heap.size w w' := by
  have HA := Lib.hid hA
  have HB := Lib.hid hB
  clear hA hB
  go_enter Try.func51, Try.ntmps51
  go_wp2_with fail
  go_loopw [7, 8] (fun t i wr => ∃ k : Nat, k ≤ P ∧ i = .int .i64 k ∧ t = .int .i64 (oi (old l h x k)) ∧ Below w.heap.size w wr) (fun _ i _ => P - (intOf i).toNat)
  case atStart => exact ⟨0, Nat.zero_le _, rfl, rfl, Below.refl _ _⟩
  case round =>
    obtain ⟨k, hk, rfl, rfl, hb⟩ := hrel
    replace HA := Lib.hid (HA.out.below hb)
    replace HB := Lib.hid (HB.out.below hb)
    have HW := Lib.hid hb
    clear hb
    by_cases hlt : k < P
    · obtain ⟨ga, rfl, _, ra⟩ := HA.out k hlt
      obtain ⟨gb, rfl, _, cb0⟩ := HB.out k hlt
      obtain ⟨a0, a1, a2, a3, a4⟩ := pl_cells ra
      have hkp : (k : Int) < P := by omega
      have E : Hid (old l h x (k + 1) = if h k = true ∧ (l k).lat = x ∧ (∀ a, old l h x k = some a → (l k).num < (l a).num) then some k else old l h x k) := rfl
      clear ra
      by_cases hh : h k = true
      · by_cases hl : (l k).lat = x
        · rw [hh] at cb0
          rw [hl] at a3
          cases ho : old l h x k with
          | none =>
            have E2 : Hid (old l h x (k + 1) = some k) := by show _ = _; rw [E.out, if_pos ⟨hh, hl, fun a ha => by rw [ho] at ha; cases ha⟩]
            have e0 : oi (none : Option Nat) = -1 := rfl
            rw [e0]
            clear E ho HA HB hh hl
            go_wp2_with fail
            go_quiet (fail)
            go_wp2_with fail
            go_roundw
            case rel => exact ⟨k + 1, by omega, by go_num, (by rw [E2.out]; try rfl), below_n HW.out _⟩
            case measure => simp [intOf]; omega
          | some a =>
            have hlt2 := old_lt ho
            obtain ⟨ga2, e, _, rb⟩ := HA.out a (by omega)
            obtain rfl : ga2 = ga := by injection e with e; injection e with e; exact e.symm
            obtain ⟨b0, _⟩ := pl_cells rb
            have e0 : oi (some a) = (a : Int) := rfl
            have hap : (a : Int) < P := by omega
            have hz : decide ((a : Int) < 0) = false := by simp
            rw [e0]
            by_cases hn : (l k).num < (l a).num
            · have E2 : Hid (old l h x (k + 1) = some k) := by show _ = _; rw [E.out, if_pos ⟨hh, hl, fun b hb => by rw [ho] at hb; injection hb with hb; subst hb; exact hn⟩]
              generalize (l k).num = n1 at *
              generalize (l a).num = n2 at *
              clear E ho HA HB hh hl e
              go_wp2_with fail
              go_quiet (fail)
              go_wp2_with fail
              go_roundw
              case rel => exact ⟨k + 1, by omega, by go_num, (by rw [E2.out]; try rfl), below_n HW.out _⟩
              case measure => simp [intOf]; omega
            · have E2 : Hid (old l h x (k + 1) = some a) := by show _ = _; rw [E.out, if_neg (fun c => hn (c.2.2 a ho)), ho]
              generalize (l k).num = n1 at *
              generalize (l a).num = n2 at *
              clear E ho HA HB hh hl e
              go_wp2_with fail
              go_quiet (fail)
              go_wp2_with fail
              go_roundw
              case rel => exact ⟨k + 1, by omega, by go_num, (by rw [E2.out]; try rfl), below_n HW.out _⟩
              case measure => simp [intOf]; omega
        · have E2 : Hid (old l h x (k + 1) = old l h x k) := by show _ = _; rw [E.out, if_neg (fun c => hl c.2.1)]
          have hb : ((l k).lat == x) = false := by simpa using hl
          rw [hh] at cb0
          generalize (l k).lat = y at *
          clear E HA HB hh hl
          go_wp2_with fail
          go_quiet (fail)
          go_wp2_with fail
          go_roundw
          case rel => exact ⟨k + 1, by omega, by go_num, (by rw [E2.out]; try rfl), below_n HW.out _⟩
          case measure => simp [intOf]; omega
      · have E2 : Hid (old l h x (k + 1) = old l h x k) := by show _ = _; rw [E.out, if_neg (fun c => hh c.1)]
        have hb : h k = false := by simpa using hh
        rw [hb] at cb0
        clear E HA HB hh
        go_wp2_with fail
        go_quiet (fail)
        go_wp2_with fail
        go_roundw
        case rel => exact ⟨k + 1, by omega, by go_num, (by rw [E2.out]; try rfl), below_n HW.out _⟩
        case measure => simp [intOf]; omega
    · obtain rfl : k = P := by omega
      go_wp2_with fail
      go_ret
      exact ⟨rfl, HW.out⟩
end Sq
end Go.Proofs.Ytlhapipgmadbeaa
