/- The laws on codes, and on edges. -/
import Derived.Test.YtddkmaplficofaaFaultLaw1
namespace Go.Proofs.Ytddkmaplficofaa
namespace Fw
open Go.RowKit Fa Lk
open Sp (R)

theorem code_k {a b x : Int} (ha : 0 ≤ a ∧ a < 2) (hb : 0 ≤ b ∧ b < 15) (hx : 1 + 16 * a + b = x) (w : World) : Calls Try.prog 18 #[.int .i64 a, .int .i64 b] w fun e w' => e = .returned (.int .i64 x) ∧ w = w' := by
  subst hx
  have := code_c a b w
  rwa [code_ok (by omega)] at this
set_option maxRecDepth 100000 in
set_option maxHeartbeats 4000000 in
theorem FaultCodes_walk (a : Nat) (ha : a < 256) (b : Nat) (hb : b < 256) (w : World) : Calls Try.prog 7 #[.int .u8 a, .int .u8 b] w fun e w' => e = .returned (.bool true) ∧ Below w.heap.size w w' := by
  have HC := Lib.hid (awake_c w)
  obtain ⟨p, hp⟩ : ∃ p, (a : Int) / 16 % 2 = p := ⟨_, rfl⟩
  obtain ⟨q, hq⟩ : ∃ q, (a : Int) % 15 = q := ⟨_, rfl⟩
  obtain ⟨p', hp'⟩ : ∃ p', (b : Int) / 16 % 2 = p' := ⟨_, rfl⟩
  obtain ⟨q', hq'⟩ : ∃ q', (b : Int) % 15 = q' := ⟨_, rfl⟩
  have bp : 0 ≤ p ∧ p < 2 := by omega
  have bq : 0 ≤ q ∧ q < 15 := by omega
  have bp' : 0 ≤ p' ∧ p' < 2 := by omega
  have bq' : 0 ≤ q' ∧ q' < 15 := by omega
  obtain ⟨x, hx⟩ : ∃ x, 1 + 16 * p + q = x := ⟨_, rfl⟩
  obtain ⟨y, hy⟩ : ∃ y, 1 + 16 * p' + q' = y := ⟨_, rfl⟩
  have K1 := Lib.hid (code_k bp bq hx)
  have K2 := Lib.hid (code_k bp' bq' hy)
  have g1 : 1 ≤ x := by omega
  have g2 : x ≤ 255 := by omega
  have hcase : (p = p' ∧ q = q' ∧ x = y) ∨ ((p == p') = true ∧ (q == q') = false ∧ (x == y) = false) ∨ ((p == p') = false ∧ (x == y) = false) := by
    by_cases h1 : p = p'
    · by_cases h2 : q = q'
      · exact .inl ⟨h1, h2, by omega⟩
      · exact .inr (.inl ⟨by simpa using h1, by simpa using h2, by simp; omega⟩)
    · exact .inr (.inr ⟨by simpa using h1, by simp; omega⟩)
  clear bp bq bp' bq' hx hy
  rcases hcase with ⟨rfl, rfl, rfl⟩ | ⟨e1, e2, e3⟩ | ⟨e1, e3⟩
  all_goals
    go_enter Try.func7, Try.ntmps7
    go_wp2_with (first
      | (go_at_call 9; refine HC.out.mono ?_; rintro e W ⟨rfl, hb1⟩; replace HC := Lib.hid hb1; clear hb1)
      | (go_at_call 18; (with_reducible refine (K1.out _).mono ?_); rintro e W1 ⟨rfl, rfl⟩)
      | (go_at_call 18; (with_reducible refine (K2.out _).mono ?_); rintro e W1 ⟨rfl, rfl⟩)
      | fail)
    go_ret
    exact ⟨rfl, HC.out⟩

set_option maxRecDepth 100000 in
set_option maxHeartbeats 4000000 in
theorem FaultEdges_walk (A : Option Addr) (L : List Bool) (c : Nat) (A' : Option Addr) (L' : List Bool) (c' : Nat) (ch sg : Int) (w : World) (hA : Bls w A L) (hA' : Bls w A' L') :
    Calls Try.prog 4 #[.slice A L.length c, .slice A' L'.length c', .int .i64 ch, .int .i64 sg] w fun e w' => e = .returned (.bool true) ∧ Below w.heap.size w w' := by
  have HC := Lib.hid (awake_c w)
  have HA := Lib.hid hA
  have HA' := Lib.hid hA'
  obtain ⟨n, hn⟩ : ∃ n, L.length = n := ⟨_, rfl⟩
  obtain ⟨n', hn'⟩ : ∃ n', L'.length = n' := ⟨_, rfl⟩
  rw [hn, hn']
  have HN := Lib.hid hn
  have HN' := Lib.hid hn'
  clear hA hA' hn hn'
  by_cases h1 : 100 < n
  · have d1 : (100 : Int) < n := by omega
    go_enter Try.func4, Try.ntmps4
    go_wp2_with (first
      | (go_at_call 9; refine HC.out.mono ?_; rintro e W ⟨rfl, hb1⟩; replace HC := Lib.hid hb1; clear hb1) | fail)
    go_ret
    exact ⟨rfl, HC.out⟩
  · have d1 : decide ((100 : Int) < n) = false := decide_eq_false (by omega)
    by_cases h2 : 100 < n'
    · have d2 : (100 : Int) < n' := by omega
      go_enter Try.func4, Try.ntmps4
      go_wp2_with (first
        | (go_at_call 9; refine HC.out.mono ?_; rintro e W ⟨rfl, hb1⟩; replace HC := Lib.hid hb1; clear hb1) | fail)
      go_ret
      exact ⟨rfl, HC.out⟩
    · have d2 : decide ((100 : Int) < n') = false := decide_eq_false (by omega)
      obtain ⟨l, hl⟩ : ∃ l, edges L L' = l := ⟨_, rfl⟩
      have hll : l.length ≤ 100 := by
        rw [← hl]
        have := ups_len (edgeB L L') L'.length
        rw [HN'.out] at this
        unfold edges
        rw [HN'.out]
        omega
      obtain ⟨x, hx⟩ : ∃ x, code ch sg = x := ⟨_, rfl⟩
      have E1 := Lib.hid (fun W (h1 : Bls W A L) (h2 : Bls W A' L') => edge_v (cw := c) (cn := c') hl HN.out HN'.out (by omega) h1 h2)
      have E2 : Hid (∀ W, Bls W A L → Bls W A' L' → Calls Try.prog 17 #[.slice A n c, .slice A' n' c'] W fun e w' => ∃ A' c', e = .returned (.slice A' l.length c') ∧ Ins w' A' l ∧ Below W.heap.size W w') := fun W h1 h2 => by
        refine (redge_c A A' n c n' c' L L' HN.out HN'.out (by omega) W h1 h2).mono ?_
        rintro e w' ⟨v, rfl, h1, hb⟩
        rw [hl] at h1
        obtain ⟨A', c', rfl, h2⟩ := ins_of h1
        exact ⟨A', c', rfl, h2, hb⟩
      have K1 : Hid (∀ W, Calls Try.prog 18 #[.int .i64 ch, .int .i64 sg] W fun e w' => e = .returned (.int .i64 x) ∧ W = w') := fun W => by
        have := code_c ch sg W
        rwa [hx] at this
      have K2 : Hid (∀ W, Calls Try.prog 19 #[.int .i64 ch, .int .i64 sg] W fun e w' => e = .returned (.int .i64 x) ∧ W = w') := fun W => by
        have := rcode_c ch sg W
        rwa [hx] at this
      obtain ⟨m, hm⟩ : ∃ m, l.length = m := ⟨_, rfl⟩
      rw [hm] at hll
      have HM := Lib.hid hm
      clear hl hx h1 h2 hm
      go_enter Try.func4, Try.ntmps4
      go_wp2_with fail
      refine HC.out.mono ?_
      rintro e W ⟨rfl, hb⟩
      have HB := Lib.hid hb
      clear hb HC
      go_wp2_with fail
      refine (E1.out W (HA.out.below HB.out) (HA'.out.below HB.out)).mono ?_
      rintro e W1 ⟨A1, c1, rfl, hi, hb⟩
      rw [HM.out]
      have HI1 := Lib.hid hi
      replace HB := Lib.hid (HB.out.trans (hb.mono HB.out.size))
      clear hi hb E1
      go_wp2_with fail
      refine (E2.out W1 (HA.out.below HB.out) (HA'.out.below HB.out)).mono ?_
      rintro e W2 ⟨A2, c2, rfl, hi, hb⟩
      rw [HM.out]
      have HI2 := Lib.hid hi
      replace HI1 := Lib.hid (HI1.out.below hb)
      replace HB := Lib.hid (HB.out.trans (hb.mono HB.out.size))
      clear hi hb E2
      go_wp2_with fail
      refine (same_i A1 A2 c1 c2 l m HM.out (by omega) W2 HI1.out HI2.out).mono ?_
      rintro e W3 ⟨rfl, hb⟩
      replace HB := Lib.hid (HB.out.trans (hb.mono HB.out.size))
      clear hb HI1 HI2
      go_wp2_with (first
        | (go_at_call 18; refine (K1.out _).mono ?_; rintro e W1 ⟨rfl, rfl⟩)
        | (go_at_call 19; refine (K2.out _).mono ?_; rintro e W1 ⟨rfl, rfl⟩)
        | fail)
      go_ret
      exact ⟨rfl, HB.out⟩
end Fw
end Go.Proofs.Ytddkmaplficofaa
