/- Whether a packet may be, by the document; a packet's flags as bits, and back. -/
import Derived.Test.YtegjkbebnnpdcaaLinkCheck
namespace Go.Proofs.Ytegjkbebnnpdcaa
namespace Lw
open Go.RowKit

set_option maxRecDepth 100000 in
set_option maxHeartbeats 8000000 in
theorem rcheck_b (b : Bool) (p : Ln.Pk) (hb : Ln.okB p = b) (w : World) : Calls Try.prog 13 #[.agg (pc p)] w fun e w' => e = .returned (.int .i64 (if b then 0 else 1)) ∧ Below w.heap.size w w' := by
  have HB : Hid (Below w.heap.size w (w.alloc (.cells (pc p) 26))) := (Below.refl _ _).alloc (Nat.le_refl _) _
  have HE := Lib.hid hb
  clear hb
  have hc : (decide (p.f < 0) = true) ∨ (decide (p.f < 0) = false ∧ decide (1 < p.f) = true) ∨ (decide (p.f < 0) = false ∧ decide (1 < p.f) = false ∧ decide (p.n < 0) = true) ∨ (decide (p.f < 0) = false ∧ decide (1 < p.f) = false ∧ decide (p.n < 0) = false ∧ decide (4294967295 < p.n) = true) ∨ (decide (p.f < 0) = false ∧ decide (1 < p.f) = false ∧ decide (p.n < 0) = false ∧ decide (4294967295 < p.n) = false ∧ decide (p.m < 0) = true) ∨ (decide (p.f < 0) = false ∧ decide (1 < p.f) = false ∧ decide (p.n < 0) = false ∧ decide (4294967295 < p.n) = false ∧ decide (p.m < 0) = false ∧ decide (15 < p.m) = true) ∨ (decide (p.f < 0) = false ∧ decide (1 < p.f) = false ∧ decide (p.n < 0) = false ∧ decide (4294967295 < p.n) = false ∧ decide (p.m < 0) = false ∧ decide (15 < p.m) = false ∧ decide (p.s < 0) = true) ∨ (decide (p.f < 0) = false ∧ decide (1 < p.f) = false ∧ decide (p.n < 0) = false ∧ decide (4294967295 < p.n) = false ∧ decide (p.m < 0) = false ∧ decide (15 < p.m) = false ∧ decide (p.s < 0) = false ∧ decide (255 < p.s) = true) ∨ (decide (p.f < 0) = false ∧ decide (1 < p.f) = false ∧ decide (p.n < 0) = false ∧ decide (4294967295 < p.n) = false ∧ decide (p.m < 0) = false ∧ decide (15 < p.m) = false ∧ decide (p.s < 0) = false ∧ decide (255 < p.s) = false) := by
    simp only [decide_eq_true_eq, decide_eq_false_iff_not]
    omega
  dsimp only [pc] at *
  go_enter Try.func13, Try.ntmps13
  rcases hc with h1 | ⟨h1, h2⟩ | ⟨h1, h2, h3⟩ | ⟨h1, h2, h3, h4⟩ | ⟨h1, h2, h3, h4, h5⟩ | ⟨h1, h2, h3, h4, h5, h6⟩ | ⟨h1, h2, h3, h4, h5, h6, h7⟩ | ⟨h1, h2, h3, h4, h5, h6, h7, h8⟩ | ⟨h1, h2, h3, h4, h5, h6, h7, h8⟩
  · have hbf : b = false := by
      rw [← HE.out]
      cases h : Ln.okB p
      · rfl
      · have := Ln.okB_iff.1 h
        have e1 := this.f
        simp only [decide_eq_true_eq] at h1
        omega
    subst hbf
    go_wp2_with fail
    go_ret
    exact ⟨rfl, HB.out⟩
  · have hbf : b = false := by
      rw [← HE.out]
      cases h : Ln.okB p
      · rfl
      · have := Ln.okB_iff.1 h
        have e1 := this.f
        simp only [decide_eq_true_eq] at h2
        omega
    subst hbf
    go_wp2_with fail
    go_ret
    exact ⟨rfl, HB.out⟩
  · have hbf : b = false := by
      rw [← HE.out]
      cases h : Ln.okB p
      · rfl
      · have := Ln.okB_iff.1 h
        have e1 := this.n
        simp only [decide_eq_true_eq] at h3
        omega
    subst hbf
    go_wp2_with fail
    go_ret
    exact ⟨rfl, HB.out⟩
  · have hbf : b = false := by
      rw [← HE.out]
      cases h : Ln.okB p
      · rfl
      · have := Ln.okB_iff.1 h
        have e1 := this.n
        simp only [decide_eq_true_eq] at h4
        omega
    subst hbf
    go_wp2_with fail
    go_ret
    exact ⟨rfl, HB.out⟩
  · have hbf : b = false := by
      rw [← HE.out]
      cases h : Ln.okB p
      · rfl
      · have := Ln.okB_iff.1 h
        have e1 := this.m
        simp only [decide_eq_true_eq] at h5
        omega
    subst hbf
    go_wp2_with fail
    go_ret
    exact ⟨rfl, HB.out⟩
  · have hbf : b = false := by
      rw [← HE.out]
      cases h : Ln.okB p
      · rfl
      · have := Ln.okB_iff.1 h
        have e1 := this.m
        simp only [decide_eq_true_eq] at h6
        omega
    subst hbf
    go_wp2_with fail
    go_ret
    exact ⟨rfl, HB.out⟩
  · have hbf : b = false := by
      rw [← HE.out]
      cases h : Ln.okB p
      · rfl
      · have := Ln.okB_iff.1 h
        have e1 := this.s
        simp only [decide_eq_true_eq] at h7
        omega
    subst hbf
    go_wp2_with fail
    go_ret
    exact ⟨rfl, HB.out⟩
  · have hbf : b = false := by
      rw [← HE.out]
      cases h : Ln.okB p
      · rfl
      · have := Ln.okB_iff.1 h
        have e1 := this.s
        simp only [decide_eq_true_eq] at h8
        omega
    subst hbf
    go_wp2_with fail
    go_ret
    exact ⟨rfl, HB.out⟩
  · have HF : Hid (upto p 0 = true) := by
      show Ln.headB p = true
      simp only [decide_eq_false_iff_not] at h1 h2 h3 h4 h5 h6 h7 h8
      simp only [Ln.headB, Bool.and_eq_true, Ln.inB_iff]
      omega
    have h5 : upto p 5 = Ln.okB p := rfl
    rw [HE.out] at h5
    have H5 := Lib.hid h5
    clear h5
    go_wp2_with fail
    go_loop [3] (fun i => ∃ k : Nat, k ≤ 5 ∧ i = .int .i64 k ∧ upto p k = true) (fun i => 5 - (intOf i).toNat)
    case atStart => exact ⟨0, by decide, rfl, HF.out⟩
    case round =>
      obtain ⟨k, hk, rfl, hu⟩ := hrel
      have HU := Lib.hid hu
      clear hu HF
      by_cases hlt : k < 5
      · have hk5 : k = 0 ∨ k = 1 ∨ k = 2 ∨ k = 3 ∨ k = 4 := by omega
        rcases hk5 with rfl | rfl | rfl | rfl | rfl
        · rcases (show (decide (p.a < -2147483648) = true) ∨ (decide (p.a < -2147483648) = false ∧ decide (2147483647 < p.a) = true) ∨ (decide (p.a < -2147483648) = false ∧ decide (2147483647 < p.a) = false) from by simp only [decide_eq_true_eq, decide_eq_false_iff_not]; omega) with g1 | ⟨g1, g2⟩ | ⟨g1, g2⟩
          · have hbf : b = false := by
              rw [← HE.out]
              cases h : Ln.okB p
              · rfl
              · have := (Ln.okB_iff.1 h).a
                simp only [decide_eq_true_eq] at g1
                omega
            subst hbf
            go_wp2_with fail
            go_ret
            exact ⟨rfl, HB.out⟩
          · have hbf : b = false := by
              rw [← HE.out]
              cases h : Ln.okB p
              · rfl
              · have := (Ln.okB_iff.1 h).a
                simp only [decide_eq_true_eq] at g2
                omega
            subst hbf
            go_wp2_with fail
            go_ret
            exact ⟨rfl, HB.out⟩
          · have HV : Hid (upto p 1 = true) := by
              show (upto p 0 && Ln.inB p.a (-2147483648) 2147483647) = true
              simp only [decide_eq_false_iff_not] at g1 g2
              rw [HU.out, Bool.true_and, Ln.inB_iff]
              omega
            go_wp2_with fail
            go_round
            case rel => exact ⟨1, by decide, rfl, HV.out⟩
            case measure => simp [intOf]
        · rcases (show (decide (p.b < -2147483648) = true) ∨ (decide (p.b < -2147483648) = false ∧ decide (2147483647 < p.b) = true) ∨ (decide (p.b < -2147483648) = false ∧ decide (2147483647 < p.b) = false) from by simp only [decide_eq_true_eq, decide_eq_false_iff_not]; omega) with g1 | ⟨g1, g2⟩ | ⟨g1, g2⟩
          · have hbf : b = false := by
              rw [← HE.out]
              cases h : Ln.okB p
              · rfl
              · have := (Ln.okB_iff.1 h).b
                simp only [decide_eq_true_eq] at g1
                omega
            subst hbf
            go_wp2_with fail
            go_ret
            exact ⟨rfl, HB.out⟩
          · have hbf : b = false := by
              rw [← HE.out]
              cases h : Ln.okB p
              · rfl
              · have := (Ln.okB_iff.1 h).b
                simp only [decide_eq_true_eq] at g2
                omega
            subst hbf
            go_wp2_with fail
            go_ret
            exact ⟨rfl, HB.out⟩
          · have HV : Hid (upto p 2 = true) := by
              show (upto p 1 && Ln.inB p.b (-2147483648) 2147483647) = true
              simp only [decide_eq_false_iff_not] at g1 g2
              rw [HU.out, Bool.true_and, Ln.inB_iff]
              omega
            go_wp2_with fail
            go_round
            case rel => exact ⟨2, by decide, rfl, HV.out⟩
            case measure => simp [intOf]
        · rcases (show (decide (p.c < -2147483648) = true) ∨ (decide (p.c < -2147483648) = false ∧ decide (2147483647 < p.c) = true) ∨ (decide (p.c < -2147483648) = false ∧ decide (2147483647 < p.c) = false) from by simp only [decide_eq_true_eq, decide_eq_false_iff_not]; omega) with g1 | ⟨g1, g2⟩ | ⟨g1, g2⟩
          · have hbf : b = false := by
              rw [← HE.out]
              cases h : Ln.okB p
              · rfl
              · have := (Ln.okB_iff.1 h).c
                simp only [decide_eq_true_eq] at g1
                omega
            subst hbf
            go_wp2_with fail
            go_ret
            exact ⟨rfl, HB.out⟩
          · have hbf : b = false := by
              rw [← HE.out]
              cases h : Ln.okB p
              · rfl
              · have := (Ln.okB_iff.1 h).c
                simp only [decide_eq_true_eq] at g2
                omega
            subst hbf
            go_wp2_with fail
            go_ret
            exact ⟨rfl, HB.out⟩
          · have HV : Hid (upto p 3 = true) := by
              show (upto p 2 && Ln.inB p.c (-2147483648) 2147483647) = true
              simp only [decide_eq_false_iff_not] at g1 g2
              rw [HU.out, Bool.true_and, Ln.inB_iff]
              omega
            go_wp2_with fail
            go_round
            case rel => exact ⟨3, by decide, rfl, HV.out⟩
            case measure => simp [intOf]
        · rcases (show (decide (p.d < -2147483648) = true) ∨ (decide (p.d < -2147483648) = false ∧ decide (2147483647 < p.d) = true) ∨ (decide (p.d < -2147483648) = false ∧ decide (2147483647 < p.d) = false) from by simp only [decide_eq_true_eq, decide_eq_false_iff_not]; omega) with g1 | ⟨g1, g2⟩ | ⟨g1, g2⟩
          · have hbf : b = false := by
              rw [← HE.out]
              cases h : Ln.okB p
              · rfl
              · have := (Ln.okB_iff.1 h).d
                simp only [decide_eq_true_eq] at g1
                omega
            subst hbf
            go_wp2_with fail
            go_ret
            exact ⟨rfl, HB.out⟩
          · have hbf : b = false := by
              rw [← HE.out]
              cases h : Ln.okB p
              · rfl
              · have := (Ln.okB_iff.1 h).d
                simp only [decide_eq_true_eq] at g2
                omega
            subst hbf
            go_wp2_with fail
            go_ret
            exact ⟨rfl, HB.out⟩
          · have HV : Hid (upto p 4 = true) := by
              show (upto p 3 && Ln.inB p.d (-2147483648) 2147483647) = true
              simp only [decide_eq_false_iff_not] at g1 g2
              rw [HU.out, Bool.true_and, Ln.inB_iff]
              omega
            go_wp2_with fail
            go_round
            case rel => exact ⟨4, by decide, rfl, HV.out⟩
            case measure => simp [intOf]
        · rcases (show (decide (p.e < -2147483648) = true) ∨ (decide (p.e < -2147483648) = false ∧ decide (2147483647 < p.e) = true) ∨ (decide (p.e < -2147483648) = false ∧ decide (2147483647 < p.e) = false) from by simp only [decide_eq_true_eq, decide_eq_false_iff_not]; omega) with g1 | ⟨g1, g2⟩ | ⟨g1, g2⟩
          · have hbf : b = false := by
              rw [← HE.out]
              cases h : Ln.okB p
              · rfl
              · have := (Ln.okB_iff.1 h).e
                simp only [decide_eq_true_eq] at g1
                omega
            subst hbf
            go_wp2_with fail
            go_ret
            exact ⟨rfl, HB.out⟩
          · have hbf : b = false := by
              rw [← HE.out]
              cases h : Ln.okB p
              · rfl
              · have := (Ln.okB_iff.1 h).e
                simp only [decide_eq_true_eq] at g2
                omega
            subst hbf
            go_wp2_with fail
            go_ret
            exact ⟨rfl, HB.out⟩
          · have HV : Hid (upto p 5 = true) := by
              show (upto p 4 && Ln.inB p.e (-2147483648) 2147483647) = true
              simp only [decide_eq_false_iff_not] at g1 g2
              rw [HU.out, Bool.true_and, Ln.inB_iff]
              omega
            go_wp2_with fail
            go_round
            case rel => exact ⟨5, by decide, rfl, HV.out⟩
            case measure => simp [intOf]
      · obtain rfl : k = 5 := by omega
        have hbt : b = true := by rw [← H5.out, HU.out]
        subst hbt
        go_wp2_with fail
        go_ret
        exact ⟨rfl, HB.out⟩

theorem or_bit : ∀ k : Fin 5, ∀ a : Fin 16, a.val < 2 ^ k.val → bits .or .i64 (a.val : Int) ((2 : Int) ^ k.val) = ((a.val + 2 ^ k.val : Nat) : Int) := by decide
def bu (p : Ln.Pk) : Nat → Int
  | 0 => 0
  | 1 => Ln.bit p.ga 1
  | 2 => Ln.bit p.ga 1 + Ln.bit p.gb 2
  | 3 => Ln.bit p.ga 1 + Ln.bit p.gb 2 + Ln.bit p.gc 4
  | 4 => Ln.bit p.ga 1 + Ln.bit p.gb 2 + Ln.bit p.gc 4 + Ln.bit p.gd 8
  | _ => Ln.bits p
theorem bu_or (p : Ln.Pk) : bits .or .i64 (bu p 0) 1 = bu p 0 + 1 ∧ bits .or .i64 (bu p 1) 2 = bu p 1 + 2 ∧ bits .or .i64 (bu p 2) 4 = bu p 2 + 4 ∧ bits .or .i64 (bu p 3) 8 = bu p 3 + 8 ∧ bits .or .i64 (bu p 4) 16 = bu p 4 + 16 := by
  obtain ⟨f, n, a, b, c, d, e, ga, gb, gc, gd, ge, m, s⟩ := p
  simp only [bu]
  cases ga <;> cases gb <;> cases gc <;> cases gd <;> decide

set_option maxRecDepth 100000 in
set_option maxHeartbeats 4000000 in
theorem bits_c (p : Ln.Pk) (w : World) : Calls Try.prog 26 #[.agg #[.bool p.ga, .bool p.gb, .bool p.gc, .bool p.gd, .bool p.ge]] w fun e w' => e = .returned (.int .i64 (Ln.bits p)) ∧ Below w.heap.size w w' := by
  have HB : Hid (Below w.heap.size w (w.alloc (.cells #[.bool p.ga, .bool p.gb, .bool p.gc, .bool p.gd, .bool p.ge] 24))) := (Below.refl _ _).alloc (Nat.le_refl _) _
  have i0 := ix0 24 (.inr rfl)
  have i1 := ix1 24 (.inr rfl)
  have i2 := ix2 24 (.inr rfl)
  have i3 := ix3 24 (.inr rfl)
  have i4 := ix4 24 (.inr rfl)
  obtain ⟨o0, o1, o2, o3, o4⟩ := bu_or p
  have E0 : Hid (bu p 1 = bu p 0 + Ln.bit p.ga 1) := by show bu p 1 = bu p 0 + Ln.bit p.ga 1; simp [bu]
  have E1 : Hid (bu p 2 = bu p 1 + Ln.bit p.gb 2) := rfl
  have E2 : Hid (bu p 3 = bu p 2 + Ln.bit p.gc 4) := rfl
  have E3 : Hid (bu p 4 = bu p 3 + Ln.bit p.gd 8) := rfl
  have E4 : Hid (bu p 5 = bu p 4 + Ln.bit p.ge 16) := rfl
  have HZ : Hid (bu p 0 = 0) := rfl
  have H5 : Hid (bu p 5 = Ln.bits p) := rfl
  go_enter Try.func26, Try.ntmps26
  go_wp2_with fail
  go_loop [3, 7] (fun c i => ∃ k : Nat, k ≤ 5 ∧ i = .int .i64 k ∧ c = .int .i64 (bu p k)) (fun _ i => 5 - (intOf i).toNat)
  case atStart => exact ⟨0, by decide, rfl, by rw [HZ.out]⟩
  case round =>
    obtain ⟨k, hk, rfl, rfl⟩ := hrel
    by_cases hlt : k < 5
    · have hk5 : k = 0 ∨ k = 1 ∨ k = 2 ∨ k = 3 ∨ k = 4 := by omega
      rcases hk5 with rfl | rfl | rfl | rfl | rfl
      · cases hg : p.ga
        all_goals
          rw [hg] at E0
          generalize bu p 0 = x at *
          go_wp2_with fail
          go_round
          case rel => exact ⟨1, by decide, rfl, by rw [E0.out]; simp [Ln.bit]⟩
          case measure => simp [intOf]
      · cases hg : p.gb
        all_goals
          rw [hg] at E1
          generalize bu p 1 = x at *
          go_wp2_with fail
          go_round
          case rel => exact ⟨2, by decide, rfl, by rw [E1.out]; simp [Ln.bit]⟩
          case measure => simp [intOf]
      · cases hg : p.gc
        all_goals
          rw [hg] at E2
          generalize bu p 2 = x at *
          go_wp2_with fail
          go_round
          case rel => exact ⟨3, by decide, rfl, by rw [E2.out]; simp [Ln.bit]⟩
          case measure => simp [intOf]
      · cases hg : p.gd
        all_goals
          rw [hg] at E3
          generalize bu p 3 = x at *
          go_wp2_with fail
          go_round
          case rel => exact ⟨4, by decide, rfl, by rw [E3.out]; simp [Ln.bit]⟩
          case measure => simp [intOf]
      · cases hg : p.ge
        all_goals
          rw [hg] at E4
          generalize bu p 4 = x at *
          go_wp2_with fail
          go_round
          case rel => exact ⟨5, by decide, rfl, by rw [E4.out]; simp [Ln.bit]⟩
          case measure => simp [intOf]
    · obtain rfl : k = 5 := by omega
      rw [H5.out]
      go_wp2_with fail
      go_ret
      exact ⟨rfl, HB.out⟩
end Lw
end Go.Proofs.Ytegjkbebnnpdcaa
