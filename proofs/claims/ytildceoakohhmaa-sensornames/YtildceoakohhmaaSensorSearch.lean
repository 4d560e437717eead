/- sort.Search over sensor's closure. -/
import Derived.Test.YtildceoakohhmaaSensorSeek
namespace Go.Proofs.Ytildceoakohhmaa
namespace Sw
open Go.RowKit

/-- What halving keeps. -/
structure Hf (g o l h n : Int) (M i j : Nat) : Prop where
  le : i ≤ j
  lm : j ≤ M
  below : ∀ v, l ≤ v → v < l + (i : Int) → Sn.cnt g o v < n
  at_ : j < M → n ≤ Sn.cnt g o (l + (j : Int))
namespace Hf
variable {g o l h n : Int} {M i j : Nat}
theorem up (k : Hf g o l h n M i j) (hg : 1 ≤ g) {m : Nat} (h2 : m < j) (hp : ¬ n ≤ Sn.cnt g o (l + (m : Int))) : Hf g o l h n M (m + 1) j :=
  ⟨h2, k.lm, fun v h3 h4 => by have := Sn.cnt_mono (o := o) hg (by omega : v ≤ l + (m : Int)); omega, k.at_⟩
theorem down (k : Hf g o l h n M i j) {m : Nat} (h1 : i ≤ m) (h2 : m < j) (hp : n ≤ Sn.cnt g o (l + (m : Int))) : Hf g o l h n M i m :=
  ⟨h1, by have := k.lm; omega, k.below, fun _ => hp⟩
theorem done (k : Hf g o l h n M i j) (e : ¬ i < j) (hM : (M : Int) = h - l) : Sn.IsV g o l h n (l + (i : Int)) := by
  have h1 := k.le
  have h2 := k.lm
  have e' : i = j := by omega
  subst e'
  exact ⟨by omega, by omega, k.below, fun h => k.at_ (by omega)⟩
end Hf
theorem mid_lt {i j : Nat} (h : i < j) : i ≤ (i + j) / 2 ∧ (i + j) / 2 < j := by omega

set_option maxRecDepth 100000 in
set_option maxHeartbeats 4000000 in
theorem search_c (g o l h n : Int) (k : Sn.Ok g o l h) (M : Nat) (hM : (M : Int) = h - l) (b1 b2 b3 : Nat) (w : World) (hc : Cl w b1 b2 b3 g o l h n) :
    Calls Try.prog 23 #[.int .i64 (M : Int), .func (.func 24) #[] #[.pointer (some ⟨b1, 0, none⟩), .pointer (some ⟨b2, 0, none⟩), .pointer (some ⟨b3, 0, none⟩)]] w fun e w' => (∃ r : Nat, e = .returned (.int .i64 (r : Int)) ∧ Sn.IsV g o l h n (l + (r : Int))) ∧ Below w.heap.size w w' := by
  have HC := Lib.hid hc
  have CN := Lib.hid (fun (i : Nat) (hi : i < M) W hW => near_c g o l h n k (i : Int) (by omega) (by omega) b1 b2 b3 W hW)
  have HG := Lib.hid k.1
  have HM := Lib.hid hM
  have hM2 : M ≤ 2097152 := by have := ok_lh k; omega
  clear hc k hM
  go_enter Try.func23, Try.ntmps23
  go_wp2_with fail
  go_loopw [5, 6] (fun a b W => ∃ i j : Nat, a = .int .i64 (i : Int) ∧ b = .int .i64 (j : Int) ∧ Hf g o l h n M i j ∧ Below w.heap.size w W) (fun a b _ => (intOf b).toNat - (intOf a).toNat)
  case atStart => exact ⟨0, M, rfl, rfl, ⟨Nat.zero_le _, Nat.le_refl _, fun v h1 h2 => absurd h2 (by omega), fun h => absurd h (by omega)⟩, Below.refl _ _⟩
  case round =>
    obtain ⟨i, j, rfl, rfl, hf, hb0⟩ := hrel
    have HF := Lib.hid hf
    have HB := Lib.hid hb0
    have jM := hf.lm
    clear hf hb0
    by_cases hlt : i < j
    · obtain ⟨m, hm⟩ : ∃ m, (i + j) / 2 = m := ⟨_, rfl⟩
      have hm2 := mid_lt hlt
      rw [hm] at hm2
      obtain ⟨m1, m2⟩ := hm2
      have em : ((i : Int) + (j : Int)) / 2 = (m : Int) := by omega
      have EM := Lib.hid em
      clear em hm
      go_wp2_with fail
      rw [EM.out]
      by_cases hp : n ≤ Sn.cnt g o (l + (m : Int))
      · have D := Lib.hid (HF.out.down m1 m2 hp)
        have CM := Lib.hid (CN.out m (by omega) wr (HC.out.grow HB.out))
        rw [decide_eq_true hp] at CM
        clear CN hp EM
        (with_reducible refine CM.out.mono ?_)
        rintro e W ⟨rfl, hb⟩
        have HB2 := Lib.hid (HB.out.trans (hb.mono HB.out.size))
        clear hb CM
        go_wp2_with fail
        go_roundw
        case rel => exact ⟨i, m, rfl, rfl, D.out, HB2.out⟩
        case measure => simp [intOf]; omega
      · have D := Lib.hid (HF.out.up HG.out m2 hp)
        have CM := Lib.hid (CN.out m (by omega) wr (HC.out.grow HB.out))
        rw [decide_eq_false hp] at CM
        clear CN hp EM
        (with_reducible refine CM.out.mono ?_)
        rintro e W ⟨rfl, hb⟩
        have HB2 := Lib.hid (HB.out.trans (hb.mono HB.out.size))
        clear hb CM
        go_wp2_with fail
        go_roundw
        case rel => exact ⟨m + 1, j, by go_num, rfl, D.out, HB2.out⟩
        case measure => simp [intOf]; omega
    · go_wp2_with fail
      go_ret
      exact ⟨⟨i, rfl, HF.out.done hlt HM.out⟩, HB.out⟩
end Sw
end Go.Proofs.Ytildceoakohhmaa
