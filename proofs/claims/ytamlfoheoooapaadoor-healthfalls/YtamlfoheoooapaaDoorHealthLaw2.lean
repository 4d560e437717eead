/- The walk of HealthFalls. -/
import Derived.Test.YtamlfoheoooapaaDoorHealthKit
namespace Go.Proofs.YtamlfoheoooapaaDoor
namespace Qw
open Go.RowKit Lk

/-- What is lost of either, up to k. -/
def up (k : Nat) (f h : Nat → Bool) : Nat → Bool := fun j => if j < k then f j || h j else f j
theorem up_none (f h : Nat → Bool) : up 0 f h = f := by funext j; simp [up]
theorem up_five (f h : Nat → Bool) : g5 (up 5 f h) = g5 fun j => f j || h j := rfl
theorem up_set {k : Nat} (hk : k < 5) (f h : Nat → Bool) (b : Bool) (hb : (f k || h k) = b) : (g5 (up k f h)).setIfInBounds k (.bool b) = g5 (up (k + 1) f h) := by
  subst hb
  obtain rfl | rfl | rfl | rfl | rfl : k = 0 ∨ k = 1 ∨ k = 2 ∨ k = 3 ∨ k = 4 := by omega
  all_goals rfl
abbrev L3 (M N : Nat) (u f g : Nat → Bool) (t : TypeId) : List (Nat × Obj) := [(M, go u), (N + 1, go g), (N, go f), RO t]
theorem two_f {w : World} {t : TypeId} (hR : w.heap[0]? = some (.cells cc t (0, 0))) (f g : Nat → Bool) : Hv w ((w.alloc (go f)).alloc (go g)) [(w.heap.size + 1, go g), (w.heap.size, go f), RO t] := by
  have := (((Hv.nil w).add (RO t) hR).made (go f)).made (go g)
  simpa only [World.size_alloc] using this
theorem put_u {w V : World} {M N k : Nat} {f h g : Nat → Bool} {t : TypeId} (E : w.heap.size = N) (EM : N + 1 < M) (hv : Hv w V (L3 M N (up k f h) f g t)) (hk : k < 5) (b : Bool) (hb : (f k || h k) = b) : Hv w (V.setCell ⟨M, k, none⟩ (.bool b)) (L3 M N (up (k + 1) f h) f g t) := by
  refine hv.change ((Off.refl M V).set k _) ?_ (by simp; omega) (by omega)
  have := Joins.block_setCell hv.head (i := k) (.bool b)
  rw [up_set hk f h b hb] at this
  exact this

set_option maxRecDepth 100000 in
set_option maxHeartbeats 8000000 in
theorem HealthFalls_walk (f g : Nat → Bool) (q : Int) (hq : -9223372036854775808 ≤ q ∧ q ≤ 9223372036854775807) (h : Int) (hh : 0 ≤ h ∧ h ≤ 255) (t : TypeId) (w : World) (hR : w.heap[0]? = some (.cells cc t (0, 0))) :
    Calls Tryd.prog 4 #[.agg (g5 f), .agg (g5 g), .int .i64 q, .int .u8 h] w fun r w' => r = .returned (.bool true) ∧ Below w.heap.size w w' := by
  have HV := Lib.hid (two_f hR f g)
  have HQ := Lib.hid hq
  have HH := Lib.hid hh
  have AW := Lib.hid (fun W hR => awake_c t W hR)
  clear hq hh hR
  go_enter Tryd.func4, Tryd.ntmps4
  go_wp2_with (first
    | (go_at_call 8; (with_reducible refine (AW.out _ HV.out.h3).mono ?_); rintro r W ⟨rfl, hb⟩; replace HV := Lib.hid (HV.out.grow hb); clear hb)
    | (refine ldg rfl _ rfl _ _ rfl HV.out.h2 ?_)
    | fail)
  obtain ⟨N, hN⟩ : ∃ N, w.heap.size = N := ⟨_, rfl⟩
  obtain ⟨M, hM⟩ : ∃ M, W.heap.size = M := ⟨_, rfl⟩
  have EM : Hid (N + 1 < M) := by
    have : w.heap.size + 1 < W.heap.size := HV.out.lt (e := (w.heap.size + 1, go g)) (by simp)
    show N + 1 < M
    omega
  replace HV : Hid (Hv w (W.alloc (go f)) (L3 M N (up 0 f g) f g t)) := by
    have := HV.out.made (go f)
    rw [up_none]
    rw [hM, hN] at this
    exact this
  rw [hM, hN]
  have HN := Lib.hid hN
  clear hM hN
  go_loopw [11] (fun i wr => ∃ k : Nat, k ≤ 5 ∧ i = .int .i64 k ∧ Hv w wr (L3 M N (up k f g) f g t)) (fun i _ => 5 - (intOf i).toNat)
  case atStart => exact ⟨0, by decide, rfl, HV.out⟩
  case round =>
    obtain ⟨k, hk, rfl, hv⟩ := hrel
    clear HV
    have HV := Lib.hid hv
    clear hv
    by_cases hlt : k < 5
    · have i1 : (0 : Int) ≤ (k : Int) := by omega
      have i2 : (k : Int) < 5 := by omega
      have c1 := cell_g HV.out.h3 hlt
      have c2 := cell_g HV.out.h2 hlt
      have c3 := cell_g HV.out.head hlt
      have c4 := Joins.unfrozen_of_block HV.out.head k
      have CH := Lib.hid (put_u HN.out EM.out HV.out hlt)
      cases hx : f k with
      | true =>
        rw [hx] at c1 CH
        go_wp2_with (first | go_big_skip | fail)
        go_roundw
        case rel => exact ⟨k + 1, by omega, by go_num, CH.out true rfl⟩
        case measure => simp [intOf]; omega
      | false =>
        rw [hx] at c1 CH
        generalize hy : g k = y at *
        go_wp2_with (first | go_big_skip | fail)
        go_roundw
        case rel => exact ⟨k + 1, by omega, by go_num, CH.out y (by rw [Bool.false_or])⟩
        case measure => simp [intOf]; omega
    · obtain rfl : k = 5 := by omega
      obtain ⟨u, eu⟩ : ∃ u : Nat → Bool, (fun j => f j || g j) = u := ⟨_, rfl⟩
      have HM : Hid (∀ j, f j = true → u j = true) := by
        subst eu
        intro j hj
        show (f j || g j) = true
        rw [hj]
        rfl
      replace HV : Hid (Hv w wr (L3 M N (fun j => f j || g j) f g t)) := HV.out
      rw [eu] at HV
      clear hk hlt eu
      by_cases hq : 1099511627776 < q
      · have k1 : decide (1099511627776 < q) = true := by simpa using hq
        clear hq
        go_wp2_with fail
        go_ret
        exact ⟨rfl, HV.out.old⟩
      · have k1 : decide (1099511627776 < q) = false := by simpa using hq
        have q0 := HQ.out.1
        have h0 := HH.out.1
        have h1 := HH.out.2
        have q1 : q ≤ 1099511627776 := by omega
        have hs0 : -9223372036854775808 ≤ q + h := by omega
        have hs1 : q + h ≤ 9223372036854775807 := by omega
        have C1 := Lib.hid (fun W hR => score_c f q t W hR)
        have C2 := Lib.hid (fun W hR => score_c u q t W hR)
        have C3 := Lib.hid (fun W hR => score_c f (q + h) t W hR)
        have b1 : Hh.sc u q ≤ Hh.sc f q := Hh.sc_more HM.out q
        have b2 : Hh.sc f (q + h) ≤ Hh.sc f q := Hh.sc_longer f (by omega)
        have b3 := Hh.sc_in f q
        generalize Hh.sc f q = a at *
        generalize Hh.sc u q = b at *
        generalize Hh.sc f (q + h) = c at *
        have d1 : decide (0 ≤ a) = true := by simpa using b3.1
        have d2 : decide (a ≤ 255) = true := by simpa using b3.2
        have d3 : decide (b ≤ a) = true := by simpa using b1
        have d4 : decide (c ≤ a) = true := by simpa using b2
        clear hq b1 b2 b3
        go_wp2_with (first
          | (refine ldg rfl _ rfl _ _ rfl HV.out.head ?_)
          | (refine ldg rfl _ rfl _ _ rfl HV.out.h3 ?_)
          | (go_at_call 9; (first | (with_reducible refine (C1.out _ HV.out.h4).mono ?_) | (with_reducible refine (C2.out _ HV.out.h4).mono ?_) | (with_reducible refine (C3.out _ HV.out.h4).mono ?_)); rintro r W ⟨rfl, hb⟩; replace HV := Lib.hid (HV.out.grow hb); clear hb)
          | fail)
        go_ret
        exact ⟨rfl, HV.out.old⟩
end Qw
end Go.Proofs.YtamlfoheoooapaaDoor
