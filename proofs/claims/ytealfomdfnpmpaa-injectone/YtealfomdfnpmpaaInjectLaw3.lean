/- The walk of InjectOne. -/
import Derived.Test.YtealfomdfnpmpaaInjectLaw2
namespace Go.Proofs.Ytealfomdfnpmpaa
namespace Jw
open Go.RowKit Nj

theorem Fls.take {W : World} {A : Option Addr} {L : List Flt} (h : Fls W A L) (k : Nat) : Fls W A (L.take k) :=
  ⟨by rw [List.length_take]; have := h.len; omega, fun i hi => by
    rw [List.length_take] at hi
    obtain ⟨b, o, e, hl, hr⟩ := h.at_ i (by omega)
    refine ⟨b, o, e, hl, ?_⟩
    rwa [show (L.take k).getD i zero = L.getD i zero from by simp [List.getD, show i < k from by omega]]⟩
theorem Fls.drop {W : World} {b o : Nat} {L : List Flt} (h : Fls W (some ⟨b, o, none⟩) L) (k : Nat) : Fls W (some ⟨b, o + k * 4, none⟩) (L.drop k) :=
  ⟨by rw [List.length_drop]; have := h.len; omega, fun i hi => by
    rw [List.length_drop] at hi
    obtain ⟨b', o', e, hl, hr⟩ := h.at_ (k + i) (by omega)
    cases e
    refine ⟨b, o + k * 4, rfl, hl, ?_⟩
    rwa [show (L.drop k).getD i zero = L.getD (k + i) zero from by simp [List.getD], show o + k * 4 + i * 4 = o + (k + i) * 4 from by omega]⟩
theorem fls_nil {W : World} {A : Option Addr} {L : List Flt} (h : L.length = 0) : Fls W A L := ⟨by omega, fun i hi => by omega⟩

set_option maxRecDepth 100000 in
set_option maxHeartbeats 8000000 in
theorem InjectOne_walk (A : Option Addr) (n cp : Nat) (L : List Flt) (hn : L.length = n) (hcp : n ≤ cp) (cut : Int) (hcut : -9223372036854775808 ≤ cut ∧ cut ≤ 9223372036854775807) (fr la c : Int) (hl : 0 ≤ la ∧ la ≤ 65535) (w : World) (hA : Fls w A L) (hnone : 0 < cp → ∃ b o, A = some ⟨b, o, none⟩) :
    Calls Try.prog 6 #[.slice A n cp, .int .i64 cut, .int .i64 fr, .int .u16 la, .int .i64 c] w fun e w' => e = .returned (.bool true) ∧ Below w.heap.size w w' := by
  have HA := Lib.hid hA
  have HN := Lib.hid hn
  have HAN := Lib.hid hnone
  clear hA hn hnone
  have w0 : IntKind.i64.wrap la = la := IntWalk.i64_in _ (by omega)
  by_cases h30 : 30 < n
  · have d0 : decide ((30 : Int) < (n : Int)) = true := by simp; omega
    go_enter Try.func6, Try.ntmps6
    go_wp2_with (first | (go_at_call 8; refine (awake_c _).mono ?_; rintro e W ⟨rfl, hb⟩; have HB := Lib.hid hb; clear hb) | fail)
    go_ret
    exact ⟨rfl, HB.out⟩
  · have d0 : decide ((30 : Int) < (n : Int)) = false := by simp; omega
    have w1 : IntKind.i64.wrap ((n : Int) + 1) = n + 1 := IntWalk.i64_in _ (by omega)
    obtain ⟨cu, hcu⟩ : ∃ cu : Int, (if cut < 0 then -(cut + 1) else cut) = cu := ⟨_, rfl⟩
    have hcu0 : 0 ≤ cu := by rw [← hcu]; split <;> omega
    obtain ⟨k, hk⟩ : ∃ k : Nat, cu.tmod (n + 1) = (k : Int) := ⟨(cu.tmod (n + 1)).toNat, by rw [Int.toNat_of_nonneg (Int.tmod_nonneg _ hcu0)]⟩
    have hkn : k ≤ n := by
      have := Int.tmod_lt_of_pos cu (show (0 : Int) < (n : Int) + 1 by omega)
      omega
    have HK := Lib.hid hk
    obtain ⟨v1, hv1⟩ : ∃ v, ap (L.take k) fr la c = v := ⟨_, rfl⟩
    obtain ⟨v2, hv2⟩ : ∃ v, ap L fr la c = v := ⟨_, rfl⟩
    have hv4 : ap (L.drop k) fr la v1 = v2 := by rw [← hv1, ← hv2]; exact ap_cut L k fr la c
    have C1 : Hid (∀ W, Fls W A L → Calls Try.prog 13 #[.slice A k cp, .int .i64 fr, .int .i64 la, .int .i64 c] W fun e w' => e = .returned (.int .i64 v1) ∧ Below W.heap.size W w') := fun W h => apply_v hv1 (by rw [List.length_take, HN.out]; omega) W (h.take k)
    have C2 : Hid (∀ W, Fls W A L → Calls Try.prog 13 #[.slice A n cp, .int .i64 fr, .int .i64 la, .int .i64 c] W fun e w' => e = .returned (.int .i64 v2) ∧ Below W.heap.size W w') := fun W h => apply_v hv2 HN.out W h
    have hv3 : 0 ≤ fr → fr < 1073741824 → ap [⟨2, 0, 0, 1073741824⟩] fr la c = la := fun h1 h2 => by
      show one fr la (cl c) ⟨2, 0, 0, 1073741824⟩ = la
      rw [one_on ⟨⟨by decide, by decide, by decide, by decide, by decide, by decide, by decide, by decide⟩, by decide, h1, by simp only; omega⟩, wh_2 rfl, cl_id hl]
    have C4 : Hid (∀ W m r b o, A = some ⟨b, o, none⟩ → m = n - k → Fls W A L → Calls Try.prog 13 #[.slice (some ⟨b, o + k * 4, none⟩) m r, .int .i64 fr, .int .i64 la, .int .i64 v1] W fun e w' => e = .returned (.int .i64 v2) ∧ Below W.heap.size W w') := fun W m r b o e hm h => by subst e; subst hm; exact apply_v hv4 (by rw [List.length_drop, HN.out]) W (h.drop k)
    have C5 : Hid (∀ W r, n = 0 → Calls Try.prog 13 #[.slice none 0 r, .int .i64 fr, .int .i64 la, .int .i64 v1] W fun e w' => e = .returned (.int .i64 v2) ∧ Below W.heap.size W w') := fun W r e => apply_v hv4 (by rw [List.length_drop, HN.out]; omega) W (fls_nil (by rw [List.length_drop, HN.out]; omega))
    have C6 : Hid (∀ W a m r, m = n - k → n = k → Calls Try.prog 13 #[.slice a m r, .int .i64 fr, .int .i64 la, .int .i64 v1] W fun e w' => e = .returned (.int .i64 v2) ∧ Below W.heap.size W w') := fun W a m r hm e => apply_v hv4 (by rw [List.length_drop, HN.out, hm]) W (fls_nil (by rw [List.length_drop, HN.out]; omega))
    clear hv1 hv2 hv4
    have HC3 : Hid (0 ≤ fr → fr < 1073741824 → ∀ W g, Blk W g 2 0 0 1073741824 → Calls Try.prog 13 #[.slice (some ⟨g, 0, none⟩) 1 1, .int .i64 fr, .int .i64 la, .int .i64 c] W fun e w' => e = .returned (.int .i64 la) ∧ Below W.heap.size W w') := fun h1 h2 W g hg => apply_v (hv3 h1 h2) rfl W hg.one
    clear hv3
    -- cases
    rcases Int.lt_or_le cut 0 with hneg | hneg
    · rw [if_pos hneg] at hcu
      have w2 : IntKind.i64.wrap (cut + 1) = cut + 1 := IntWalk.i64_in _ (by omega)
      have w3 : IntKind.i64.wrap (-(cut + 1)) = cu := by rw [IntWalk.i64_in _ (by omega), hcu]
      have d1 : decide (cut < 0) = true := decide_eq_true hneg
      have hk := HK.out
      clear hcu hneg
      rcases Nat.eq_zero_or_pos cp with hz | hz
      · obtain rfl : n = 0 := by omega
        obtain rfl : k = 0 := by omega
        subst hz
        have C7 : Hid (∀ W, Calls Try.prog 13 #[.slice A 0 0, .int .i64 fr, .int .i64 la, .int .i64 v1] W fun e w' => e = .returned (.int .i64 v2) ∧ Below W.heap.size W w') := fun W => C6.out W A 0 0 rfl rfl
        rcases (by omega : fr < 0 ∨ 1073741824 ≤ fr ∨ (0 ≤ fr ∧ fr < 1073741824)) with hf | hf | ⟨hf, hg⟩
        · have d2 : decide (fr < 0) = true := decide_eq_true hf
          go_enter Try.func6, Try.ntmps6
          go_wp2_with (first | (go_at_call 8; refine (awake_c _).mono ?_; rintro e W1 ⟨rfl, hb⟩; have HB := Lib.hid hb; clear hb) | fail)
          refine (C1.out _ (HA.out.below HB.out)).mono ?_
          rintro e W2 ⟨rfl, hb⟩
          replace HB := Lib.hid (grew HB.out hb)
          clear hb C1
          go_wp2_with fail
          refine (C2.out _ (HA.out.below HB.out)).mono ?_
          rintro e W3 ⟨rfl, hb⟩
          replace HB := Lib.hid (grew HB.out hb)
          clear hb C2
          have HF := Lib.hid (Kp.new W3 2 0 0 1073741824)
          replace HB := Lib.hid (HB.out.alloc HB.out.size (.cells (fc 2 0 0 1073741824) 27))
          go_wp2_with (first | (go_at_call 13; (with_reducible refine (C7.out _).mono ?_); rintro e W5 ⟨rfl, hb⟩; replace HB := Lib.hid (grew HB.out hb); clear hb) | fail)
          all_goals
            go_ret
            exact ⟨rfl, HB.out⟩
        · have d2 : decide (fr < 0) = false := decide_eq_false (by omega)
          have d3 : decide (1073741824 ≤ fr) = true := decide_eq_true hf
          go_enter Try.func6, Try.ntmps6
          go_wp2_with (first | (go_at_call 8; refine (awake_c _).mono ?_; rintro e W1 ⟨rfl, hb⟩; have HB := Lib.hid hb; clear hb) | fail)
          refine (C1.out _ (HA.out.below HB.out)).mono ?_
          rintro e W2 ⟨rfl, hb⟩
          replace HB := Lib.hid (grew HB.out hb)
          clear hb C1
          go_wp2_with fail
          refine (C2.out _ (HA.out.below HB.out)).mono ?_
          rintro e W3 ⟨rfl, hb⟩
          replace HB := Lib.hid (grew HB.out hb)
          clear hb C2
          have HF := Lib.hid (Kp.new W3 2 0 0 1073741824)
          replace HB := Lib.hid (HB.out.alloc HB.out.size (.cells (fc 2 0 0 1073741824) 27))
          go_wp2_with (first | (go_at_call 13; (with_reducible refine (C7.out _).mono ?_); rintro e W5 ⟨rfl, hb⟩; replace HB := Lib.hid (grew HB.out hb); clear hb) | fail)
          all_goals
            go_ret
            exact ⟨rfl, HB.out⟩
        · have C3 := Lib.hid (HC3.out hf hg)
          have d2 : decide (fr < 0) = false := decide_eq_false (by omega)
          have d3 : decide (1073741824 ≤ fr) = false := decide_eq_false (by omega)
          go_enter Try.func6, Try.ntmps6
          go_wp2_with (first | (go_at_call 8; refine (awake_c _).mono ?_; rintro e W1 ⟨rfl, hb⟩; have HB := Lib.hid hb; clear hb) | fail)
          refine (C1.out _ (HA.out.below HB.out)).mono ?_
          rintro e W2 ⟨rfl, hb⟩
          replace HB := Lib.hid (grew HB.out hb)
          clear hb C1
          go_wp2_with fail
          refine (C2.out _ (HA.out.below HB.out)).mono ?_
          rintro e W3 ⟨rfl, hb⟩
          replace HB := Lib.hid (grew HB.out hb)
          clear hb C2
          have HF := Lib.hid (Kp.new W3 2 0 0 1073741824)
          replace HB := Lib.hid (HB.out.alloc HB.out.size (.cells (fc 2 0 0 1073741824) 27))
          go_wp2_with (first | (go_at_call 13; (with_reducible refine (C3.out _ _ HF.out.at_).mono ?_); rintro e W4 ⟨rfl, hb⟩; replace HB := Lib.hid (grew HB.out hb); replace HF := Lib.hid (HF.out.grow hb); clear hb C3) | (go_at_call 13; (with_reducible refine (C7.out _).mono ?_); rintro e W5 ⟨rfl, hb⟩; replace HB := Lib.hid (grew HB.out hb); clear hb) | fail)
          all_goals
            go_ret
            exact ⟨rfl, HB.out⟩
      · obtain ⟨b, of, rfl⟩ := HAN.out hz
        rcases (by omega : fr < 0 ∨ 1073741824 ≤ fr ∨ (0 ≤ fr ∧ fr < 1073741824)) with hf | hf | ⟨hf, hg⟩
        · have d2 : decide (fr < 0) = true := decide_eq_true hf
          go_enter Try.func6, Try.ntmps6
          go_wp2_with (first | (go_at_call 8; refine (awake_c _).mono ?_; rintro e W1 ⟨rfl, hb⟩; have HB := Lib.hid hb; clear hb) | fail)
          refine (C1.out _ (HA.out.below HB.out)).mono ?_
          rintro e W2 ⟨rfl, hb⟩
          replace HB := Lib.hid (grew HB.out hb)
          clear hb C1
          go_wp2_with fail
          refine (C2.out _ (HA.out.below HB.out)).mono ?_
          rintro e W3 ⟨rfl, hb⟩
          replace HB := Lib.hid (grew HB.out hb)
          clear hb C2
          have HF := Lib.hid (Kp.new W3 2 0 0 1073741824)
          replace HB := Lib.hid (HB.out.alloc HB.out.size (.cells (fc 2 0 0 1073741824) 27))
          go_wp2_with (first | (go_at_call 13; (with_reducible refine (C4.out _ _ _ _ _ rfl (by omega) (HA.out.below HB.out)).mono ?_); rintro e W5 ⟨rfl, hb⟩; replace HB := Lib.hid (grew HB.out hb); clear hb) | (go_at_call 13; (with_reducible refine (C6.out _ _ _ _ (by omega) (by omega)).mono ?_); rintro e W5 ⟨rfl, hb⟩; replace HB := Lib.hid (grew HB.out hb); clear hb) | fail)
          all_goals
            go_ret
            exact ⟨rfl, HB.out⟩
        · have d2 : decide (fr < 0) = false := decide_eq_false (by omega)
          have d3 : decide (1073741824 ≤ fr) = true := decide_eq_true hf
          go_enter Try.func6, Try.ntmps6
          go_wp2_with (first | (go_at_call 8; refine (awake_c _).mono ?_; rintro e W1 ⟨rfl, hb⟩; have HB := Lib.hid hb; clear hb) | fail)
          refine (C1.out _ (HA.out.below HB.out)).mono ?_
          rintro e W2 ⟨rfl, hb⟩
          replace HB := Lib.hid (grew HB.out hb)
          clear hb C1
          go_wp2_with fail
          refine (C2.out _ (HA.out.below HB.out)).mono ?_
          rintro e W3 ⟨rfl, hb⟩
          replace HB := Lib.hid (grew HB.out hb)
          clear hb C2
          have HF := Lib.hid (Kp.new W3 2 0 0 1073741824)
          replace HB := Lib.hid (HB.out.alloc HB.out.size (.cells (fc 2 0 0 1073741824) 27))
          go_wp2_with (first | (go_at_call 13; (with_reducible refine (C4.out _ _ _ _ _ rfl (by omega) (HA.out.below HB.out)).mono ?_); rintro e W5 ⟨rfl, hb⟩; replace HB := Lib.hid (grew HB.out hb); clear hb) | (go_at_call 13; (with_reducible refine (C6.out _ _ _ _ (by omega) (by omega)).mono ?_); rintro e W5 ⟨rfl, hb⟩; replace HB := Lib.hid (grew HB.out hb); clear hb) | fail)
          all_goals
            go_ret
            exact ⟨rfl, HB.out⟩
        · have C3 := Lib.hid (HC3.out hf hg)
          have d2 : decide (fr < 0) = false := decide_eq_false (by omega)
          have d3 : decide (1073741824 ≤ fr) = false := decide_eq_false (by omega)
          go_enter Try.func6, Try.ntmps6
          go_wp2_with (first | (go_at_call 8; refine (awake_c _).mono ?_; rintro e W1 ⟨rfl, hb⟩; have HB := Lib.hid hb; clear hb) | fail)
          refine (C1.out _ (HA.out.below HB.out)).mono ?_
          rintro e W2 ⟨rfl, hb⟩
          replace HB := Lib.hid (grew HB.out hb)
          clear hb C1
          go_wp2_with fail
          refine (C2.out _ (HA.out.below HB.out)).mono ?_
          rintro e W3 ⟨rfl, hb⟩
          replace HB := Lib.hid (grew HB.out hb)
          clear hb C2
          have HF := Lib.hid (Kp.new W3 2 0 0 1073741824)
          replace HB := Lib.hid (HB.out.alloc HB.out.size (.cells (fc 2 0 0 1073741824) 27))
          go_wp2_with (first | (go_at_call 13; (with_reducible refine (C3.out _ _ HF.out.at_).mono ?_); rintro e W4 ⟨rfl, hb⟩; replace HB := Lib.hid (grew HB.out hb); replace HF := Lib.hid (HF.out.grow hb); clear hb C3) | (go_at_call 13; (with_reducible refine (C4.out _ _ _ _ _ rfl (by omega) (HA.out.below HB.out)).mono ?_); rintro e W5 ⟨rfl, hb⟩; replace HB := Lib.hid (grew HB.out hb); clear hb) | (go_at_call 13; (with_reducible refine (C6.out _ _ _ _ (by omega) (by omega)).mono ?_); rintro e W5 ⟨rfl, hb⟩; replace HB := Lib.hid (grew HB.out hb); clear hb) | fail)
          all_goals
            go_ret
            exact ⟨rfl, HB.out⟩
    · rw [if_neg (by omega)] at hcu
      subst hcu
      have d1 : decide (cut < 0) = false := decide_eq_false (by omega)
      have hk := HK.out
      clear hneg
      rcases Nat.eq_zero_or_pos cp with hz | hz
      · obtain rfl : n = 0 := by omega
        obtain rfl : k = 0 := by omega
        subst hz
        have C7 : Hid (∀ W, Calls Try.prog 13 #[.slice A 0 0, .int .i64 fr, .int .i64 la, .int .i64 v1] W fun e w' => e = .returned (.int .i64 v2) ∧ Below W.heap.size W w') := fun W => C6.out W A 0 0 rfl rfl
        rcases (by omega : fr < 0 ∨ 1073741824 ≤ fr ∨ (0 ≤ fr ∧ fr < 1073741824)) with hf | hf | ⟨hf, hg⟩
        · have d2 : decide (fr < 0) = true := decide_eq_true hf
          go_enter Try.func6, Try.ntmps6
          go_wp2_with (first | (go_at_call 8; refine (awake_c _).mono ?_; rintro e W1 ⟨rfl, hb⟩; have HB := Lib.hid hb; clear hb) | fail)
          refine (C1.out _ (HA.out.below HB.out)).mono ?_
          rintro e W2 ⟨rfl, hb⟩
          replace HB := Lib.hid (grew HB.out hb)
          clear hb C1
          go_wp2_with fail
          refine (C2.out _ (HA.out.below HB.out)).mono ?_
          rintro e W3 ⟨rfl, hb⟩
          replace HB := Lib.hid (grew HB.out hb)
          clear hb C2
          have HF := Lib.hid (Kp.new W3 2 0 0 1073741824)
          replace HB := Lib.hid (HB.out.alloc HB.out.size (.cells (fc 2 0 0 1073741824) 27))
          go_wp2_with (first | (go_at_call 13; (with_reducible refine (C7.out _).mono ?_); rintro e W5 ⟨rfl, hb⟩; replace HB := Lib.hid (grew HB.out hb); clear hb) | fail)
          all_goals
            go_ret
            exact ⟨rfl, HB.out⟩
        · have d2 : decide (fr < 0) = false := decide_eq_false (by omega)
          have d3 : decide (1073741824 ≤ fr) = true := decide_eq_true hf
          go_enter Try.func6, Try.ntmps6
          go_wp2_with (first | (go_at_call 8; refine (awake_c _).mono ?_; rintro e W1 ⟨rfl, hb⟩; have HB := Lib.hid hb; clear hb) | fail)
          refine (C1.out _ (HA.out.below HB.out)).mono ?_
          rintro e W2 ⟨rfl, hb⟩
          replace HB := Lib.hid (grew HB.out hb)
          clear hb C1
          go_wp2_with fail
          refine (C2.out _ (HA.out.below HB.out)).mono ?_
          rintro e W3 ⟨rfl, hb⟩
          replace HB := Lib.hid (grew HB.out hb)
          clear hb C2
          have HF := Lib.hid (Kp.new W3 2 0 0 1073741824)
          replace HB := Lib.hid (HB.out.alloc HB.out.size (.cells (fc 2 0 0 1073741824) 27))
          go_wp2_with (first | (go_at_call 13; (with_reducible refine (C7.out _).mono ?_); rintro e W5 ⟨rfl, hb⟩; replace HB := Lib.hid (grew HB.out hb); clear hb) | fail)
          all_goals
            go_ret
            exact ⟨rfl, HB.out⟩
        · have C3 := Lib.hid (HC3.out hf hg)
          have d2 : decide (fr < 0) = false := decide_eq_false (by omega)
          have d3 : decide (1073741824 ≤ fr) = false := decide_eq_false (by omega)
          go_enter Try.func6, Try.ntmps6
          go_wp2_with (first | (go_at_call 8; refine (awake_c _).mono ?_; rintro e W1 ⟨rfl, hb⟩; have HB := Lib.hid hb; clear hb) | fail)
          refine (C1.out _ (HA.out.below HB.out)).mono ?_
          rintro e W2 ⟨rfl, hb⟩
          replace HB := Lib.hid (grew HB.out hb)
          clear hb C1
          go_wp2_with fail
          refine (C2.out _ (HA.out.below HB.out)).mono ?_
          rintro e W3 ⟨rfl, hb⟩
          replace HB := Lib.hid (grew HB.out hb)
          clear hb C2
          have HF := Lib.hid (Kp.new W3 2 0 0 1073741824)
          replace HB := Lib.hid (HB.out.alloc HB.out.size (.cells (fc 2 0 0 1073741824) 27))
          go_wp2_with (first | (go_at_call 13; (with_reducible refine (C3.out _ _ HF.out.at_).mono ?_); rintro e W4 ⟨rfl, hb⟩; replace HB := Lib.hid (grew HB.out hb); replace HF := Lib.hid (HF.out.grow hb); clear hb C3) | (go_at_call 13; (with_reducible refine (C7.out _).mono ?_); rintro e W5 ⟨rfl, hb⟩; replace HB := Lib.hid (grew HB.out hb); clear hb) | fail)
          all_goals
            go_ret
            exact ⟨rfl, HB.out⟩
      · obtain ⟨b, of, rfl⟩ := HAN.out hz
        rcases (by omega : fr < 0 ∨ 1073741824 ≤ fr ∨ (0 ≤ fr ∧ fr < 1073741824)) with hf | hf | ⟨hf, hg⟩
        · have d2 : decide (fr < 0) = true := decide_eq_true hf
          go_enter Try.func6, Try.ntmps6
          go_wp2_with (first | (go_at_call 8; refine (awake_c _).mono ?_; rintro e W1 ⟨rfl, hb⟩; have HB := Lib.hid hb; clear hb) | fail)
          refine (C1.out _ (HA.out.below HB.out)).mono ?_
          rintro e W2 ⟨rfl, hb⟩
          replace HB := Lib.hid (grew HB.out hb)
          clear hb C1
          go_wp2_with fail
          refine (C2.out _ (HA.out.below HB.out)).mono ?_
          rintro e W3 ⟨rfl, hb⟩
          replace HB := Lib.hid (grew HB.out hb)
          clear hb C2
          have HF := Lib.hid (Kp.new W3 2 0 0 1073741824)
          replace HB := Lib.hid (HB.out.alloc HB.out.size (.cells (fc 2 0 0 1073741824) 27))
          go_wp2_with (first | (go_at_call 13; (with_reducible refine (C4.out _ _ _ _ _ rfl (by omega) (HA.out.below HB.out)).mono ?_); rintro e W5 ⟨rfl, hb⟩; replace HB := Lib.hid (grew HB.out hb); clear hb) | (go_at_call 13; (with_reducible refine (C6.out _ _ _ _ (by omega) (by omega)).mono ?_); rintro e W5 ⟨rfl, hb⟩; replace HB := Lib.hid (grew HB.out hb); clear hb) | fail)
          all_goals
            go_ret
            exact ⟨rfl, HB.out⟩
        · have d2 : decide (fr < 0) = false := decide_eq_false (by omega)
          have d3 : decide (1073741824 ≤ fr) = true := decide_eq_true hf
          go_enter Try.func6, Try.ntmps6
          go_wp2_with (first | (go_at_call 8; refine (awake_c _).mono ?_; rintro e W1 ⟨rfl, hb⟩; have HB := Lib.hid hb; clear hb) | fail)
          refine (C1.out _ (HA.out.below HB.out)).mono ?_
          rintro e W2 ⟨rfl, hb⟩
          replace HB := Lib.hid (grew HB.out hb)
          clear hb C1
          go_wp2_with fail
          refine (C2.out _ (HA.out.below HB.out)).mono ?_
          rintro e W3 ⟨rfl, hb⟩
          replace HB := Lib.hid (grew HB.out hb)
          clear hb C2
          have HF := Lib.hid (Kp.new W3 2 0 0 1073741824)
          replace HB := Lib.hid (HB.out.alloc HB.out.size (.cells (fc 2 0 0 1073741824) 27))
          go_wp2_with (first | (go_at_call 13; (with_reducible refine (C4.out _ _ _ _ _ rfl (by omega) (HA.out.below HB.out)).mono ?_); rintro e W5 ⟨rfl, hb⟩; replace HB := Lib.hid (grew HB.out hb); clear hb) | (go_at_call 13; (with_reducible refine (C6.out _ _ _ _ (by omega) (by omega)).mono ?_); rintro e W5 ⟨rfl, hb⟩; replace HB := Lib.hid (grew HB.out hb); clear hb) | fail)
          all_goals
            go_ret
            exact ⟨rfl, HB.out⟩
        · have C3 := Lib.hid (HC3.out hf hg)
          have d2 : decide (fr < 0) = false := decide_eq_false (by omega)
          have d3 : decide (1073741824 ≤ fr) = false := decide_eq_false (by omega)
          go_enter Try.func6, Try.ntmps6
          go_wp2_with (first | (go_at_call 8; refine (awake_c _).mono ?_; rintro e W1 ⟨rfl, hb⟩; have HB := Lib.hid hb; clear hb) | fail)
          refine (C1.out _ (HA.out.below HB.out)).mono ?_
          rintro e W2 ⟨rfl, hb⟩
          replace HB := Lib.hid (grew HB.out hb)
          clear hb C1
          go_wp2_with fail
          refine (C2.out _ (HA.out.below HB.out)).mono ?_
          rintro e W3 ⟨rfl, hb⟩
          replace HB := Lib.hid (grew HB.out hb)
          clear hb C2
          have HF := Lib.hid (Kp.new W3 2 0 0 1073741824)
          replace HB := Lib.hid (HB.out.alloc HB.out.size (.cells (fc 2 0 0 1073741824) 27))
          go_wp2_with (first | (go_at_call 13; (with_reducible refine (C3.out _ _ HF.out.at_).mono ?_); rintro e W4 ⟨rfl, hb⟩; replace HB := Lib.hid (grew HB.out hb); replace HF := Lib.hid (HF.out.grow hb); clear hb C3) | (go_at_call 13; (with_reducible refine (C4.out _ _ _ _ _ rfl (by omega) (HA.out.below HB.out)).mono ?_); rintro e W5 ⟨rfl, hb⟩; replace HB := Lib.hid (grew HB.out hb); clear hb) | (go_at_call 13; (with_reducible refine (C6.out _ _ _ _ (by omega) (by omega)).mono ?_); rintro e W5 ⟨rfl, hb⟩; replace HB := Lib.hid (grew HB.out hb); clear hb) | fail)
          all_goals
            go_ret
            exact ⟨rfl, HB.out⟩
end Jw
end Go.Proofs.Ytealfomdfnpmpaa
