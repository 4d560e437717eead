/- limit.Trim and Ladder, and the document's own answers: each is what LimitMath says, and leaves the world alone. -/
import Derived.Test.YtjjconkelbjodaaFixRef
import Derived.Test.YtjjconkelbjodaaLimitMath
import Derived.Lib.MinMax
namespace Go.Proofs.Ytjjconkelbjodaa
namespace Lw5
open Go.RowKit FixC

theorem sat_v {x y : Int} (h : Fx.sat x = y) (w : World) : Calls Try.prog 18 #[.int .i64 x] w fun e w' => e = .returned (.int .i64 y) ∧ w = w' := h ▸ sat_c x w
theorem rsat_v {x y : Int} (h : Fx.sat x = y) (w : World) : Calls Try.prog 21 #[.int .i64 x] w fun e w' => e = .returned (.int .i64 y) ∧ w = w' := h ▸ rsat_c x w
theorem clamp_v {x lo hi y : Int} (h : Fx.clamp x lo hi = y) (w : World) : Calls Try.prog 19 #[.int .i64 x, .int .i64 lo, .int .i64 hi] w fun e w' => e = .returned (.int .i64 y) ∧ w = w' := h ▸ clamp_c x lo hi w
theorem sub_v {x y z : Int} (h : Fx.sub x y = z) (w : World) : Calls Try.prog 20 #[.int .i64 x, .int .i64 y] w fun e w' => e = .returned (.int .i64 z) ∧ w = w' := h ▸ sub_c x y w
theorem sub_is {f l : Int} (hf : -2147483648 ≤ f ∧ f ≤ 2147483647) (hl : -2147483648 ≤ l ∧ l ≤ 2147483647) (h : l < f) : Fx.sub f l = min (f - l) 2147483647 := by
  unfold Fx.sub
  rw [Fx.sat_id f hf.1 hf.2, Fx.sat_id l hl.1 hl.2]
  unfold Fx.sat
  (repeat' split) <;> omega

theorem trim_c (v r m f l : Int) (w : World) : Calls Try.prog 9 #[.int .i64 v, .int .i64 r, .int .i64 m, .int .i64 f, .int .i64 l] w fun e w' => e = .returned (.int .i64 (Lt.trim v r m f l)) ∧ w = w' := by
  have hV := Fx.sat_in v; have hR := Fx.sat_in r; have hF := Fx.sat_in f; have hL := Fx.sat_in l
  have hM := Lt.clamp1_in m
  unfold Lt.trim
  obtain ⟨V, eV⟩ : ∃ x, Fx.sat v = x := ⟨_, rfl⟩
  obtain ⟨R, eR⟩ : ∃ x, Fx.sat r = x := ⟨_, rfl⟩
  obtain ⟨F, eF⟩ : ∃ x, Fx.sat f = x := ⟨_, rfl⟩
  obtain ⟨L, eL⟩ : ∃ x, Fx.sat l = x := ⟨_, rfl⟩
  obtain ⟨M, eM⟩ : ∃ x, Fx.clamp m 1 2147483647 = x := ⟨_, rfl⟩
  rw [eV] at hV; rw [eR] at hR; rw [eF] at hF; rw [eL] at hL; rw [eM] at hM
  rw [eV, eR, eF, eL, eM]
  have C1 := Lib.hid (sat_v eV); have C2 := Lib.hid (sat_v eR); have C3 := Lib.hid (sat_v eF); have C4 := Lib.hid (sat_v eL)
  have C5 := Lib.hid (clamp_v eM)
  clear eV eR eF eL eM
  by_cases h1 : F ≤ L
  · rw [Lt.core_all (Or.inl h1)]
    go_enter Try.func9, Try.ntmps9
    go_wp2_with (first | (go_at_call 18; (first | (with_reducible refine (C1.out _).mono ?_) | (with_reducible refine (C2.out _).mono ?_) | (with_reducible refine (C3.out _).mono ?_) | (with_reducible refine (C4.out _).mono ?_)); rintro e w' ⟨rfl, rfl⟩) | (go_at_call 19; (with_reducible refine (C5.out _).mono ?_); rintro e w' ⟨rfl, rfl⟩) | fail)
    go_ret
    exact ⟨rfl, rfl⟩
  by_cases h2 : V ≤ R - M
  · rw [Lt.core_all (Or.inr h2)]
    go_enter Try.func9, Try.ntmps9
    go_wp2_with (first | (go_at_call 18; (first | (with_reducible refine (C1.out _).mono ?_) | (with_reducible refine (C2.out _).mono ?_) | (with_reducible refine (C3.out _).mono ?_) | (with_reducible refine (C4.out _).mono ?_)); rintro e w' ⟨rfl, rfl⟩) | (go_at_call 19; (with_reducible refine (C5.out _).mono ?_); rintro e w' ⟨rfl, rfl⟩) | fail)
    go_ret
    exact ⟨rfl, rfl⟩
  by_cases h3 : R ≤ V
  · rw [Lt.core_lean (by omega) h3]
    go_enter Try.func9, Try.ntmps9
    go_wp2_with (first | (go_at_call 18; (first | (with_reducible refine (C1.out _).mono ?_) | (with_reducible refine (C2.out _).mono ?_) | (with_reducible refine (C3.out _).mono ?_) | (with_reducible refine (C4.out _).mono ?_)); rintro e w' ⟨rfl, rfl⟩) | (go_at_call 19; (with_reducible refine (C5.out _).mono ?_); rintro e w' ⟨rfl, rfl⟩) | fail)
    go_ret
    exact ⟨rfl, rfl⟩
  rw [Lt.core_part (by omega) h3]
  have eD := sub_is hF hL (by omega)
  have hD : 0 ≤ min (F - L) 2147483647 ∧ min (F - L) 2147483647 ≤ 2147483647 := by omega
  have hD2 : L + min (F - L) 2147483647 ≤ F := by omega
  generalize min (F - L) 2147483647 = D at *
  have C6 := Lib.hid (sub_v eD)
  obtain ⟨p1, p2, p3, p4⟩ := Lt.part (d := D) (e := R - V) (m := M) hD (by omega) (by omega) hM.2
  have hM0 : (M == 0) = false := by simp; omega
  clear eD
  go_enter Try.func9, Try.ntmps9
  go_wp2_with (first | (go_at_call 18; (first | (with_reducible refine (C1.out _).mono ?_) | (with_reducible refine (C2.out _).mono ?_) | (with_reducible refine (C3.out _).mono ?_) | (with_reducible refine (C4.out _).mono ?_)); rintro e w' ⟨rfl, rfl⟩) | (go_at_call 19; (with_reducible refine (C5.out _).mono ?_); rintro e w' ⟨rfl, rfl⟩) | (go_at_call 20; (with_reducible refine (C6.out _).mono ?_); rintro e w' ⟨rfl, rfl⟩) | fail)
  go_ret
  exact ⟨rfl, rfl⟩

theorem rtrim_c (v r m f l : Int) (w : World) : Calls Try.prog 10 #[.int .i64 v, .int .i64 r, .int .i64 m, .int .i64 f, .int .i64 l] w fun e w' => e = .returned (.int .i64 (Lt.trim v r m f l)) ∧ w = w' := by
  have hV := Fx.sat_in v; have hR := Fx.sat_in r; have hF := Fx.sat_in f; have hL := Fx.sat_in l
  have hM := Lt.clamp1_in m
  have hmx := (Lt.clamp1 m).symm
  unfold Lt.trim
  obtain ⟨V, eV⟩ : ∃ x, Fx.sat v = x := ⟨_, rfl⟩
  obtain ⟨R, eR⟩ : ∃ x, Fx.sat r = x := ⟨_, rfl⟩
  obtain ⟨F, eF⟩ : ∃ x, Fx.sat f = x := ⟨_, rfl⟩
  obtain ⟨L, eL⟩ : ∃ x, Fx.sat l = x := ⟨_, rfl⟩
  obtain ⟨S, eS⟩ : ∃ x, Fx.sat m = x := ⟨_, rfl⟩
  obtain ⟨M, eM⟩ : ∃ x, Fx.clamp m 1 2147483647 = x := ⟨_, rfl⟩
  rw [eV] at hV; rw [eR] at hR; rw [eF] at hF; rw [eL] at hL; rw [eM] at hM; rw [eM, eS] at hmx
  rw [eV, eR, eF, eL, eM]
  have C1 := Lib.hid (rsat_v eV); have C2 := Lib.hid (rsat_v eR); have C3 := Lib.hid (rsat_v eF); have C4 := Lib.hid (rsat_v eL); have C5 := Lib.hid (rsat_v eS)
  clear eV eR eF eL eM eS
  by_cases h1 : F ≤ L
  · rw [Lt.core_all (Or.inl h1)]
    go_enter Try.func10, Try.ntmps10
    go_wp2_with (first | (go_at_call 21; (first | (with_reducible refine (C1.out _).mono ?_) | (with_reducible refine (C2.out _).mono ?_) | (with_reducible refine (C3.out _).mono ?_) | (with_reducible refine (C4.out _).mono ?_) | (with_reducible refine (C5.out _).mono ?_)); rintro e w' ⟨rfl, rfl⟩) | fail)
    go_ret
    exact ⟨rfl, rfl⟩
  by_cases h2 : V ≤ R - M
  · rw [Lt.core_all (Or.inr h2)]
    go_enter Try.func10, Try.ntmps10
    go_wp2_with (first | (go_at_call 21; (first | (with_reducible refine (C1.out _).mono ?_) | (with_reducible refine (C2.out _).mono ?_) | (with_reducible refine (C3.out _).mono ?_) | (with_reducible refine (C4.out _).mono ?_) | (with_reducible refine (C5.out _).mono ?_)); rintro e w' ⟨rfl, rfl⟩) | fail)
    go_ret
    exact ⟨rfl, rfl⟩
  by_cases h3 : R ≤ V
  · rw [Lt.core_lean (by omega) h3]
    go_enter Try.func10, Try.ntmps10
    go_wp2_with (first | (go_at_call 21; (first | (with_reducible refine (C1.out _).mono ?_) | (with_reducible refine (C2.out _).mono ?_) | (with_reducible refine (C3.out _).mono ?_) | (with_reducible refine (C4.out _).mono ?_) | (with_reducible refine (C5.out _).mono ?_)); rintro e w' ⟨rfl, rfl⟩) | fail)
    go_ret
    exact ⟨rfl, rfl⟩
  rw [Lt.core_part (by omega) h3]
  have hD : 0 ≤ min (F - L) 2147483647 ∧ min (F - L) 2147483647 ≤ 2147483647 := by omega
  have hD2 : L + min (F - L) 2147483647 ≤ F := by omega
  obtain ⟨D, eD⟩ : ∃ x, min (F - L) 2147483647 = x := ⟨_, rfl⟩
  rw [eD] at hD hD2 ⊢
  have eE : min (R - V) 2147483647 = R - V := by omega
  obtain ⟨p1, p2, p3, p4⟩ := Lt.part (d := D) (e := R - V) (m := M) hD (by omega) (by omega) hM.2
  have hM0 : (M == 0) = false := by simp; omega
  have eZ : min (L + (D * (R - V)).tdiv M) F = L + (D * (R - V)).tdiv M := by omega
  go_enter Try.func10, Try.ntmps10
  go_wp2_with (first | (go_at_call 21; (first | (with_reducible refine (C1.out _).mono ?_) | (with_reducible refine (C2.out _).mono ?_) | (with_reducible refine (C3.out _).mono ?_) | (with_reducible refine (C4.out _).mono ?_) | (with_reducible refine (C5.out _).mono ?_)); rintro e w' ⟨rfl, rfl⟩) | fail)
  go_ret
  exact ⟨rfl, rfl⟩

theorem ladder_c (x : Int) (A : Option Addr) (c : Nat) (l : List Int) (w : World) (hl : l.length ≤ 9223372036854775807) (hA : Lk.IntsAt w .i64 A l) :
    Calls Try.prog 14 #[.int .i64 x, .slice A l.length c] w fun e w' => e = .returned (.int .i64 (Lt.ladder x l)) ∧ w = w' := by
  have HA := Lib.hid hA
  clear hA
  obtain ⟨X, eX⟩ : ∃ y, Fx.sat x = y := ⟨_, rfl⟩
  obtain ⟨Z, eZ⟩ : ∃ y, max (Lt.low l) X = y := ⟨_, rfl⟩
  have CX := Lib.hid (sat_v eX)
  rw [show Lt.ladder x l = Z from by rw [Lt.ladder, eX, eZ]]
  have hZ := Lib.hid eZ
  clear eX eZ
  go_enter Try.func14, Try.ntmps14
  go_wp2
  go_loop [5, 10] (fun t i => ∃ k : Nat, k ≤ l.length ∧ i = .int .i64 k ∧ t = .int .i64 (Lt.low (l.take k))) (fun _ i => l.length - (intOf i).toNat)
  case atStart => exact ⟨0, Nat.zero_le _, rfl, rfl⟩
  case round =>
    obtain ⟨k, hk, rfl, rfl⟩ := hrel
    by_cases hlt : k < l.length
    · obtain ⟨b, off, rfl, hc⟩ := HA.out k hlt
      have hs := Lt.low_take l k hlt
      generalize l.getD k 0 = v at hc hs
      obtain ⟨y, ey⟩ : ∃ y, Fx.sat v = y := ⟨_, rfl⟩
      rw [ey] at hs
      have CV := Lib.hid (sat_v ey)
      clear ey
      obtain ⟨a, ea⟩ : ∃ a, Lt.low (l.take k) = a := ⟨_, rfl⟩
      obtain ⟨d, ed⟩ : ∃ d, Lt.low (l.take (k + 1)) = d := ⟨_, rfl⟩
      rw [ea, ed] at hs
      rw [ea]
      have hm := hs.symm
      have HD := Lib.hid ed
      clear ea ed hs
      go_wp2_with (first | (go_at_call 18; (with_reducible refine (CV.out _).mono ?_); rintro e w' ⟨rfl, rfl⟩) | fail)
      go_round
      case rel => exact ⟨k + 1, by omega, by go_num, by rw [HD.out]⟩
      case measure => simp [intOf]; omega
    · have hm : max (Lt.low (l.take k)) X = Z := by rw [List.take_of_length_le (by omega)]; exact hZ.out
      generalize Lt.low (l.take k) = a at *
      go_wp2_with (first | (go_at_call 18; (with_reducible refine (CX.out _).mono ?_); rintro e w' ⟨rfl, rfl⟩) | fail)
      go_ret
      exact ⟨rfl, rfl⟩

theorem rladder_c (x : Int) (A : Option Addr) (c : Nat) (l : List Int) (w : World) (hl : l.length ≤ 9223372036854775807) (hA : Lk.IntsAt w .i64 A l) :
    Calls Try.prog 15 #[.int .i64 x, .slice A l.length c] w fun e w' => e = .returned (.int .i64 (Lt.ladder x l)) ∧ w = w' := by
  have HA := Lib.hid hA
  clear hA
  obtain ⟨X, eX⟩ : ∃ y, Fx.sat x = y := ⟨_, rfl⟩
  obtain ⟨Z, eZ⟩ : ∃ y, max (Lt.low l) X = y := ⟨_, rfl⟩
  have CX := Lib.hid (rsat_v eX)
  rw [show Lt.ladder x l = Z from by rw [Lt.ladder, eX, eZ]]
  have hZ := Lib.hid eZ
  clear eX eZ
  go_enter Try.func15, Try.ntmps15
  go_wp2
  go_loop [5, 6] (fun t i => ∃ k : Nat, k ≤ l.length ∧ i = .int .i64 k ∧ t = .int .i64 (Lt.low (l.take k))) (fun _ i => l.length - (intOf i).toNat)
  case atStart => exact ⟨0, Nat.zero_le _, rfl, rfl⟩
  case round =>
    obtain ⟨k, hk, rfl, rfl⟩ := hrel
    by_cases hlt : k < l.length
    · obtain ⟨b, off, rfl, hc⟩ := HA.out k hlt
      have hs := Lt.low_take l k hlt
      generalize l.getD k 0 = v at hc hs
      obtain ⟨y, ey⟩ : ∃ y, Fx.sat v = y := ⟨_, rfl⟩
      rw [ey] at hs
      have CV := Lib.hid (rsat_v ey)
      clear ey
      obtain ⟨a, ea⟩ : ∃ a, Lt.low (l.take k) = a := ⟨_, rfl⟩
      obtain ⟨d, ed⟩ : ∃ d, Lt.low (l.take (k + 1)) = d := ⟨_, rfl⟩
      rw [ea, ed] at hs
      rw [ea]
      have hm := hs.symm
      have HD := Lib.hid ed
      clear ea ed hs
      go_wp2_with (first | (go_at_call 21; (with_reducible refine (CV.out _).mono ?_); rintro e w' ⟨rfl, rfl⟩) | fail)
      go_round
      case rel => exact ⟨k + 1, by omega, by go_num, by rw [HD.out]⟩
      case measure => simp [intOf]; omega
    · have hm : max (Lt.low (l.take k)) X = Z := by rw [List.take_of_length_le (by omega)]; exact hZ.out
      generalize Lt.low (l.take k) = a at *
      go_wp2_with (first | (go_at_call 21; (with_reducible refine (CX.out _).mono ?_); rintro e w' ⟨rfl, rfl⟩) | fail)
      go_ret
      exact ⟨rfl, rfl⟩

end Lw5
end Go.Proofs.Ytjjconkelbjodaa
