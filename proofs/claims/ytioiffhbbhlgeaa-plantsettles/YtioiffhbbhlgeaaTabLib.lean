/- Contracts: a step's slope; the library's functions that package table calls; the steps' maker. -/
import Derived.Test.YtioiffhbbhlgeaaTabSmall
namespace Go.Proofs.Ytioiffhbbhlgeaa
namespace TabC
open Go.RowKit

theorem indexFunc_c (A : Option Addr) (c : Nat) (l : List Int) (w : World) (hl : l.length ≤ 9223372036854775807) (hA : Lk.IntsAt w .i64 A l) :
    Calls Try.prog 72 #[.slice A l.length c, .func (.func 68) #[] #[]] w fun e w' => (∃ r : Int, e = .returned (.int .i64 r) ∧ decide (0 ≤ r) = l.any Tb.out) ∧ w = w' := by
  have HA := Lib.hid hA
  clear hA
  go_enter Try.func72, Try.ntmps72
  go_wp2_with fail
  go_loop [8] (fun i => ∃ k : Nat, k ≤ l.length ∧ i = .int .i64 k ∧ (l.take k).any Tb.out = false) (fun i => l.length - (intOf i).toNat)
  case atStart => exact ⟨0, Nat.zero_le _, rfl, by simp⟩
  case round =>
    obtain ⟨k, hk, rfl, hany⟩ := hrel
    have HN := Lib.hid hany
    clear hany
    by_cases hlt : k < l.length
    · obtain ⟨b, off, rfl, hc⟩ := cellG HA.out hlt
      have HT := Lib.hid (Tb.any_take l k hlt)
      generalize hv : Tb.g l k = v at hc HT
      have HV := Lib.hid hv
      clear hv
      cases ho : Tb.out v with
      | true =>
        have HO := Lib.hid ho
        clear ho
        have oc : ∀ W, Calls Try.prog 68 #[.int .i64 v] W fun e w' => e = .returned (.bool true) ∧ W = w' := fun W => (outside_c v W).mono fun e w' h => by rw [← HO.out]; exact h
        have OC := Lib.hid oc
        clear oc
        go_wp2_with (go_at_call 68; refine (OC.out _).mono ?_; rintro e w' ⟨rfl, rfl⟩)
        go_ret
        refine ⟨⟨k, rfl, ?_⟩, rfl⟩
        have : l.any Tb.out = true := List.any_eq_true.2 ⟨v, by rw [← HV.out]; exact Tb.g_mem hlt, HO.out⟩
        rw [this]; simp
      | false =>
        have HO := Lib.hid ho
        clear ho
        have oc : ∀ W, Calls Try.prog 68 #[.int .i64 v] W fun e w' => e = .returned (.bool false) ∧ W = w' := fun W => (outside_c v W).mono fun e w' h => by rw [← HO.out]; exact h
        have OC := Lib.hid oc
        clear oc
        go_wp2_with (go_at_call 68; refine (OC.out _).mono ?_; rintro e w' ⟨rfl, rfl⟩)
        go_round
        case rel => exact ⟨k + 1, by omega, by go_num, by rw [HT.out, HN.out, HO.out]; rfl⟩
        case measure => simp [intOf]; omega
    · go_wp2_with fail
      go_ret
      refine ⟨⟨-1, rfl, ?_⟩, rfl⟩
      have := HN.out
      rw [List.take_of_length_le (by omega)] at this
      rw [this]; decide

theorem containsFunc_c (A : Option Addr) (c : Nat) (l : List Int) (w : World) (hl : l.length ≤ 9223372036854775807) (hA : Lk.IntsAt w .i64 A l) :
    Calls Try.prog 67 #[.slice A l.length c, .func (.func 68) #[] #[]] w fun e w' => e = .returned (.bool (l.any Tb.out)) ∧ w = w' := by
  have IC := Lib.hid (indexFunc_c A c l w hl hA)
  clear hA
  go_enter Try.func67, Try.ntmps67
  go_wp2_with fail
  refine IC.out.mono ?_
  rintro e w' ⟨⟨r, rfl, hr⟩, rfl⟩
  have HR := Lib.hid hr
  clear hr
  go_wp2_with fail
  all_goals
    go_ret
    exact ⟨ret_bool (by first | exact HR.out | (rw [← HR.out]; simp; omega)), rfl⟩

theorem max_take0 (l : List Int) (h : 0 < l.length) (h0 : 0 ≤ Tb.g l 0) : Tb.g l 0 = Tb.mx (l.take 1) := by
  have := Tb.mx_take l 0 h
  rw [this]; simp [Tb.mx]; omega

theorem max_if (m v : Int) : (if m < v then v else m) = max m v := by split <;> omega

/-- slices.Max of numbers of which none is below 0. -/
theorem max_c (A : Option Addr) (c : Nat) (l : List Int) (w : World) (hl : l.length ≤ 9223372036854775807) (h1 : 0 < l.length) (h0 : 0 ≤ Tb.g l 0) (hA : Lk.IntsAt w .i64 A l) :
    Calls Try.prog 52 #[.slice A l.length c] w fun e w' => e = .returned (.int .i64 (Tb.mx l)) ∧ w = w' := by
  obtain ⟨b, off, rfl, c0⟩ := cellG hA (i := 0) h1
  rw [Nat.add_zero] at c0
  have HA := Lib.hid hA
  have M0 := Lib.hid (max_take0 l h1 h0)
  clear hA h0
  go_enter Try.func52, Try.ntmps52
  go_wp2_with fail
  go_loop [3, 4] (fun m i => ∃ k : Nat, 1 ≤ k ∧ k ≤ l.length ∧ i = .int .i64 k ∧ m = .int .i64 (Tb.mx (l.take k))) (fun _ i => l.length - (intOf i).toNat)
  case atStart => exact ⟨1, Nat.le_refl _, h1, rfl, by rw [M0.out]⟩
  case round =>
    obtain ⟨k, hk1, hk, rfl, rfl⟩ := hrel
    by_cases hlt : k < l.length
    · obtain ⟨b', off', e, hc⟩ := cellG HA.out hlt
      simp only [Option.some.injEq, Addr.mk.injEq, and_true] at e
      obtain ⟨rfl, rfl⟩ := e
      have HT := Lib.hid (Tb.mx_take l k hlt)
      generalize Tb.g l k = v at hc HT
      generalize Tb.mx (l.take k) = m at HT ⊢
      go_wp2_with fail
      go_round
      case rel => exact ⟨k + 1, by omega, by omega, by go_num, by rw [HT.out, max_if]⟩
      case measure => simp [intOf]; omega
    · go_wp2_with fail
      go_ret
      exact ⟨ret_int (by rw [List.take_of_length_le (by omega)]), rfl⟩

end TabC
end Go.Proofs.Ytioiffhbbhlgeaa
