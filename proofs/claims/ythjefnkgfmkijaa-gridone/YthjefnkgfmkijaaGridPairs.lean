/- Contracts: grid.pairs with each of the two functions that it is called with. -/
import Derived.Test.YthjefnkgfmkijaaGridCheck
namespace Go.Proofs.Ythjefnkgfmkijaa
namespace GridC
open Go.RowKit TabC

/-- Two lists as long as each other, of which so holds side by side. -/
def prB (p : Int → Int → Bool) (a b : List Int) : Bool := decide (a.length = b.length) && (List.range a.length).all fun j => p (Tb.g a j) (Tb.g b j)
def PrTo (p : Int → Int → Bool) (a b : List Int) (k : Nat) : Prop := ∀ j, j < k → p (Tb.g a j) (Tb.g b j) = true
theorem prB_len {p : Int → Int → Bool} {a b : List Int} (h : a.length ≠ b.length) : prB p a b = false := by simp [prB, h]
theorem prB_no {p : Int → Int → Bool} {a b : List Int} {k : Nat} (hk : k < a.length) (h : p (Tb.g a k) (Tb.g b k) = false) : prB p a b = false := by
  have : ((List.range a.length).all fun j => p (Tb.g a j) (Tb.g b j)) = false := List.all_eq_false.2 ⟨k, List.mem_range.2 hk, by simp [h]⟩
  simp [prB, this]
theorem prB_yes {p : Int → Int → Bool} {a b : List Int} (h : a.length = b.length) (h2 : PrTo p a b a.length) : prB p a b = true := by
  have : ((List.range a.length).all fun j => p (Tb.g a j) (Tb.g b j)) = true := List.all_eq_true.2 fun k hk => h2 k (List.mem_range.1 hk)
  rw [prB, this, decide_eq_true h]; rfl
def sm (a b : Int) : Bool := a == b
def nl (a b : Int) : Bool := decide (a ≤ b)

theorem same_c (a b : Int) (w : World) : Calls Try.prog 26 #[.int .i64 a, .int .i64 b] w fun e w' => e = .returned (.bool (sm a b)) ∧ w' = w := by
  go_enter Try.func26, Try.ntmps26
  go_wp2
  all_goals
    go_ret
    exact ⟨rfl, rfl⟩

set_option maxHeartbeats 1000000 in
theorem pairs_sm (A B : Option Addr) (ca cb : Nat) (a b : List Int) (w : World) (ha : a.length ≤ 9223372036854775807) (hA : Lk.IntsAt w .i64 A a) (hB : Lk.IntsAt w .i64 B b) :
    Calls Try.prog 25 #[.slice A a.length ca, .slice B b.length cb, .func (.func 26) #[] #[]] w fun e w' => e = .returned (.bool (prB sm a b)) ∧ Below w.heap.size w w' := by
  have HA := Lib.hid hA
  have HB := Lib.hid hB
  clear hA hB
  by_cases hl : a.length = b.length
  · have HS := Lib.hid hl
    have d0 : ((a.length : Int) != (b.length : Int)) = false := by simp [hl]
    clear hl
    go_enter Try.func25, Try.ntmps25
    go_wp2_with fail
    go_loopw [15] (fun i wr => ∃ k : Nat, k ≤ a.length ∧ i = .int .i64 k ∧ PrTo sm a b k ∧ Below w.heap.size w wr) (fun i _ => a.length - (intOf i).toNat)
    case atStart => exact ⟨0, Nat.zero_le _, rfl, (fun j hj => by omega), Below.refl _ _⟩
    case round =>
      obtain ⟨k, hk, rfl, hF, hb⟩ := hrel
      have HF := Lib.hid hF
      have HBl := Lib.hid hb
      clear hF hb
      by_cases hlt : k < a.length
      · have hlt2 : k < b.length := by rw [← HS.out]; exact hlt
        obtain ⟨b1, o1, rfl, c1⟩ := cellG (HA.out.below HBl.out) hlt
        obtain ⟨b2, o2, rfl, c2⟩ := cellG (HB.out.below HBl.out) hlt2
        generalize hx : Tb.g a k = x at c1
        generalize hy : Tb.g b k = y at c2
        have GX := Lib.hid hx
        have GY := Lib.hid hy
        clear hx hy
        have FC := Lib.hid (same_c x y)
        cases hp : sm x y with
        | true =>
          have fc : ∀ W, Calls Try.prog 26 #[.int .i64 x, .int .i64 y] W fun e w' => e = .returned (.bool true) ∧ w' = W := fun W => by have := FC.out W; rwa [hp] at this
          have FD := Lib.hid fc
          have HN : Hid (PrTo sm a b (k + 1)) := fun j hj => by
            by_cases e : j = k
            · rw [e, GX.out, GY.out]; exact hp
            · exact HF.out j (by omega)
          clear fc FC hp
          go_wp2_with fail
          go_quiet ((go_at_call 26; exact Calls.quiet_of_same (FD.out _)))
          go_wp2_with fail
          go_roundw
          case rel => exact ⟨k + 1, by omega, by go_num, HN.out, below_drewN HBl.out _⟩
          case measure => simp [intOf]; omega
        | false =>
          have fc : ∀ W, Calls Try.prog 26 #[.int .i64 x, .int .i64 y] W fun e w' => e = .returned (.bool false) ∧ w' = W := fun W => by have := FC.out W; rwa [hp] at this
          have FD := Lib.hid fc
          have E := Lib.hid (prB_no (p := sm) (b := b) hlt (by rw [GX.out, GY.out]; exact hp))
          clear fc FC hp
          go_wp2_with fail
          go_quiet ((go_at_call 26; exact Calls.quiet_of_same (FD.out _)))
          go_wp2_with fail
          go_ret
          exact ⟨ret_bool E.out.symm, below_drewN HBl.out _⟩
      · obtain rfl : k = a.length := by omega
        have E := Lib.hid (prB_yes HS.out HF.out)
        go_wp2_with fail
        go_ret
        exact ⟨ret_bool E.out.symm, HBl.out⟩
  · have d0 : ((a.length : Int) != (b.length : Int)) = true := by simp; omega
    have E := Lib.hid (prB_len (p := sm) hl)
    clear hl
    go_enter Try.func25, Try.ntmps25
    go_wp2_with fail
    go_ret
    exact ⟨ret_bool E.out.symm, Below.refl _ _⟩

theorem noLess_c (a b : Int) (w : World) : Calls Try.prog 27 #[.int .i64 a, .int .i64 b] w fun e w' => e = .returned (.bool (nl a b)) ∧ w' = w := by
  go_enter Try.func27, Try.ntmps27
  go_wp2
  all_goals
    go_ret
    exact ⟨rfl, rfl⟩

set_option maxHeartbeats 1000000 in
theorem pairs_nl (A B : Option Addr) (ca cb : Nat) (a b : List Int) (w : World) (ha : a.length ≤ 9223372036854775807) (hA : Lk.IntsAt w .i64 A a) (hB : Lk.IntsAt w .i64 B b) :
    Calls Try.prog 25 #[.slice A a.length ca, .slice B b.length cb, .func (.func 27) #[] #[]] w fun e w' => e = .returned (.bool (prB nl a b)) ∧ Below w.heap.size w w' := by
  have HA := Lib.hid hA
  have HB := Lib.hid hB
  clear hA hB
  by_cases hl : a.length = b.length
  · have HS := Lib.hid hl
    have d0 : ((a.length : Int) != (b.length : Int)) = false := by simp [hl]
    clear hl
    go_enter Try.func25, Try.ntmps25
    go_wp2_with fail
    go_loopw [15] (fun i wr => ∃ k : Nat, k ≤ a.length ∧ i = .int .i64 k ∧ PrTo nl a b k ∧ Below w.heap.size w wr) (fun i _ => a.length - (intOf i).toNat)
    case atStart => exact ⟨0, Nat.zero_le _, rfl, (fun j hj => by omega), Below.refl _ _⟩
    case round =>
      obtain ⟨k, hk, rfl, hF, hb⟩ := hrel
      have HF := Lib.hid hF
      have HBl := Lib.hid hb
      clear hF hb
      by_cases hlt : k < a.length
      · have hlt2 : k < b.length := by rw [← HS.out]; exact hlt
        obtain ⟨b1, o1, rfl, c1⟩ := cellG (HA.out.below HBl.out) hlt
        obtain ⟨b2, o2, rfl, c2⟩ := cellG (HB.out.below HBl.out) hlt2
        generalize hx : Tb.g a k = x at c1
        generalize hy : Tb.g b k = y at c2
        have GX := Lib.hid hx
        have GY := Lib.hid hy
        clear hx hy
        have FC := Lib.hid (noLess_c x y)
        cases hp : nl x y with
        | true =>
          have fc : ∀ W, Calls Try.prog 27 #[.int .i64 x, .int .i64 y] W fun e w' => e = .returned (.bool true) ∧ w' = W := fun W => by have := FC.out W; rwa [hp] at this
          have FD := Lib.hid fc
          have HN : Hid (PrTo nl a b (k + 1)) := fun j hj => by
            by_cases e : j = k
            · rw [e, GX.out, GY.out]; exact hp
            · exact HF.out j (by omega)
          clear fc FC hp
          go_wp2_with fail
          go_quiet ((go_at_call 27; exact Calls.quiet_of_same (FD.out _)))
          go_wp2_with fail
          go_roundw
          case rel => exact ⟨k + 1, by omega, by go_num, HN.out, below_drewN HBl.out _⟩
          case measure => simp [intOf]; omega
        | false =>
          have fc : ∀ W, Calls Try.prog 27 #[.int .i64 x, .int .i64 y] W fun e w' => e = .returned (.bool false) ∧ w' = W := fun W => by have := FC.out W; rwa [hp] at this
          have FD := Lib.hid fc
          have E := Lib.hid (prB_no (p := nl) (b := b) hlt (by rw [GX.out, GY.out]; exact hp))
          clear fc FC hp
          go_wp2_with fail
          go_quiet ((go_at_call 27; exact Calls.quiet_of_same (FD.out _)))
          go_wp2_with fail
          go_ret
          exact ⟨ret_bool E.out.symm, below_drewN HBl.out _⟩
      · obtain rfl : k = a.length := by omega
        have E := Lib.hid (prB_yes HS.out HF.out)
        go_wp2_with fail
        go_ret
        exact ⟨ret_bool E.out.symm, HBl.out⟩
  · have d0 : ((a.length : Int) != (b.length : Int)) = true := by simp; omega
    have E := Lib.hid (prB_len (p := nl) hl)
    clear hl
    go_enter Try.func25, Try.ntmps25
    go_wp2_with fail
    go_ret
    exact ⟨ret_bool E.out.symm, Below.refl _ _⟩

end GridC
end Go.Proofs.Ythjefnkgfmkijaa
