/- Who holds the valve, as plain functions. No program is named here. -/
import Derived.Lib.Hide
namespace Av

/-- Who holds it behind a frame: of who held it, which are well, and the pilot's reversion. -/
def nx (h : Int) (a b r : Bool) : Int := if r || (!a && !b) then 2 else if h = 0 ∧ a = true then 0 else if h = 1 ∧ b = true then 1 else if a then 0 else 1
/-- The channels in the order in which they are asked. -/
def ask (h : Int) : List Int := if h = 1 then [1, 0, 1] else [0, 1]
/-- Whether a channel may hold it. -/
def fits (a b r : Bool) (x : Int) : Bool := !r && (if x = 0 then a else b)

theorem ask_one : ask 1 = [1, 0, 1] := rfl
theorem ask_no {h : Int} (e : (h == 1) = false) : ask h = [0, 1] := if_neg (by simpa using e)
theorem ask_len (h : Int) : (ask h).length ≤ 3 := by unfold ask; split <;> decide
theorem none_fits {h : Int} {a b r : Bool} (k : ∀ x ∈ ask h, fits a b r x = false) : nx h a b r = 2 := by
  have h0 : fits a b r 0 = false := k 0 (by unfold ask; split <;> decide)
  have h1 : fits a b r 1 = false := k 1 (by unfold ask; split <;> decide)
  revert h0 h1
  unfold nx
  cases a <;> cases b <;> cases r <;> simp [fits]
/-- The first that may. -/
theorem first_fits {h : Int} {a b r : Bool} {p q : List Int} {x : Int} (hp : p <+: ask h) (e : p = q ++ [x]) (k : ∀ y ∈ q, fits a b r y = false) (hx : fits a b r x = true) : nx h a b r = x := by
  subst e
  obtain ⟨t, ht⟩ := hp
  have key : ∀ l : List Int, ask h = l → l = q ++ [x] ++ t → nx h a b r = x := by
    intro l hl e
    unfold ask at hl
    split at hl
    case isTrue h1 =>
      subst h1 hl
      match q, k, e with
      | [], k, e =>
        obtain ⟨rfl, _⟩ : 1 = x ∧ _ := by simpa using e
        revert hx
        cases a <;> cases b <;> cases r <;> simp [fits, nx]
      | [y], k, e =>
        simp only [List.cons_append, List.nil_append, List.cons.injEq] at e
        obtain ⟨rfl, rfl, _⟩ := e
        have := k 1 (by simp)
        revert hx this
        cases a <;> cases b <;> cases r <;> simp [fits, nx]
      | [y, z], k, e =>
        simp only [List.cons_append, List.nil_append, List.cons.injEq] at e
        obtain ⟨rfl, rfl, rfl, _⟩ := e
        have := k 1 (by simp)
        rw [this] at hx
        cases hx
      | y :: z :: u :: v, k, e => simp at e
    case isFalse h1 =>
      subst hl
      match q, k, e with
      | [], k, e =>
        obtain ⟨rfl, _⟩ : 0 = x ∧ _ := by simpa using e
        revert hx
        cases a <;> cases b <;> cases r <;> simp [fits, nx, h1]
      | [y], k, e =>
        simp only [List.cons_append, List.nil_append, List.cons.injEq] at e
        obtain ⟨rfl, rfl, _⟩ := e
        have := k 0 (by simp)
        revert hx this
        cases a <;> cases b <;> cases r <;> simp [fits, nx, h1]
      | y :: z :: u, k, e => simp at e
  exact key _ rfl ht.symm

theorem nx_in (h : Int) (a b r : Bool) : nx h a b r = 0 ∨ nx h a b r = 1 ∨ nx h a b r = 2 := by
  unfold nx
  (repeat' split) <;> simp

/-- The holder behind the first m of frames. -/
def hold (h : Int) (W : List (Bool × Bool)) (R : List Bool) : Nat → Int
  | 0 => h
  | m + 1 => nx (hold h W R m) (W.getD m (false, false)).1 (W.getD m (false, false)).2 (R.getD m false)
/-- The holders behind the first m of frames. -/
def way (h : Int) (W : List (Bool × Bool)) (R : List Bool) : Nat → List Int
  | 0 => []
  | m + 1 => way h W R m ++ [hold h W R (m + 1)]
theorem way_len (h : Int) (W : List (Bool × Bool)) (R : List Bool) : ∀ m, (way h W R m).length = m
  | 0 => rfl
  | m + 1 => by simp [way, way_len h W R m]
theorem way_at (h : Int) (W : List (Bool × Bool)) (R : List Bool) : ∀ {n m : Nat}, m < n → (way h W R n)[m]? = some (hold h W R (m + 1))
  | 0, m, hm => by omega
  | n + 1, m, hm => by
    have hl := way_len h W R n
    by_cases e : m < n
    · rw [way, List.getElem?_append_left (by omega)]
      exact way_at h W R e
    · obtain rfl : m = n := by omega
      rw [way, List.getElem?_append_right (by omega), hl]
      simp
end Av
