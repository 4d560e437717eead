/- Plain arithmetic of picking: which of two values is taken, and whom it is from. No program is named here. -/
import Derived.Test.YtcbnfpnlkjkgaaaFixMath
namespace Pc

/-- How much two numbers differ. -/
def ap (a b : Int) : Int := if a < b then b - a else a - b
theorem ap_comm (a b : Int) : ap a b = ap b a := by unfold ap; (repeat' split) <;> omega
theorem ap_nn (a b : Int) : 0 ≤ ap a b := by unfold ap; split <;> omega
theorem ap_self (a : Int) : ap a a = 0 := by unfold ap; split <;> omega
theorem ap_mm (a b : Int) : max a b - min a b = ap a b := by unfold ap; split <;> omega
/-- Of two good ones. -/
def both (x y m n : Int) : Int × Int := if ap x y ≤ n then ((x + y) / 2, 3) else if ap y m < ap x m then (y, 2) else (x, 1)
def pick (a b : Int) (ga gb : Bool) (m n : Int) : Int × Int :=
  match ga, gb with
  | true, true => both (Fx.sat a) (Fx.sat b) (Fx.sat m) (max (Fx.sat n) 0)
  | true, false => (Fx.sat a, 1)
  | false, true => (Fx.sat b, 2)
  | false, false => (Fx.sat m, 0)
theorem both_near {x y m n : Int} (h : ap x y ≤ n) : both x y m n = ((x + y) / 2, 3) := if_pos h
theorem both_two {x y m n : Int} (h : ¬ ap x y ≤ n) (g : ap y m < ap x m) : both x y m n = (y, 2) := by unfold both; rw [if_neg h, if_pos g]
theorem both_one {x y m n : Int} (h : ¬ ap x y ≤ n) (g : ¬ ap y m < ap x m) : both x y m n = (x, 1) := by unfold both; rw [if_neg h, if_neg g]
theorem both_cases (x y m n : Int) : (ap x y ≤ n ∧ both x y m n = ((x + y) / 2, 3)) ∨ (¬ ap x y ≤ n ∧ ap y m < ap x m ∧ both x y m n = (y, 2)) ∨ (¬ ap x y ≤ n ∧ ¬ ap y m < ap x m ∧ both x y m n = (x, 1)) := by
  by_cases h : ap x y ≤ n
  · exact .inl ⟨h, both_near h⟩
  · by_cases g : ap y m < ap x m
    · exact .inr (.inl ⟨h, g, both_two h g⟩)
    · exact .inr (.inr ⟨h, g, both_one h g⟩)
/-- What is taken is between them. -/
theorem both_in (x y m n : Int) : min x y ≤ (both x y m n).1 ∧ (both x y m n).1 ≤ max x y := by
  rcases both_cases x y m n with ⟨_, e⟩ | ⟨_, _, e⟩ | ⟨_, _, e⟩ <;> rw [e] <;> constructor <;> simp only <;> omega
theorem both_far {x y m n : Int} (h : n < ap x y) : (both x y m n).1 = x ∨ (both x y m n).1 = y := by
  rcases both_cases x y m n with ⟨g, _⟩ | ⟨_, _, e⟩ | ⟨_, _, e⟩
  · omega
  · rw [e]; exact .inr rfl
  · rw [e]; exact .inl rfl
theorem both_src (x y m n : Int) : (both x y m n).2 ≠ 3 ↔ n < ap x y := by
  rcases both_cases x y m n with ⟨g, e⟩ | ⟨g, _, e⟩ | ⟨g, _, e⟩ <;> rw [e]
  · exact ⟨fun h => absurd rfl h, fun h => by omega⟩
  · exact ⟨fun _ => by omega, fun _ => (by decide : (2 : Int) ≠ 3)⟩
  · exact ⟨fun _ => by omega, fun _ => (by decide : (1 : Int) ≠ 3)⟩
/-- One that is the model's own is taken. -/
theorem both_lies {x y n : Int} (h : n < ap x y) : (both x y x n).1 = x := by
  rw [both_one (by omega) (by rw [ap_self]; have := ap_nn y x; omega)]
/-- Turned about. -/
theorem both_turn {x y m n : Int} (h : ¬ (ap x m = ap y m ∧ n < ap x y)) :
    (both y x m n).1 = (both x y m n).1 ∧ (both y x m n).2 = (if (both x y m n).2 = 1 then 2 else if (both x y m n).2 = 2 then 1 else (both x y m n).2) := by
  have hc := ap_comm x y
  rcases both_cases x y m n with ⟨g, e⟩ | ⟨g, k, e⟩ | ⟨g, k, e⟩
  · rw [e, both_near (by omega : ap y x ≤ n), Int.add_comm y x]
    exact ⟨rfl, rfl⟩
  · rw [e, both_one (by omega : ¬ ap y x ≤ n) (by omega)]
    exact ⟨rfl, rfl⟩
  · rw [e, both_two (by omega : ¬ ap y x ≤ n) (by omega)]
    exact ⟨rfl, rfl⟩
/-- The mean, as the document's answer finds it. -/
theorem mean_odd {p : Int} (h : p.tmod 2 ≠ 0) : (p - 1).tdiv 2 = p / 2 := Fx.half_odd p h
theorem mean_even {p : Int} (h : p.tmod 2 = 0) : p.tdiv 2 = p / 2 := Fx.half_even p h
end Pc
