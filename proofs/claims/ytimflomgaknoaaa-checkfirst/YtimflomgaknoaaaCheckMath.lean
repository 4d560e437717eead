/- Plain arithmetic of checks: whether limits may be, whether a value is wrong, how a signal is behind it. No program is named here. -/
import Derived.Test.YtimflomgaknoaaaFixMath
namespace Ck

structure Lm where
  (lo hi ra st ba fi : Int)
structure Wa where
  (la sm wr ri : Int)
  (lost begun : Bool)
def Ok (l : Lm) : Prop := (-2147483648 ≤ l.lo ∧ l.lo ≤ 2147483647) ∧ (l.lo ≤ l.hi ∧ l.hi ≤ 2147483647) ∧ (0 ≤ l.ra ∧ l.ra ≤ 2147483647) ∧ (0 ≤ l.st ∧ l.st ≤ 2147483647) ∧ (1 ≤ l.ba ∧ l.ba ≤ 1000) ∧ (1 ≤ l.fi ∧ l.fi ≤ 1000)
instance (l : Lm) : Decidable (Ok l) := by unfold Ok; infer_instance
def err (l : Lm) : Int := if Ok l then 0 else 1
theorem err_ok {l : Lm} (h : Ok l) : err l = 0 := if_pos h
theorem err_no {l : Lm} (h : ¬ Ok l) : err l = 1 := if_neg h

def next (n : Int) : Int := if n < 0 then 1 else if 1073741824 ≤ n then 1073741824 else n + 1
def cnt (n : Int) (so : Bool) : Int := if so then next n else 0
theorem clamp_next (n : Int) : Fx.clamp n 0 1073741823 + 1 = next n := by
  unfold Fx.clamp Fx.bound Fx.sat next
  (repeat' split) <;> omega
theorem next_in (n : Int) : 1 ≤ next n ∧ next n ≤ 1073741824 := by unfold next; (repeat' split) <;> omega
theorem cnt_in (n : Int) (so : Bool) : 0 ≤ cnt n so ∧ cnt n so ≤ 1073741824 := by
  have := next_in n
  unfold cnt
  split <;> omega
theorem cnt_t (n : Int) : cnt n true = next n := rfl
theorem cnt_f (n : Int) : cnt n false = 0 := rfl

def so (w : Wa) (v : Int) : Bool := w.begun && (w.la == Fx.sat v)
def same (w : Wa) (v : Int) : Int := cnt w.sm (so w v)
def Wrong (l : Lm) (w : Wa) (v : Int) : Prop :=
  ¬ Ok l ∨ v < l.lo ∨ l.hi < v ∨ (w.begun = true ∧ (l.ra < Fx.sub v w.la ∨ Fx.sub v w.la < -l.ra)) ∨ (l.st ≠ 0 ∧ l.st ≤ same w v)
instance (l : Lm) (w : Wa) (v : Int) : Decidable (Wrong l w v) := by unfold Wrong; infer_instance
def wrong (l : Lm) (w : Wa) (v : Int) : Bool := decide (Wrong l w v)
theorem wrong_t {l : Lm} {w : Wa} {v : Int} (h : Wrong l w v) : wrong l w v = true := decide_eq_true h
theorem wrong_f {l : Lm} {w : Wa} {v : Int} (h : ¬ Wrong l w v) : wrong l w v = false := decide_eq_false h

/-- How a signal is behind a value that is wrong, or right. -/
def lost (l : Lm) (w : Wa) (b : Bool) : Bool := if l.fi ≤ cnt w.ri (!b) then false else if l.ba ≤ cnt w.wr b then true else w.lost
def go (l : Lm) (w : Wa) (v : Int) (b : Bool) : Wa := ⟨Fx.sat v, same w v, cnt w.wr b, cnt w.ri (!b), lost l w b, true⟩
def step (l : Lm) (w : Wa) (v : Int) : Wa := if Ok l then go l w v (wrong l w v) else w
def good (l : Lm) (w : Wa) (v : Int) : Bool := decide (Ok l) && !wrong l w v && !(step l w v).lost
theorem step_ok {l : Lm} {w : Wa} {v : Int} {b : Bool} (h : Ok l) (e : wrong l w v = b) : step l w v = go l w v b := by unfold step; rw [if_pos h, e]
theorem step_no {l : Lm} {w : Wa} {v : Int} (h : ¬ Ok l) : step l w v = w := if_neg h
theorem good_no {l : Lm} {w : Wa} {v : Int} (h : ¬ Ok l) : good l w v = false := by unfold good; simp [h]
theorem good_ok {l : Lm} {w : Wa} {v : Int} {b : Bool} (h : Ok l) (e : wrong l w v = b) : good l w v = (!b && !lost l w b) := by
  unfold good; rw [step_ok h e, e]; simp [h, go]
theorem good_w {l : Lm} {w : Wa} {v : Int} (h : Ok l) (e : wrong l w v = true) : good l w v = false := by rw [good_ok h e]; rfl
theorem good_r {l : Lm} {w : Wa} {v : Int} (h : Ok l) (e : wrong l w v = false) : good l w v = !lost l w false := by rw [good_ok h e]; rfl

/-- The counter of Fine stays below Fine where a value is wrong, and so on. -/
theorem lost_w {l : Lm} {w : Wa} (h : Ok l) : lost l w true = if l.ba ≤ next w.wr then true else w.lost := by
  have : ¬ l.fi ≤ cnt w.ri (!true) := by show ¬ l.fi ≤ (0 : Int); have := h.2.2.2.2.2.1; omega
  unfold lost; rw [if_neg this, cnt_t]
theorem lost_r {l : Lm} {w : Wa} (h : Ok l) : lost l w false = if l.fi ≤ next w.ri then false else w.lost := by
  have : ¬ l.ba ≤ cnt w.wr false := by show ¬ l.ba ≤ (0 : Int); have := h.2.2.2.2.1.1; omega
  unfold lost; rw [if_neg this]; rfl

/-- Values, one behind the other. -/
def zero : Wa := ⟨0, 0, 0, 0, false, false⟩
def runs (l : Lm) (w : Wa) (vs : List Int) : Wa := vs.foldl (step l) w
def plays (l : Lm) : Wa → List Int → List Bool
  | _, [] => []
  | w, v :: vs => good l w v :: plays l (step l w v) vs
theorem plays_len (l : Lm) (w : Wa) (vs : List Int) : (plays l w vs).length = vs.length := by
  induction vs generalizing w with
  | nil => rfl
  | cons v vs ih => simp [plays, ih]
theorem runs_snoc (l : Lm) (w : Wa) (vs : List Int) (v : Int) : runs l w (vs ++ [v]) = step l (runs l w vs) v := by simp [runs]
theorem plays_snoc (l : Lm) (w : Wa) (vs : List Int) (v : Int) : plays l w (vs ++ [v]) = plays l w vs ++ [good l (runs l w vs) v] := by
  induction vs generalizing w with
  | nil => rfl
  | cons x vs ih => simp only [List.cons_append, plays, ih]; rfl
theorem take_snoc {vs : List Int} {m : Nat} (h : m < vs.length) : vs.take (m + 1) = vs.take m ++ [vs.getD m 0] := by
  rw [List.take_succ_eq_append_getElem h]; simp [List.getD_eq_getElem?_getD, h]
theorem runs_take (l : Lm) (w : Wa) {vs : List Int} {m : Nat} (h : m < vs.length) : runs l w (vs.take (m + 1)) = step l (runs l w (vs.take m)) (vs.getD m 0) := by
  rw [take_snoc h, runs_snoc]
theorem plays_take (l : Lm) (w : Wa) {vs : List Int} {m : Nat} (h : m < vs.length) : plays l w (vs.take (m + 1)) = plays l w (vs.take m) ++ [good l (runs l w (vs.take m)) (vs.getD m 0)] := by
  rw [take_snoc h, plays_snoc]
end Ck
