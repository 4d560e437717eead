/- Laws as three tables' lists and six numbers; what is asked, allowed, and where a valve goes. No program is named here. -/
import Derived.Test.YtjhgcbkdghcgmaaSynthMath
import Derived.Test.YtjhgcbkdghcgmaaFixMath
namespace Sd
open Tb Em

structure Ls where
  ax : List Int
  ay : List Int
  dx : List Int
  dy : List Int
  sx : List Int
  sy : List Int
  red1 : Int
  red2 : Int
  redE : Int
  margin : Int
  idle : Int
  patience : Int
def tabs (l : Ls) : Bool := rsB l.ax l.ay && rsB l.dx l.dy && rsB l.sx l.sy
def nums (l : Ls) : Bool := within l.margin 1 1048576 && within l.idle 1 1048576 && within l.patience 1 10000
def reds (l : Ls) : Bool := within l.red1 l.margin 1048576 && within l.red2 l.margin 1048576 && within l.redE l.margin 1048576
def okB (l : Ls) : Bool := tabs l && nums l && reds l
def err (l : Ls) : Int := if okB l = true then 0 else 140
def ask (e : En) (lever : Int) : Int := if Em.okB e = true then atv e.fx e.fy (Fx.clamp lever 0 1000) else 0
def alw (l : Ls) (n2 fuel : Int) : Int := Fx.clamp fuel (atv l.dx l.dy n2) (atv l.ax l.ay n2)
def allow (l : Ls) (n2 fuel : Int) : Int := if okB l = true then alw l n2 fuel else 0
def next (e : En) (l : Ls) (n2 valve fuel : Int) : Int := if (Em.okB e && okB l) = true then Fx.slew valve (alw l n2 fuel) e.slew else 0

structure Ok (l : Ls) : Prop where
  a : Ri l.ax l.ay
  d : Ri l.dx l.dy
  s : Ri l.sx l.sy
  margin : 1 ≤ l.margin ∧ l.margin ≤ 1048576
  idle : 1 ≤ l.idle ∧ l.idle ≤ 1048576
  patience : 1 ≤ l.patience ∧ l.patience ≤ 10000
  red1 : l.margin ≤ l.red1 ∧ l.red1 ≤ 1048576
  red2 : l.margin ≤ l.red2 ∧ l.red2 ≤ 1048576
  redE : l.margin ≤ l.redE ∧ l.redE ≤ 1048576
theorem ok_of {l : Ls} (h : okB l = true) : Ok l := by
  simp only [okB, tabs, nums, reds, Bool.and_eq_true, ri_iff, within, decide_eq_true_eq] at h
  obtain ⟨⟨⟨⟨a, b⟩, c⟩, ⟨⟨d, e⟩, f⟩⟩, ⟨⟨g, h⟩, i⟩⟩ := h
  exact ⟨a, b, c, d, e, f, g, h, i⟩
/-- A table that may be has fixed numbers. -/
theorem atv_ri {xs ys : List Int} (h : Ri xs ys) (x : Int) : atv xs ys x = atO xs ys x := by
  rw [atv, if_pos ((ok_iff _ _).2 h.ok)]
theorem atv_bd {xs ys : List Int} (h : Ri xs ys) (x : Int) : 0 ≤ atv xs ys x ∧ atv xs ys x ≤ 1048576 := by
  rw [atv_ri h]; exact at_bd h.ok x
theorem atv_mono {xs ys : List Int} (h : Ri xs ys) {a b : Int} (hab : a ≤ b) : atv xs ys a ≤ atv xs ys b := by
  rw [atv_ri h, atv_ri h]; exact at_mono h.ok h.up hab

theorem alw_eq {l : Ls} (h : Ok l) (n f : Int) : alw l n f = if atv l.ax l.ay n < atv l.dx l.dy n then atv l.dx l.dy n else if f < atv l.dx l.dy n then atv l.dx l.dy n else if atv l.ax l.ay n < f then atv l.ax l.ay n else f := by
  have h1 := atv_bd h.d n
  have h2 := atv_bd h.a n
  unfold alw Fx.clamp
  rw [Fx.sat_id (atv l.dx l.dy n) (by omega) (by omega), Fx.sat_id (atv l.ax l.ay n) (by omega) (by omega)]
  unfold Fx.bound Fx.sat
  (repeat' split) <;> omega
theorem alw_bd {l : Ls} (h : Ok l) (n f : Int) : 0 ≤ alw l n f ∧ alw l n f ≤ 1048576 := by
  have h1 := atv_bd h.d n
  have h2 := atv_bd h.a n
  rw [alw_eq h]
  (repeat' split) <;> omega
theorem alw_in {l : Ls} (h : Ok l) (n f : Int) (hc : ¬ atv l.ax l.ay n < atv l.dx l.dy n) : atv l.dx l.dy n ≤ alw l n f ∧ alw l n f ≤ atv l.ax l.ay n := by
  rw [alw_eq h, if_neg hc]
  (repeat' split) <;> omega
theorem alw_fuel {l : Ls} (h : Ok l) (n : Int) {a b : Int} (hab : a ≤ b) : alw l n a ≤ alw l n b := by
  rw [alw_eq h, alw_eq h]
  (repeat' split) <;> omega
theorem alw_n2 {l : Ls} (h : Ok l) {n m : Int} (hnm : n ≤ m) (f : Int) (hc : ¬ atv l.ax l.ay n < atv l.dx l.dy n) (hc' : ¬ atv l.ax l.ay m < atv l.dx l.dy m) : alw l n f ≤ alw l m f := by
  have h1 := atv_mono h.d hnm
  have h2 := atv_mono h.a hnm
  rw [alw_eq h, alw_eq h, if_neg hc, if_neg hc']
  (repeat' split) <;> omega
theorem allow_fuel (l : Ls) (n : Int) {a b : Int} (hab : a ≤ b) : allow l n a ≤ allow l n b := by
  unfold allow
  split
  · rename_i h; exact alw_fuel (ok_of h) n hab
  · exact Int.le_refl _
theorem ask_mono (e : En) {a b : Int} (hab : a ≤ b) : ask e a ≤ ask e b := by
  unfold ask
  split
  · rename_i h
    refine atv_mono (Em.ok_of h).f ?_
    unfold Fx.clamp Fx.bound
    have := Fx.sat_mono hab
    (repeat' split) <;> omega
  · exact Int.le_refl _

/-- One frame of a valve, of numbers in their ends. -/
theorem slew_is {v a s : Int} (hv : 0 ≤ v ∧ v ≤ 1048576) (ha : 0 ≤ a ∧ a ≤ 1048576) (hs : 1 ≤ s ∧ s ≤ 1048576) : Fx.slew v a s = if s < a - v then v + s else if s < v - a then v - s else a := by
  split
  · exact Fx.slew_up (by omega) (by omega) (by omega) (by omega)
  · split
    · exact Fx.slew_down (by omega) (by omega) (by omega) (by omega)
    · exact Fx.slew_there (by omega) (by omega) (by omega) (by omega) (by omega)
end Sd
