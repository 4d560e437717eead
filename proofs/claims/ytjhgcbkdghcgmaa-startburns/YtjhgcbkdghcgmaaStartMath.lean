/- The fuel to start with, and when a start goes on, as plain functions. No program is named here. -/
import Derived.Test.YtjhgcbkdghcgmaaScheduleMath
namespace Sb

def fuel (e : Em.En) (l : Sd.Ls) (n : Int) : Int := if (Em.okB e && Sd.okB l) = true then max (Tb.atv l.sx l.sy n) e.lean else 0
def ready (e : Em.En) (n : Int) : Bool := Em.okB e && decide (e.light ≤ n)
def away (l : Sd.Ls) (lit : Bool) (n : Int) : Bool := lit && (Sd.okB l && decide (l.idle ≤ n))
def hot (l : Sd.Ls) (n : Int) : Bool := Sd.okB l && decide (l.redE ≤ n)
def hung (l : Sd.Ls) (n : Int) : Bool := Sd.okB l && decide (l.patience ≤ n)

theorem ready_more {e : Em.En} {n m : Int} (h : n ≤ m) : (!ready e n || (ready e m && decide (Em.err e = 0))) = true := by
  unfold ready Em.err
  cases Em.okB e <;> simp
  by_cases h1 : e.light ≤ n
  · right; omega
  · left; omega
theorem away_more {l : Sd.Ls} {n m : Int} (h : n ≤ m) : (!away l true n || away l true m) = true := by
  unfold away
  cases Sd.okB l <;> simp
  by_cases h1 : l.idle ≤ n
  · right; omega
  · left; omega
theorem hot_more {l : Sd.Ls} {n m : Int} (h : n ≤ m) : (!hot l n || hot l m) = true := by
  unfold hot
  cases Sd.okB l <;> simp
  by_cases h1 : l.redE ≤ n
  · right; omega
  · left; omega
theorem hung_more {l : Sd.Ls} {n m : Int} (h : n ≤ m) : (!hung l n || hung l m) = true := by
  unfold hung
  cases Sd.okB l <;> simp
  by_cases h1 : l.patience ≤ n
  · right; omega
  · left; omega
theorem fuel_mono {e : Em.En} {l : Sd.Ls} (h : Sd.okB l = true) {n m : Int} (hn : n ≤ m) : fuel e l n ≤ fuel e l m := by
  unfold fuel
  split
  · have hs := (Sd.ok_of h).s
    have := Tb.at_mono hs.ok hs.up hn
    simp only [Tb.atv, (Tb.ok_iff _ _).2 hs.ok, if_true]
    omega
  · exact Int.le_refl _
theorem fuel_lean {e : Em.En} {l : Sd.Ls} (he : Em.okB e = true) (h : Sd.okB l = true) (n : Int) : e.lean ≤ fuel e l n := by
  unfold fuel
  rw [he, h]
  simp only [Bool.and_self, if_true]
  omega

end Sb
