/- Plain arithmetic of engines: what the functions of package synth, and the document's answers beside them, come to. No program is named here. -/
import Derived.Test.YtioiffhbbhlgeaaTabMath
namespace Em

/-- An engine: four tables, each of places and values (f: fuel, p: N2, q: N1, h: heat), and eight numbers. -/
structure En where
  fx : List Int
  fy : List Int
  px : List Int
  py : List Int
  qx : List Int
  qy : List Int
  hx : List Int
  hy : List Int
  lag2 : Int
  lag1 : Int
  lagE : Int
  slew : Int
  starter : Int
  light : Int
  lean : Int
  disturb : Int

def within (n a b : Int) : Bool := decide (a ≤ n) && decide (n ≤ b)
def tabs (e : En) : Bool := Tb.rsB e.fx e.fy && Tb.rsB e.px e.py && Tb.rsB e.qx e.qy && Tb.rsB e.hx e.hy
def lags (e : En) : Bool := within e.lag2 1 64 && within e.lag1 1 64 && within e.lagE 1 64
def nums (e : En) : Bool := within e.slew 1 1048576 && within e.starter 0 1048576 && within e.light 0 1048576 && within e.lean 0 1048576 && within e.disturb 0 1048576
def rest3 (e : En) : Bool := decide (e.light ≤ e.starter) && decide (1 ≤ e.lean) && decide (e.lean ≤ Tb.g e.fy 0)
def okB (e : En) : Bool := tabs e && lags e && nums e && rest3 e
def err (e : En) : Int := if okB e = true then 0 else 100

/-- A table that rises. -/
structure Ri (xs ys : List Int) : Prop where
  ok : Tb.Ok xs ys
  up : Tb.riB ys = true
theorem ri_iff (xs ys : List Int) : Tb.rsB xs ys = true ↔ Ri xs ys := by
  simp only [Tb.rsB, Bool.and_eq_true, Tb.ok_iff]
  exact ⟨fun h => ⟨h.1, h.2⟩, fun h => ⟨h.ok, h.up⟩⟩

structure Ok (e : En) : Prop where
  f : Ri e.fx e.fy
  p : Ri e.px e.py
  q : Ri e.qx e.qy
  h : Ri e.hx e.hy
theorem ok_of {e : En} (h : okB e = true) : Ok e := by
  simp only [okB, tabs, Bool.and_eq_true, ri_iff] at h
  obtain ⟨⟨⟨⟨⟨⟨a, b⟩, c⟩, d⟩, _⟩, _⟩, _⟩ := h
  exact ⟨a, b, c, d⟩

/-- What an engine comes to. -/
def n2 (e : En) (f : Int) : Int := Tb.atO e.px e.py f
def n1 (e : En) (f : Int) : Int := Tb.atO e.qx e.qy (n2 e f)
def ht (e : En) (f : Int) : Int := Tb.atO e.hx e.hy f
def r2 (e : En) (f : Int) : Int := if okB e = true then n2 e f else 0
def r1 (e : En) (f : Int) : Int := if okB e = true then n1 e f else 0
def rh (e : En) (f : Int) : Int := if okB e = true then ht e f else 0
/-- What each signal should be, by the others. -/
def md (e : En) (v : Nat → Int) : Nat → Int
  | 0 => Tb.atO e.qx e.qy (v 1)
  | 1 => Tb.bkO e.qx e.qy (v 0)
  | 2 => Tb.atO e.hx e.hy (v 4)
  | 3 => v 3
  | 4 => Tb.bkO e.px e.py (v 1)
  | _ => 0
def model (e : En) (v : Nat → Int) (k : Nat) : Int := if okB e = true then md e v k else 0

/-! ### what follows -/

section
variable {e : En}
theorem n2_mono (h : Ok e) {a b : Int} (hab : a ≤ b) : n2 e a ≤ n2 e b := Tb.at_mono h.p.ok h.p.up hab
theorem n1_mono (h : Ok e) {a b : Int} (hab : a ≤ b) : n1 e a ≤ n1 e b := Tb.at_mono h.q.ok h.q.up (n2_mono h hab)
theorem ht_mono (h : Ok e) {a b : Int} (hab : a ≤ b) : ht e a ≤ ht e b := Tb.at_mono h.h.ok h.h.up hab
theorem n2_pk (h : Ok e) (a : Int) : n2 e a ≤ Tb.mx e.py := Tb.at_le_mx h.p.ok a
theorem n1_pk (h : Ok e) (a : Int) : n1 e a ≤ Tb.mx e.qy := Tb.at_le_mx h.q.ok _
theorem ht_pk (h : Ok e) (a : Int) : ht e a ≤ Tb.mx e.hy := Tb.at_le_mx h.h.ok a
theorem n2_bd (h : Ok e) (a : Int) : 0 ≤ n2 e a ∧ n2 e a ≤ 1048576 := Tb.at_bd h.p.ok a
theorem n1_bd (h : Ok e) (a : Int) : 0 ≤ n1 e a ∧ n1 e a ≤ 1048576 := Tb.at_bd h.q.ok _
theorem ht_bd (h : Ok e) (a : Int) : 0 ≤ ht e a ∧ ht e a ≤ 1048576 := Tb.at_bd h.h.ok a
theorem bk_bd {xs ys : List Int} (h : Tb.Ok xs ys) (y : Int) : 0 ≤ Tb.bkO xs ys y ∧ Tb.bkO xs ys y ≤ 1048576 := by
  have h2 := h.two
  obtain ⟨a, b, _, _⟩ := Tb.bk_spec h y
  have := (h.xb 0 (by omega)).1
  have := (h.xb (xs.length - 1) (by omega)).2
  omega

/-- The fuel that brings so much is no more than what brought it. -/
theorem bk_le {xs ys : List Int} (h : Tb.Ok xs ys) {f : Int} (h0 : Tb.g xs 0 ≤ f) : Tb.bkO xs ys (Tb.atO xs ys f) ≤ f := by
  obtain ⟨_, _, c, _⟩ := Tb.bk_spec h (Tb.atO xs ys f)
  rcases Int.lt_or_le f (Tb.bkO xs ys (Tb.atO xs ys f)) with e | e
  · have := c f h0 e; omega
  · exact e
theorem bk_le_max {xs ys : List Int} (h : Tb.Ok xs ys) (f : Int) : Tb.bkO xs ys (Tb.atO xs ys f) ≤ max f (Tb.g xs 0) := by
  rcases Int.le_total (Tb.g xs 0) f with e | e
  · have := bk_le h e; omega
  · rw [Tb.at_lo h e, Tb.bk_first h (Int.le_refl _)]; omega
/-- What it brings is what was brought. -/
theorem at_bk {xs ys : List Int} (h : Ri xs ys) {f : Int} (h0 : Tb.g xs 0 ≤ f) : Tb.atO xs ys (Tb.bkO xs ys (Tb.atO xs ys f)) = Tb.atO xs ys f := by
  have a := Tb.at_mono h.ok h.up (bk_le h.ok h0)
  rcases Tb.bk_enough h.ok (Tb.atO xs ys f) with b | ⟨_, b⟩
  · omega
  · have := Tb.at_le_mx h.ok f; omega

/-- Caps: beyond the last places of both, and ahead of the first ones. -/
theorem n2_hi (h : Ok e) {a b : Int} (ha : Tb.g e.px (e.px.length - 1) ≤ a) (hab : a ≤ b) : n2 e b = n2 e a := by
  unfold n2; rw [Tb.at_hi h.p.ok ha, Tb.at_hi h.p.ok (by omega)]
theorem ht_hi (h : Ok e) {a b : Int} (ha : Tb.g e.hx (e.hx.length - 1) ≤ a) (hab : a ≤ b) : ht e b = ht e a := by
  unfold ht; rw [Tb.at_hi h.h.ok ha, Tb.at_hi h.h.ok (by omega)]
theorem n2_lo (h : Ok e) {a b : Int} (ha : a ≤ Tb.g e.px 0) (hab : b ≤ a) : n2 e b = n2 e a := by
  unfold n2; rw [Tb.at_lo h.p.ok ha, Tb.at_lo h.p.ok (by omega)]
theorem ht_lo (h : Ok e) {a b : Int} (ha : a ≤ Tb.g e.hx 0) (hab : b ≤ a) : ht e b = ht e a := by
  unfold ht; rw [Tb.at_lo h.h.ok ha, Tb.at_lo h.h.ok (by omega)]
theorem n1_of {a b : Int} (h : n2 e a = n2 e b) : n1 e a = n1 e b := by unfold n1; rw [h]
end

end Em
