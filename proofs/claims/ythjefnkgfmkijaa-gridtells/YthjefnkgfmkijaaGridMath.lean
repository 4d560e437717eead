/- Plain arithmetic of grids: what the functions of package grid, and the document's answers beside them, come to. A grid is its places and, by their numbers, the lists of its tables. No program is named here. -/
import Derived.Test.YthjefnkgfmkijaaTabMath
namespace Gd
open Tb

structure Ok (zs : List Int) (n : Nat) (X Y : Nat → List Int) : Prop where
  one : 1 ≤ zs.length
  most : zs.length ≤ 8
  same : n = zs.length
  zb : ∀ k, k < zs.length → 0 ≤ g zs k ∧ g zs k ≤ 1048576
  up : ∀ k, k + 1 < zs.length → g zs k < g zs (k + 1)
  tab : ∀ k, k < zs.length → Tb.okB (X k) (Y k) = true

def okB (zs : List Int) (n : Nat) (X Y : Nat → List Int) : Bool :=
  (decide (1 ≤ zs.length) && decide (zs.length ≤ 8) && decide (n = zs.length)) && !zs.any out && upB zs && (List.range zs.length).all fun k => Tb.okB (X k) (Y k)
def err (zs : List Int) (n : Nat) (X Y : Nat → List Int) : Int := if okB zs n X Y = true then 0 else 30
theorem ok_iff (zs : List Int) (n : Nat) (X Y : Nat → List Int) : okB zs n X Y = true ↔ Ok zs n X Y := by
  simp only [okB, Bool.and_eq_true, decide_eq_true_eq, Bool.not_eq_true', any_out, upB_iff, List.all_eq_true, List.mem_range]
  constructor
  · rintro ⟨⟨⟨⟨⟨a, b⟩, c⟩, d⟩, e⟩, f⟩
    exact ⟨a, b, c, d, e, f⟩
  · rintro ⟨a, b, c, d, e, f⟩
    exact ⟨⟨⟨⟨⟨a, b⟩, c⟩, d⟩, e⟩, f⟩
theorem err_30 {zs : List Int} {n : Nat} {X Y : Nat → List Int} (h : ¬ Ok zs n X Y) : err zs n X Y = 30 := by rw [err, if_neg]; rw [ok_iff]; exact h
theorem err_0 {zs : List Int} {n : Nat} {X Y : Nat → List Int} (h : Ok zs n X Y) : err zs n X Y = 0 := by rw [err, if_pos]; rw [ok_iff]; exact h

/-- What the tables have at x, one by one. -/
def across (n : Nat) (X Y : Nat → List Int) (x : Int) : List Int := (List.range n).map fun k => Tb.atv (X k) (Y k) x
theorem across_length (n : Nat) (X Y : Nat → List Int) (x : Int) : (across n X Y x).length = n := by simp [across]
theorem across_g {n : Nat} {X Y : Nat → List Int} {x : Int} {k : Nat} (h : k < n) : g (across n X Y x) k = Tb.atv (X k) (Y k) x := by simp [g, across, h]
theorem atv_ok {xs ys : List Int} (h : Tb.okB xs ys = true) (x : Int) : Tb.atv xs ys x = Tb.atO xs ys x := by simp [Tb.atv, h]
theorem atv_bd {zs : List Int} {n : Nat} {X Y : Nat → List Int} (h : Ok zs n X Y) {k : Nat} (hk : k < zs.length) (x : Int) : 0 ≤ Tb.atv (X k) (Y k) x ∧ Tb.atv (X k) (Y k) x ≤ 1048576 := by
  rw [atv_ok (h.tab k hk)]; exact at_bd ((Tb.ok_iff _ _).1 (h.tab k hk)) x
/-- Two tables and more are a table across. -/
theorem across_ok {zs : List Int} {n : Nat} {X Y : Nat → List Int} (h : Ok zs n X Y) (h2 : 2 ≤ zs.length) (x : Int) : Tb.Ok zs (across n X Y x) := by
  have hs := h.same
  have hm := h.most
  refine ⟨h2, by omega, by rw [across_length]; exact hs, h.zb, fun k hk => ?_, h.up⟩
  rw [across_g (by omega)]; exact atv_bd h hk x

def atO (zs : List Int) (n : Nat) (X Y : Nat → List Int) (z x : Int) : Int := if n = 1 then Tb.atv (X 0) (Y 0) x else Tb.atO zs (across n X Y x) z
def atv (zs : List Int) (n : Nat) (X Y : Nat → List Int) (z x : Int) : Int := if okB zs n X Y = true then atO zs n X Y z x else 0

theorem at_lo {zs : List Int} {n : Nat} {X Y : Nat → List Int} (h : Ok zs n X Y) {z : Int} (hz : z ≤ g zs 0) (x : Int) : atO zs n X Y z x = Tb.atv (X 0) (Y 0) x := by
  have h1 := h.one
  have hs := h.same
  unfold atO
  by_cases c : n = 1
  · rw [if_pos c]
  · rw [if_neg c, Tb.at_lo (across_ok h (by omega) x) hz, across_g (by omega)]
theorem at_hi {zs : List Int} {n : Nat} {X Y : Nat → List Int} (h : Ok zs n X Y) {z : Int} (hz : g zs (zs.length - 1) ≤ z) (x : Int) : atO zs n X Y z x = Tb.atv (X (zs.length - 1)) (Y (zs.length - 1)) x := by
  have h1 := h.one
  have hs := h.same
  unfold atO
  by_cases c : n = 1
  · rw [if_pos c, show zs.length - 1 = 0 from by omega]
  · rw [if_neg c, Tb.at_hi (across_ok h (by omega) x) hz, across_g (by omega)]
theorem at_point {zs : List Int} {n : Nat} {X Y : Nat → List Int} (h : Ok zs n X Y) {k : Nat} (hk : k < zs.length) (x : Int) : atO zs n X Y (g zs k) x = Tb.atv (X k) (Y k) x := by
  have h1 := h.one
  have hs := h.same
  unfold atO
  by_cases c : n = 1
  · rw [if_pos c, show k = 0 from by omega]
  · rw [if_neg c, Tb.at_point (across_ok h (by omega) x) hk, across_g (by omega)]
def seg (zs : List Int) (X Y : Nat → List Int) (k : Nat) (z x : Int) : Int := Tb.atv (X k) (Y k) x + (z - g zs k) * (Tb.atv (X (k + 1)) (Y (k + 1)) x - Tb.atv (X k) (Y k) x) / (g zs (k + 1) - g zs k)
theorem at_seg {zs : List Int} {n : Nat} {X Y : Nat → List Int} (h : Ok zs n X Y) {k : Nat} (hk : k + 1 < zs.length) {z : Int} (h1 : g zs k ≤ z) (h2 : z ≤ g zs (k + 1)) (x : Int) : atO zs n X Y z x = seg zs X Y k z x := by
  have hs := h.same
  unfold atO
  rw [if_neg (by omega), Tb.at_seg (across_ok h (by omega) x) hk h1 h2]
  unfold Tb.seg seg
  rw [across_g (by omega), across_g (by omega)]
theorem at_between {zs : List Int} {n : Nat} {X Y : Nat → List Int} (h : Ok zs n X Y) {k : Nat} (hk : k + 1 < zs.length) {z : Int} (h1 : g zs k ≤ z) (h2 : z ≤ g zs (k + 1)) (x : Int) :
    min (Tb.atv (X k) (Y k) x) (Tb.atv (X (k + 1)) (Y (k + 1)) x) ≤ atO zs n X Y z x ∧ atO zs n X Y z x ≤ max (Tb.atv (X k) (Y k) x) (Tb.atv (X (k + 1)) (Y (k + 1)) x) := by
  have hs := h.same
  have := Tb.at_between (across_ok h (by omega) x) hk h1 h2
  rw [across_g (by omega), across_g (by omega)] at this
  unfold atO
  rw [if_neg (by omega)]
  exact this
theorem at_bd {zs : List Int} {n : Nat} {X Y : Nat → List Int} (h : Ok zs n X Y) (z x : Int) : 0 ≤ atO zs n X Y z x ∧ atO zs n X Y z x ≤ 1048576 := by
  have h1 := h.one
  have hs := h.same
  unfold atO
  by_cases c : n = 1
  · rw [if_pos c]; exact atv_bd h (by omega) x
  · rw [if_neg c]; exact Tb.at_bd (across_ok h (by omega) x) z

/-! ### grids that rise -/

/-- The same places, and nowhere less. -/
def abB (xa ya xb yb : List Int) : Bool := decide (xa.length = xb.length) && (List.range xa.length).all fun j => decide (g xa j = g xb j) && decide (g ya j ≤ g yb j)
structure Ab (xa ya xb yb : List Int) : Prop where
  len : xa.length = xb.length
  same : ∀ j, j < xa.length → g xa j = g xb j
  le : ∀ j, j < xa.length → g ya j ≤ g yb j
theorem ab_iff (xa ya xb yb : List Int) : abB xa ya xb yb = true ↔ Ab xa ya xb yb := by
  simp only [abB, Bool.and_eq_true, decide_eq_true_eq, List.all_eq_true, List.mem_range]
  exact ⟨fun ⟨a, b⟩ => ⟨a, fun j hj => (b j hj).1, fun j hj => (b j hj).2⟩, fun ⟨a, b, c⟩ => ⟨a, fun j hj => ⟨b j hj, c j hj⟩⟩⟩
theorem ab_refl (xs ys : List Int) : abB xs ys xs ys = true := (ab_iff _ _ _ _).2 ⟨rfl, fun _ _ => rfl, fun _ _ => Int.le_refl _⟩
/-- One table of a grid that rises. -/
def rowB (X Y : Nat → List Int) (k : Nat) : Bool := Tb.rsB (X k) (Y k) && (decide (k = 0) || abB (X (k - 1)) (Y (k - 1)) (X k) (Y k))
def riB (n : Nat) (X Y : Nat → List Int) : Bool := (List.range n).all (rowB X Y)
def rsB (zs : List Int) (n : Nat) (X Y : Nat → List Int) : Bool := okB zs n X Y && riB n X Y

theorem quot_mix {t w a b : Int} (hw : 0 < w) : a + t * (b - a) / w = (a * (w - t) + t * b) / w := by
  rw [show a * (w - t) + t * b = t * (b - a) + a * w from by rw [Int.mul_sub, Int.mul_sub, Int.mul_comm a t]; omega, Int.add_mul_ediv_right _ _ (by omega)]
  omega
theorem mix_le {t w a b a' b' : Int} (hw : 0 < w) (h0 : 0 ≤ t) (h1 : t ≤ w) (ha : a ≤ a') (hb : b ≤ b') : a + t * (b - a) / w ≤ a' + t * (b' - a') / w := by
  rw [quot_mix hw, quot_mix hw]
  have p : a * (w - t) ≤ a' * (w - t) := Int.mul_le_mul_of_nonneg_right ha (by omega)
  have q : t * b ≤ t * b' := Int.mul_le_mul_of_nonneg_left hb h0
  exact Int.ediv_le_ediv hw (by omega)
theorem g_ext {a b : List Int} (hl : a.length = b.length) (h : ∀ j, j < a.length → g a j = g b j) : a = b := by
  refine List.ext_getElem hl fun j h1 h2 => ?_
  have := h j h1
  simpa [g, h1, h2] using this
/-- Over the same places, with nowhere less: nowhere less. -/
theorem at_le {xs ya yb : List Int} (ha : Tb.Ok xs ya) (hb : Tb.Ok xs yb) (h : ∀ j, j < xs.length → g ya j ≤ g yb j) (x : Int) : Tb.atO xs ya x ≤ Tb.atO xs yb x := by
  have h2 := ha.two
  rcases Tb.place ha x with p | p | ⟨k, hk, p, q⟩
  · rw [Tb.at_lo ha p, Tb.at_lo hb p]; exact h 0 (by omega)
  · rw [Tb.at_hi ha p, Tb.at_hi hb p]; exact h _ (by omega)
  · rw [Tb.at_seg ha hk p (by omega), Tb.at_seg hb hk p (by omega)]
    have hu := ha.up k hk
    unfold Tb.seg
    exact mix_le (by omega) (by omega) (by omega) (h k (by omega)) (h (k + 1) hk)
theorem ab_le {xa ya xb yb : List Int} (ha : Tb.okB xa ya = true) (hb : Tb.okB xb yb = true) (h : abB xa ya xb yb = true) (x : Int) : Tb.atv xa ya x ≤ Tb.atv xb yb x := by
  rw [ab_iff] at h
  obtain rfl : xa = xb := g_ext h.len h.same
  rw [atv_ok ha, atv_ok hb]
  exact at_le ((Tb.ok_iff _ _).1 ha) ((Tb.ok_iff _ _).1 hb) h.le x
theorem row_at {n : Nat} {X Y : Nat → List Int} (h : riB n X Y = true) {k : Nat} (hk : k < n) : Tb.riB (Y k) = true ∧ (0 < k → abB (X (k - 1)) (Y (k - 1)) (X k) (Y k) = true) := by
  have := List.all_eq_true.1 h k (List.mem_range.2 hk)
  simp only [rowB, Tb.rsB, Bool.and_eq_true, Bool.or_eq_true, decide_eq_true_eq] at this
  exact ⟨this.1.2, fun h0 => this.2.resolve_left (by omega)⟩
theorem across_rises {zs : List Int} {n : Nat} {X Y : Nat → List Int} (h : Ok zs n X Y) (hr : riB n X Y = true) (x : Int) : Tb.riB (across n X Y x) = true := by
  have hs := h.same
  rw [Tb.riB_iff, across_length]
  intro k hk
  rw [across_g (by omega), across_g (by omega)]
  have := (row_at hr (k := k + 1) (by omega)).2 (by omega)
  rw [show k + 1 - 1 = k from by omega] at this
  exact ab_le (h.tab k (by omega)) (h.tab (k + 1) (by omega)) this x
theorem tab_mono {zs : List Int} {n : Nat} {X Y : Nat → List Int} (h : Ok zs n X Y) (hr : riB n X Y = true) {k : Nat} (hk : k < n) {x x' : Int} (hx : x ≤ x') : Tb.atv (X k) (Y k) x ≤ Tb.atv (X k) (Y k) x' := by
  have hs := h.same
  have hk' := h.tab k (by omega)
  rw [atv_ok hk', atv_ok hk']
  exact Tb.at_mono ((Tb.ok_iff _ _).1 hk') (row_at hr hk).1 hx
/-- A grid that rises rises both ways. -/
theorem at_mono {zs : List Int} {n : Nat} {X Y : Nat → List Int} (h : Ok zs n X Y) (hr : riB n X Y = true) {z z' x x' : Int} (hz : z ≤ z') (hx : x ≤ x') : atO zs n X Y z x ≤ atO zs n X Y z' x' := by
  have h1 := h.one
  have hs := h.same
  unfold atO
  by_cases c : n = 1
  · rw [if_pos c, if_pos c]; exact tab_mono h hr (by omega) hx
  · rw [if_neg c, if_neg c]
    refine Int.le_trans (Tb.at_mono (across_ok h (by omega) x) (across_rises h hr x) hz) ?_
    refine at_le (across_ok h (by omega) x) (across_ok h (by omega) x') (fun j hj => ?_) z'
    rw [across_g (by omega), across_g (by omega)]
    exact tab_mono h hr (by omega) hx

/-! ### a grid of one table -/

theorem one_ok {z0 : Int} (h0 : 0 ≤ z0) (h1 : z0 ≤ 1048576) {X Y : Nat → List Int} (h : Tb.okB (X 0) (Y 0) = true) : Ok [z0] 1 X Y :=
  ⟨by simp, by simp, by simp, fun k hk => by obtain rfl : k = 0 := by simpa using hk
                                             exact ⟨h0, h1⟩, fun k hk => by simp at hk, fun k hk => by obtain rfl : k = 0 := by simpa using hk
                                                                                                       exact h⟩
theorem two_ok {z0 z1 : Int} (h0 : 0 ≤ z0) (h01 : z0 < z1) (h1 : z1 ≤ 1048576) {X Y : Nat → List Int} (h : Tb.okB (X 0) (Y 0) = true) (h' : Tb.okB (X 1) (Y 1) = true) : Ok [z0, z1] 2 X Y := by
  refine ⟨by simp, by simp, by simp, fun k hk => ?_, fun k hk => ?_, fun k hk => ?_⟩
  · have : k = 0 ∨ k = 1 := by simp at hk; omega
    rcases this with rfl | rfl <;> simp [g] <;> omega
  · obtain rfl : k = 0 := by simp at hk; omega
    simpa [g] using h01
  · have : k = 0 ∨ k = 1 := by simp at hk; omega
    rcases this with rfl | rfl
    · exact h
    · exact h'
theorem two_at {z0 z1 : Int} (h0 : 0 ≤ z0) (h01 : z0 < z1) (h1 : z1 ≤ 1048576) {X Y : Nat → List Int} (h : Tb.okB (X 0) (Y 0) = true) (hX : X 1 = X 0) (hY : Y 1 = Y 0) (z x : Int) : atO [z0, z1] 2 X Y z x = Tb.atv (X 0) (Y 0) x := by
  have ok := two_ok h0 h01 h1 h (by rw [hX, hY]; exact h)
  by_cases p : z ≤ z0
  · exact at_lo ok (by simpa [g] using p) x
  · by_cases q : z1 ≤ z
    · have := at_hi ok (z := z) (by simpa [g] using q) x
      rw [this]; simp [hX, hY]
    · have := at_between ok (k := 0) (by simp) (z := z) (by simp [g]; omega) (by simp [g]; omega) x
      rw [show (0 : Nat) + 1 = 1 from rfl, hX, hY] at this
      omega
theorem one_rs {z0 : Int} (h0 : 0 ≤ z0) (h1 : z0 ≤ 1048576) {X Y : Nat → List Int} (h : Tb.okB (X 0) (Y 0) = true) : rsB [z0] 1 X Y = Tb.rsB (X 0) (Y 0) := by
  rw [rsB, (ok_iff _ _ _ _).2 (one_ok h0 h1 h)]
  simp [riB, rowB, List.range_succ]
theorem two_rs {z0 z1 : Int} (h0 : 0 ≤ z0) (h01 : z0 < z1) (h1 : z1 ≤ 1048576) {X Y : Nat → List Int} (h : Tb.okB (X 0) (Y 0) = true) (hX : X 1 = X 0) (hY : Y 1 = Y 0) : rsB [z0, z1] 2 X Y = Tb.rsB (X 0) (Y 0) := by
  rw [rsB, (ok_iff _ _ _ _).2 (two_ok h0 h01 h1 h (by rw [hX, hY]; exact h))]
  simp [riB, rowB, List.range_succ, hX, hY, ab_refl]

end Gd
