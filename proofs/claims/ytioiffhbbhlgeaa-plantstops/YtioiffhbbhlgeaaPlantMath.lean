/- An engine behind a frame, and what follows of it: how much its speed rises, its ends, what burns, where it comes to. No program is named here. -/
import Derived.Test.YtioiffhbbhlgeaaFixMath
import Derived.Test.YtioiffhbbhlgeaaSynthMath
namespace Pl

def num (x : Int) : Int := min (max x 0) 1048576
def gs (b g : Int) : Int := min (max g (-b)) b
/-- To go on. -/
def on (b lag x t g : Int) : Int := num (num x + (t - num x).tdiv lag + gs b g)
structure Pt where
  n1 : Int
  n2 : Int
  heat : Int
  valve : Int
  lit : Bool
structure Dr where
  fuel : Int
  opn : Bool
  ign : Bool
  start : Bool
  g0 : Int
  g1 : Int
  g2 : Int
  blow : Bool
def Pt.zero : Pt := ⟨0, 0, 0, 0, false⟩
section
variable (e : Em.En) (p : Pt) (d : Dr)
def vl : Int := Fx.slew (num p.valve) (num d.fuel) e.slew
def fu : Int := if d.opn = true then vl e p d else 0
def lt : Bool := decide (e.lean ≤ fu e p d) && !d.blow && (p.lit || (d.ign && decide (e.light ≤ p.n2)))
def t2 : Int := if lt e p d = true then Em.n2 e (fu e p d) else if d.start = true then e.starter else 0
def th : Int := if lt e p d = true then Em.ht e (fu e p d) else 0
def m2 : Int := on e.disturb e.lag2 p.n2 (t2 e p d) d.g1
def m1 : Int := on e.disturb e.lag1 p.n1 (Tb.atO e.qx e.qy (m2 e p d)) d.g0
def mh : Int := on e.disturb e.lagE p.heat (th e p d) d.g2
/-- Of an engine that may be; of any. -/
def go : Pt := ⟨m1 e p d, m2 e p d, mh e p d, vl e p d, lt e p d⟩
def step : Pt := if Em.okB e = true then go e p d else Pt.zero
def runs : Nat → Pt
  | 0 => p
  | n + 1 => step e (runs n) d
def rise : Int := (max (Tb.mx e.py) e.starter).tdiv e.lag2 + e.disturb
def end1 : Int := num (Tb.mx e.qy + e.lag1 * e.disturb)
def end2 : Int := num (max (Tb.mx e.py) e.starter + e.lag2 * e.disturb)
def endH : Int := num (Tb.mx e.hy + e.lagE * e.disturb)
end

/-- What an engine that may be keeps. -/
structure Fit (e : Em.En) : Prop where
  ok : Em.Ok e
  l2 : 1 ≤ e.lag2 ∧ e.lag2 ≤ 64
  l1 : 1 ≤ e.lag1 ∧ e.lag1 ≤ 64
  lE : 1 ≤ e.lagE ∧ e.lagE ≤ 64
  sl : 1 ≤ e.slew ∧ e.slew ≤ 1048576
  st : 0 ≤ e.starter ∧ e.starter ≤ 1048576
  li : 0 ≤ e.light ∧ e.light ≤ 1048576
  le : 1 ≤ e.lean ∧ e.lean ≤ 1048576
  di : 0 ≤ e.disturb ∧ e.disturb ≤ 1048576
theorem fit {e : Em.En} (h : Em.okB e = true) : Fit e := by
  have ho := Em.ok_of h
  simp only [Em.okB, Em.tabs, Em.lags, Em.nums, Em.rest3, Em.within, Bool.and_eq_true, decide_eq_true_eq] at h
  obtain ⟨⟨⟨_, ⟨⟨a1, a2⟩, a3⟩⟩, ⟨⟨⟨⟨b1, b2⟩, b3⟩, b4⟩, b5⟩⟩, ⟨⟨_, c2⟩, _⟩⟩ := h
  exact ⟨ho, a1, a2, a3, b1, b2, b3, ⟨c2, b4.2⟩, b5⟩

theorem num_in (x : Int) : 0 ≤ num x ∧ num x ≤ 1048576 := by unfold num; omega
theorem num_id {x : Int} (h0 : 0 ≤ x) (h1 : x ≤ 1048576) : num x = x := by unfold num; omega
theorem num_num (x : Int) : num (num x) = num x := num_id (num_in x).1 (num_in x).2
theorem on_in (b lag x t g : Int) : 0 ≤ on b lag x t g ∧ on b lag x t g ≤ 1048576 := num_in _
theorem gs_in {b : Int} (h : 0 ≤ b) (g : Int) : -b ≤ gs b g ∧ gs b g ≤ b := by unfold gs; omega
theorem gs_zero {b : Int} (h : 0 ≤ b) : gs b 0 = 0 := by unfold gs; omega
theorem quo_up {t n lag : Int} (h : n ≤ t) : (t - n).tdiv lag = (t - n) / lag := Int.tdiv_eq_ediv_of_nonneg (by omega)
theorem quo_down {t n lag : Int} (h : t ≤ n) : (t - n).tdiv lag = -((n - t) / lag) := by
  rw [show t - n = -(n - t) by omega, Int.neg_tdiv, Int.tdiv_eq_ediv_of_nonneg (by omega)]
theorem div_le_self {d lag : Int} (h : 1 ≤ lag) (hd : 0 ≤ d) : 0 ≤ d / lag ∧ d / lag ≤ d := by
  refine ⟨Int.ediv_nonneg hd (by omega), ?_⟩
  exact Int.ediv_le_self lag hd
theorem div_mono {a b lag : Int} (h : 1 ≤ lag) (hab : a ≤ b) : a / lag ≤ b / lag := Int.ediv_le_ediv (by omega) hab

/-- N2's rise, and such. -/
theorem on_rise {b lag x t g M : Int} (hl : 1 ≤ lag) (hb : 0 ≤ b) (hx : 0 ≤ x) (hx1 : x ≤ 1048576) (ht : t ≤ M) (hM : 0 ≤ M) : on b lag x t g - x ≤ M.tdiv lag + b := by
  have hg := gs_in hb g
  rw [Int.tdiv_eq_ediv_of_nonneg hM]
  have h0 := Int.ediv_nonneg hM (show 0 ≤ lag by omega)
  unfold on
  rw [num_id hx hx1]
  by_cases c : x ≤ t
  · rw [quo_up c]
    have := div_mono hl (show t - x ≤ M by omega)
    unfold num; omega
  · rw [quo_down (by omega)]
    have := (div_le_self hl (show 0 ≤ x - t by omega)).1
    unfold num; omega
/-- Ends. -/
theorem on_end {b lag x t g M : Int} (hl : 1 ≤ lag) (hb : 0 ≤ b) (hx : 0 ≤ x) (ht : 0 ≤ t) (htM : t ≤ M) (hE : x ≤ num (M + lag * b)) : on b lag x t g ≤ num (M + lag * b) := by
  have hg := gs_in hb g
  have hP : b ≤ lag * b := by
    have := Int.mul_le_mul_of_nonneg_right hl hb
    omega
  have hx1 : x ≤ 1048576 := by have := num_in (M + lag * b); omega
  unfold on
  rw [num_id hx hx1]
  have key : x + (t - x).tdiv lag + gs b g ≤ M + lag * b := by
    have hxm : x ≤ M + lag * b := by
      have := hE
      unfold num at this
      omega
    by_cases c : x ≤ t
    · rw [quo_up c]
      have := (div_le_self hl (show 0 ≤ t - x by omega)).2
      omega
    · rw [quo_down (by omega)]
      by_cases c2 : x ≤ M
      · have := (div_le_self hl (show 0 ≤ x - t by omega)).1
        omega
      · have h1 := div_mono hl (show x - M ≤ x - t by omega)
        obtain ⟨s, hs⟩ : ∃ s, x - M = s := ⟨_, rfl⟩
        rw [hs] at h1
        have h2 := Int.mul_ediv_add_emod s lag
        have h3 := Int.emod_nonneg s (show lag ≠ 0 by omega)
        have h4 := Int.emod_lt_of_pos s (show 0 < lag by omega)
        obtain ⟨u, hu⟩ : ∃ u, s / lag = u := ⟨_, rfl⟩
        rw [hu] at h1 h2
        have h5 : s ≤ lag * b := by omega
        have h6 : s - u ≤ lag * b - b := by
          by_cases c3 : b ≤ u
          · have := Int.mul_le_mul_of_nonneg_left c3 (show 0 ≤ lag by omega)
            have h7 : s % lag = 0 := by omega
            have h8 : lag * u = lag * b := by omega
            have h9 : u = b := Int.eq_of_mul_eq_mul_left (by omega) h8
            omega
          · have h7 : (lag - 1) * u ≤ (lag - 1) * (b - 1) := Int.mul_le_mul_of_nonneg_left (by omega) (by omega)
            rw [Int.sub_mul, Int.sub_mul, Int.mul_sub, Int.one_mul, Int.one_mul, Int.mul_one] at h7
            omega
        omega
  revert key
  generalize x + (t - x).tdiv lag + gs b g = y
  generalize M + lag * b = z
  intro key
  unfold num
  omega
section
variable {e : Em.En} {p : Pt} {d : Dr}
theorem t2_in (h : Fit e) : 0 ≤ t2 e p d ∧ t2 e p d ≤ max (Tb.mx e.py) e.starter := by
  have h1 := h.st
  have h2 := Em.n2_bd h.ok (fu e p d)
  have h3 := Em.n2_pk h.ok (fu e p d)
  unfold t2
  (repeat' split) <;> omega
theorem th_in (h : Fit e) : 0 ≤ th e p d ∧ th e p d ≤ Tb.mx e.hy := by
  have h2 := Em.ht_bd h.ok (fu e p d)
  have h3 := Em.ht_pk h.ok (fu e p d)
  unfold th
  split <;> omega
theorem m2_rise (h : Fit e) (h0 : 0 ≤ p.n2) (h1 : p.n2 ≤ end2 e) : m2 e p d - p.n2 ≤ rise e := by
  have a := h.st
  have b := t2_in (p := p) (d := d) h
  have c := num_in (max (Tb.mx e.py) e.starter + e.lag2 * e.disturb)
  unfold end2 at h1
  exact on_rise h.l2.1 h.di.1 h0 (by omega) b.2 (by omega)
theorem m2_end (h : Fit e) (h0 : 0 ≤ p.n2) (h1 : p.n2 ≤ end2 e) : m2 e p d ≤ end2 e := on_end h.l2.1 h.di.1 h0 (t2_in h).1 (t2_in h).2 h1
theorem m1_end (h : Fit e) (h0 : 0 ≤ p.n1) (h1 : p.n1 ≤ end1 e) : m1 e p d ≤ end1 e := on_end h.l1.1 h.di.1 h0 (Tb.at_bd h.ok.q.ok _).1 (Tb.at_le_mx h.ok.q.ok _) h1
theorem mh_end (h : Fit e) (h0 : 0 ≤ p.heat) (h1 : p.heat ≤ endH e) : mh e p d ≤ endH e := on_end h.lE.1 h.di.1 h0 (th_in h).1 (th_in h).2 h1
theorem vl_in (h : Fit e) : 0 ≤ vl e p d ∧ vl e p d ≤ 1048576 := by
  have a := num_in p.valve
  have b := num_in d.fuel
  have c := h.sl
  unfold vl
  by_cases c1 : e.slew < num d.fuel - num p.valve
  · rw [Fx.slew_up (by omega) (by omega) (by omega) c1]; omega
  · by_cases c2 : e.slew < num p.valve - num d.fuel
    · rw [Fx.slew_down (by omega) (by omega) (by omega) c2]; omega
    · rw [Fx.slew_there (by omega) (by omega) (by omega) (by omega) (by omega)]; omega

/-! ### what burns -/
theorem lt_needs (h : lt e p d = true) : d.opn = true ∧ d.blow = false ∧ e.lean ≤ vl e p d ∧ (p.lit = true ∨ (d.ign = true ∧ e.light ≤ p.n2)) ∨ ¬ 1 ≤ e.lean := by
  simp only [lt, Bool.and_eq_true, decide_eq_true_eq, Bool.or_eq_true, Bool.not_eq_true'] at h
  obtain ⟨⟨h1, h2⟩, h3⟩ := h
  unfold fu at h1
  by_cases c : d.opn = true
  · rw [if_pos c] at h1
    exact .inl ⟨c, h2, h1, h3⟩
  · rw [if_neg c] at h1
    exact .inr (by omega)
/-- The same drive without gusts and starter. -/
def calm (d : Dr) : Dr := ⟨d.fuel, d.opn, d.ign, false, 0, 0, 0, d.blow⟩
theorem lt_calm : lt e p (calm d) = lt e p d := rfl
theorem vl_calm : vl e p (calm d) = vl e p d := rfl
theorem on_zero {b lag x : Int} (hb : 0 ≤ b) (hl : 1 ≤ lag) (h0 : 0 ≤ x) (h1 : x ≤ 1048576) : on b lag x 0 0 ≤ x := by
  have := div_le_self hl h0
  unfold on
  rw [num_id h0 h1, gs_zero hb, quo_down h0, Int.sub_zero]
  unfold num
  omega
theorem calm_falls (h : Fit e) (hl : lt e p d = false) (h0 : 0 ≤ p.n2) (h1 : p.n2 ≤ 1048576) (g0 : 0 ≤ p.heat) (g1 : p.heat ≤ 1048576) : m2 e p (calm d) ≤ p.n2 ∧ mh e p (calm d) ≤ p.heat := by
  have e1 : t2 e p (calm d) = 0 := by unfold t2; rw [lt_calm, hl]; rfl
  have e2 : th e p (calm d) = 0 := by unfold th; rw [lt_calm, hl]; rfl
  unfold m2 mh
  rw [e1, e2]
  exact ⟨on_zero h.di.1 h.l2.1 h0 h1, on_zero h.di.1 h.lE.1 g0 g1⟩
end

/-! ### where it comes to -/
/-- How much two numbers differ. -/
def dist (a b : Int) : Int := max a b - min a b
theorem dist_nonneg (a b : Int) : 0 ≤ dist a b := by unfold dist; omega
theorem on_calm {b lag x t : Int} (hb : 0 ≤ b) (hl : 1 ≤ lag) (h0 : 0 ≤ x) (h1 : x ≤ 1048576) (t0 : 0 ≤ t) (t1 : t ≤ 1048576) :
    dist (on b lag x t 0) t = dist x t - dist x t / lag ∧ (dist x t < lag → on b lag x t 0 = x) := by
  unfold on
  rw [num_id h0 h1, gs_zero hb, Int.add_zero]
  by_cases c : x ≤ t
  · rw [quo_up c]
    have e : dist x t = t - x := by unfold dist; omega
    have := div_le_self hl (show 0 ≤ t - x by omega)
    rw [num_id (by omega) (by omega), e]
    refine ⟨by unfold dist; omega, fun h => ?_⟩
    rw [Int.ediv_eq_zero_of_lt (by omega) h]; omega
  · rw [quo_down (by omega)]
    have e : dist x t = x - t := by unfold dist; omega
    have := div_le_self hl (show 0 ≤ x - t by omega)
    rw [num_id (by omega) (by omega), e]
    refine ⟨by unfold dist; omega, fun h => ?_⟩
    rw [Int.ediv_eq_zero_of_lt (by omega) h]; omega
/-- How far it is at most, behind so many frames. -/
def fall : Nat → Int
  | 0 => 1048576
  | n + 1 => fall n - fall n / 16
theorem fall_end : fall 250 ≤ 15 := by decide +kernel
theorem settle {b lag t : Int} (hb : 0 ≤ b) (hl : 1 ≤ lag) (hl2 : lag ≤ 16) (t0 : 0 ≤ t) (t1 : t ≤ 1048576) (x : Nat → Int) (k : Nat) (h0 : 0 ≤ x k) (h1 : x k ≤ 1048576) (hx : ∀ i, k ≤ i → x (i + 1) = on b lag (x i) t 0) :
    ∀ i, k + 266 ≤ i → dist (x i) t < lag ∧ x i = x (k + 266) := by
  have bd : ∀ i, k ≤ i → 0 ≤ x i ∧ x i ≤ 1048576 := by
    intro i hi
    by_cases c : i = k
    · subst c; exact ⟨h0, h1⟩
    · obtain ⟨j, rfl⟩ : ∃ j, i = j + 1 := ⟨i - 1, by omega⟩
      rw [hx j (by omega)]
      exact on_in _ _ _ _ _
  have hd : ∀ i, k ≤ i → dist (x (i + 1)) t = dist (x i) t - dist (x i) t / lag := fun i hi => by
    rw [hx i hi]
    exact (on_calm hb hl (bd i hi).1 (bd i hi).2 t0 t1).1
  have s1 : ∀ j, dist (x (k + j)) t ≤ fall j := by
    intro j
    induction j with
    | zero => have := bd k (Nat.le_refl _); simp only [fall, Nat.add_zero]; unfold dist; omega
    | succ j ih =>
      have e := hd (k + j) (by omega)
      rw [← Nat.add_assoc, e, fall]
      have d0 := dist_nonneg (x (k + j)) t
      have d1 : dist (x (k + j)) t / 16 ≤ dist (x (k + j)) t / lag := by
        rw [Int.le_ediv_iff_mul_le (by omega)]
        have := Int.mul_le_mul_of_nonneg_left hl2 (show 0 ≤ dist (x (k + j)) t / 16 by omega)
        omega
      omega
  have s2 : ∀ j, dist (x (k + 250 + j)) t < lag ∨ dist (x (k + 250 + j)) t ≤ 15 - j := by
    intro j
    induction j with
    | zero => have := s1 250; have := fall_end; exact .inr (by simp only [Nat.add_zero, Int.ofNat_zero] at *; omega)
    | succ j ih =>
      have e := hd (k + 250 + j) (by omega)
      rw [← Nat.add_assoc]
      have d0 := dist_nonneg (x (k + 250 + j)) t
      by_cases c : dist (x (k + 250 + j)) t < lag
      · rw [Int.ediv_eq_zero_of_lt d0 c] at e
        exact .inl (by omega)
      · have c2 : 1 ≤ dist (x (k + 250 + j)) t / lag := by
          rw [Int.le_ediv_iff_mul_le (by omega)]; omega
        rcases ih with ih | ih
        · exact absurd ih c
        · exact .inr (by omega)
  have s3 : dist (x (k + 266)) t < lag := by
    rcases s2 16 with h | h
    · exact h
    · have := dist_nonneg (x (k + 250 + 16)) t
      omega
  have s4 : ∀ j, x (k + 266 + j) = x (k + 266) := by
    intro j
    induction j with
    | zero => rfl
    | succ j ih =>
      rw [← Nat.add_assoc, hx _ (by omega), (on_calm hb hl (bd _ (by omega)).1 (bd _ (by omega)).2 t0 t1).2 (by rw [ih]; exact s3), ih]
  intro i hi
  obtain ⟨j, rfl⟩ : ∃ j, i = k + 266 + j := ⟨i - (k + 266), by omega⟩
  rw [s4 j]
  exact ⟨s3, rfl⟩

/-- An engine's numbers are within. -/
structure Wi (p : Pt) : Prop where
  a : 0 ≤ p.n1 ∧ p.n1 ≤ 1048576
  b : 0 ≤ p.n2 ∧ p.n2 ≤ 1048576
  c : 0 ≤ p.heat ∧ p.heat ≤ 1048576
section
variable {e : Em.En} {p : Pt} {d : Dr}
theorem runs_go (hk : Em.okB e = true) (n : Nat) : runs e p d (n + 1) = go e (runs e p d n) d := by rw [runs, step, if_pos hk]
theorem go_wi : Wi (go e p d) := ⟨on_in _ _ _ _ _, on_in _ _ _ _ _, on_in _ _ _ _ _⟩
theorem runs_wi (hk : Em.okB e = true) (hp : Wi p) : ∀ n, Wi (runs e p d n)
  | 0 => hp
  | n + 1 => by rw [runs_go hk]; exact go_wi
/-- Where it is driven alike, its targets are alike from k on: it settles. -/
theorem settles (hk : Em.okB e = true) (hl2 : e.lag2 ≤ 16) (hl1 : e.lag1 ≤ 16) (hlE : e.lagE ≤ 16) (hp : Wi p) (g0 : d.g0 = 0) (g1 : d.g1 = 0) (g2 : d.g2 = 0) {k : Nat} {T H : Int}
    (hT : ∀ i, k ≤ i → t2 e (runs e p d i) d = T) (hH : ∀ i, k ≤ i → th e (runs e p d i) d = H) {i : Nat} (hi : k + 533 ≤ i) :
    dist (runs e p d i).n2 T < e.lag2 ∧ dist (runs e p d i).n1 (Tb.atO e.qx e.qy (runs e p d i).n2) < e.lag1 ∧ dist (runs e p d i).heat H < e.lagE := by
  have h := fit hk
  have w := runs_wi (d := d) hk hp
  have mb := Tb.mx_bd h.ok.p.ok
  have T0 : 0 ≤ T ∧ T ≤ 1048576 := by
    rw [← hT k (Nat.le_refl _)]
    have := t2_in (p := runs e p d k) (d := d) h
    have := h.st
    omega
  have H0 : 0 ≤ H ∧ H ≤ 1048576 := by
    rw [← hH k (Nat.le_refl _)]
    have := th_in (p := runs e p d k) (d := d) h
    have := Tb.mx_bd h.ok.h.ok
    omega
  have s2 := settle h.di.1 h.l2.1 hl2 T0.1 T0.2 (fun i => (runs e p d i).n2) k (w k).b.1 (w k).b.2 (fun i hi => by
    show (runs e p d (i + 1)).n2 = _
    rw [runs_go hk]
    show m2 e _ d = _
    rw [m2, hT i hi, g1])
  have sH := settle h.di.1 h.lE.1 hlE H0.1 H0.2 (fun i => (runs e p d i).heat) k (w k).c.1 (w k).c.2 (fun i hi => by
    show (runs e p d (i + 1)).heat = _
    rw [runs_go hk]
    show mh e _ d = _
    rw [mh, hH i hi, g2])
  have A := Tb.at_bd h.ok.q.ok (runs e p d (k + 266)).n2
  have s1 := settle h.di.1 h.l1.1 hl1 A.1 A.2 (fun i => (runs e p d i).n1) (k + 266) (w _).a.1 (w _).a.2 (fun i hi => by
    have e2 : (runs e p d (i + 1)).n2 = (runs e p d (k + 266)).n2 := (s2 (i + 1) (by omega)).2
    rw [runs_go hk] at e2
    show (runs e p d (i + 1)).n1 = _
    rw [runs_go hk]
    show m1 e _ d = _
    have e3 : m2 e (runs e p d i) d = (runs e p d (k + 266)).n2 := e2
    rw [m1, e3, g0])
  have r2 := s2 i (by omega)
  refine ⟨r2.1, ?_, (sH i (by omega)).1⟩
  have e2 : (runs e p d i).n2 = (runs e p d (k + 266)).n2 := r2.2
  rw [e2]
  exact (s1 i (by omega)).1
end

/-! ### what the statements say -/
section
variable {e : Em.En} {p : Pt}
/-- A drive with fuel alone; one without, and its starter. -/
def burn (f : Int) : Dr := ⟨f, true, false, false, 0, 0, 0, false⟩
def spin (s : Bool) : Dr := ⟨0, false, false, s, 0, 0, 0, false⟩
theorem vl_is (h : Fit e) (d : Dr) : vl e p d = if e.slew < num d.fuel - num p.valve then num p.valve + e.slew else if e.slew < num p.valve - num d.fuel then num p.valve - e.slew else num d.fuel := by
  have a := num_in p.valve
  have b := num_in d.fuel
  have c := h.sl
  unfold vl
  by_cases c1 : e.slew < num d.fuel - num p.valve
  · rw [Fx.slew_up (by omega) (by omega) (by omega) c1, if_pos c1]
  · rw [if_neg c1]
    by_cases c2 : e.slew < num p.valve - num d.fuel
    · rw [Fx.slew_down (by omega) (by omega) (by omega) c2, if_pos c2]
    · rw [Fx.slew_there (by omega) (by omega) (by omega) (by omega) (by omega), if_neg c2]
theorem valve_goes (hk : Em.okB e = true) {f : Int} (hf : e.lean ≤ f) (hf2 : f ≤ 2000) (hv : e.lean ≤ p.valve) (hv2 : p.valve ≤ 2000) (hl : p.lit = true) :
    ∀ i : Nat, e.lean ≤ (runs e p (burn f) i).valve ∧ (runs e p (burn f) i).valve ≤ 2000 ∧ dist (runs e p (burn f) i).valve f ≤ max (2000 - (i : Int)) 0 ∧ (runs e p (burn f) i).lit = true
  | 0 => by
    have h := fit hk
    have := h.le
    exact ⟨hv, hv2, by show dist p.valve f ≤ _; unfold dist; omega, hl⟩
  | i + 1 => by
    have h := fit hk
    have le := h.le
    have sl := h.sl
    obtain ⟨h1, h2, h3, h4⟩ := valve_goes hk hf hf2 hv hv2 hl i
    rw [runs_go hk]
    generalize runs e p (burn f) i = q at *
    have e1 : vl e q (burn f) = if e.slew < f - q.valve then q.valve + e.slew else if e.slew < q.valve - f then q.valve - e.slew else f := by
      rw [vl_is h, show (burn f).fuel = f from rfl, num_id (show 0 ≤ q.valve by omega) (by omega), num_id (show 0 ≤ f by omega) (by omega)]
    have e2 : e.lean ≤ vl e q (burn f) ∧ vl e q (burn f) ≤ 2000 ∧ dist (vl e q (burn f)) f ≤ max (2000 - ((i + 1 : Nat) : Int)) 0 := by
      have h5 : f - q.valve ≤ max (2000 - (i : Int)) 0 ∧ q.valve - f ≤ max (2000 - (i : Int)) 0 := by
        unfold dist at h3
        omega
      have h6 : f - vl e q (burn f) ≤ max (2000 - ((i + 1 : Nat) : Int)) 0 ∧ vl e q (burn f) - f ≤ max (2000 - ((i + 1 : Nat) : Int)) 0 ∧ e.lean ≤ vl e q (burn f) ∧ vl e q (burn f) ≤ 2000 := by
        rw [e1]
        clear e1 h3 h4 hl hk h
        by_cases c1 : e.slew < f - q.valve
        · rw [if_pos c1]; omega
        · rw [if_neg c1]
          by_cases c2 : e.slew < q.valve - f
          · rw [if_pos c2]; omega
          · rw [if_neg c2]; omega
      refine ⟨h6.2.2.1, h6.2.2.2, ?_⟩
      unfold dist
      omega
    rw [show (go e q (burn f)).valve = vl e q (burn f) from rfl, show (go e q (burn f)).lit = lt e q (burn f) from rfl]
    refine ⟨e2.1, e2.2.1, e2.2.2, ?_⟩
    unfold lt
    rw [show fu e q (burn f) = vl e q (burn f) from rfl, decide_eq_true e2.1, h4]
    rfl
/-- An engine that burns, driven alike, settles. -/
theorem burns_settle (hk : Em.okB e = true) (hl2 : e.lag2 ≤ 16) (hl1 : e.lag1 ≤ 16) (hlE : e.lagE ≤ 16) (hp : Wi p) {f : Int} (hf : e.lean ≤ f) (hf2 : f ≤ 2000) (hv : e.lean ≤ p.valve) (hv2 : p.valve ≤ 2000) (hl : p.lit = true) {q : Pt} (hq : runs e p (burn f) 3000 = q) :
    q.lit = true ∧ q.valve = f ∧ dist q.n2 (Em.n2 e f) < e.lag2 ∧ dist q.n1 (Tb.atO e.qx e.qy q.n2) < e.lag1 ∧ dist q.heat (Em.ht e f) < e.lagE := by
  have V := valve_goes hk hf hf2 hv hv2 hl
  have F : ∀ i, 2000 ≤ i → (runs e p (burn f) i).valve = f := fun i hi => by
    have := (V i).2.2.1
    unfold dist at this
    omega
  have L : ∀ i, lt e (runs e p (burn f) i) (burn f) = true := fun i => by
    have := (V (i + 1)).2.2.2
    rw [runs_go hk] at this
    exact this
  have U : ∀ i, 2000 ≤ i → fu e (runs e p (burn f) i) (burn f) = f := fun i hi => by
    have := F (i + 1) (by omega)
    rw [runs_go hk] at this
    exact this
  have S := settles (d := burn f) hk hl2 hl1 hlE hp rfl rfl rfl (k := 2000) (T := Em.n2 e f) (H := Em.ht e f) (fun i hi => by unfold t2; rw [if_pos (L i), U i hi]) (fun i hi => by unfold th; rw [if_pos (L i), U i hi]) (i := 3000) (by decide)
  rw [hq] at S
  have h1 := (V 3000).2.2.2
  have h2 := F 3000 (by decide)
  rw [hq] at h1 h2
  exact ⟨h1, h2, S⟩
/-- One without fuel comes to rest, or to its starter's speed. -/
theorem spins_settle (hk : Em.okB e = true) (hl2 : e.lag2 ≤ 16) (hl1 : e.lag1 ≤ 16) (hlE : e.lagE ≤ 16) (hp : Wi p) (s : Bool) {q : Pt} (hq : runs e p (spin s) 2000 = q) :
    q.lit = false ∧ dist q.n2 (if s = true then e.starter else 0) < e.lag2 ∧ dist q.n1 (Tb.atO e.qx e.qy q.n2) < e.lag1 ∧ q.heat < e.lagE := by
  have h := fit hk
  have le := h.le
  have L : ∀ q, lt e q (spin s) = false := fun q => by
    unfold lt
    rw [show fu e q (spin s) = 0 from rfl, decide_eq_false (by omega)]
    rfl
  have S := settles (d := spin s) hk hl2 hl1 hlE hp rfl rfl rfl (k := 0) (T := if s = true then e.starter else 0) (H := 0) (fun i hi => by unfold t2; rw [L]; rfl) (fun i hi => by unfold th; rw [L]; rfl) (i := 2000) (by decide)
  have W := fun n => (runs_wi (d := spin s) hk hp n).c
  have h1 : ∀ n, 1 ≤ n → (runs e p (spin s) n).lit = false := fun n hn => by
    obtain ⟨j, rfl⟩ : ∃ j, n = j + 1 := ⟨n - 1, by omega⟩
    rw [runs_go hk]
    exact L _
  replace W := W 2000
  replace h1 := h1 2000 (by omega)
  rw [hq] at S W h1
  refine ⟨h1, S.1, S.2.1, ?_⟩
  have := S.2.2
  unfold dist at this
  omega
/-- Where it is at what its fuel tells. -/
def rest (e : Em.En) (f : Int) : Pt := ⟨Em.n1 e f, Em.n2 e f, Em.ht e f, f, true⟩
theorem vl_at (h : Fit e) {f : Int} (f0 : 0 ≤ f) (f1 : f ≤ 1048576) (hv : p.valve = f) : vl e p (burn f) = f := by
  have := h.sl
  rw [vl_is h, show (burn f).fuel = f from rfl, hv, num_id f0 f1, if_neg (by omega), if_neg (by omega)]
theorem lt_at (h : Fit e) {f : Int} (hf : e.lean ≤ f) (f1 : f ≤ 1048576) (hv : p.valve = f) (hl : p.lit = true) : lt e p (burn f) = true := by
  have := h.le
  unfold lt
  rw [show fu e p (burn f) = vl e p (burn f) from rfl, vl_at h (by omega) f1 hv, decide_eq_true hf, hl]
  rfl
theorem fu_at (h : Fit e) {f : Int} (hf : e.lean ≤ f) (f1 : f ≤ 1048576) (hv : p.valve = f) : fu e p (burn f) = f := by
  have := h.le
  rw [show fu e p (burn f) = vl e p (burn f) from rfl, vl_at h (by omega) f1 hv]
theorem on_at {b lag t : Int} (hb : 0 ≤ b) (hl : 1 ≤ lag) (t0 : 0 ≤ t) (t1 : t ≤ 1048576) : on b lag t t 0 = t :=
  (on_calm hb hl t0 t1 t0 t1).2 (by unfold dist; omega)
theorem rest_stays (hk : Em.okB e = true) {f : Int} (hf : e.lean ≤ f) (f1 : f ≤ 1048576) : go e (rest e f) (burn f) = rest e f := by
  have h := fit hk
  have le := h.le
  have a := lt_at (p := rest e f) h hf f1 rfl rfl
  have b := fu_at (p := rest e f) h hf f1 rfl
  have B2 := Em.n2_bd h.ok f
  have B1 := Em.n1_bd h.ok f
  have BH := Em.ht_bd h.ok f
  have c2 : m2 e (rest e f) (burn f) = Em.n2 e f := by
    unfold m2 t2
    rw [if_pos a, b]
    exact on_at h.di.1 h.l2.1 B2.1 B2.2
  have c1 : m1 e (rest e f) (burn f) = Em.n1 e f := by
    unfold m1
    rw [c2]
    exact on_at h.di.1 h.l1.1 B1.1 B1.2
  have cH : mh e (rest e f) (burn f) = Em.ht e f := by
    unfold mh th
    rw [if_pos a, b]
    exact on_at h.di.1 h.lE.1 BH.1 BH.2
  unfold go
  rw [c1, c2, cH, a, vl_at h (by omega) f1 rfl]
  rfl
theorem rest_runs (hk : Em.okB e = true) {f : Int} (hf : e.lean ≤ f) (f1 : f ≤ 1048576) : ∀ n, runs e (rest e f) (burn f) n = rest e f
  | 0 => rfl
  | n + 1 => by rw [runs_go hk, rest_runs hk hf f1 n, rest_stays hk hf f1]
/-- One that burns alike is never farther from there. -/
theorem nearer (hk : Em.okB e = true) {f : Int} (hf : e.lean ≤ f) (f1 : f ≤ 1048576) (hv : p.valve = f) (hl : p.lit = true) (h0 : 0 ≤ p.n2) (h1 : p.n2 ≤ 1048576) :
    dist (m2 e p (burn f)) (Em.n2 e f) ≤ dist p.n2 (Em.n2 e f) ∧ lt e p (burn f) = true ∧ vl e p (burn f) = f ∧ 0 ≤ m2 e p (burn f) ∧ m2 e p (burn f) ≤ 1048576 := by
  have h := fit hk
  have le := h.le
  have a := lt_at (p := p) h hf f1 hv hl
  have b := fu_at (p := p) h hf f1 hv
  have B2 := Em.n2_bd h.ok f
  have e2 : m2 e p (burn f) = on e.disturb e.lag2 p.n2 (Em.n2 e f) 0 := by
    unfold m2 t2
    rw [if_pos a, b]
    rfl
  refine ⟨?_, a, vl_at h (by omega) f1 hv, (on_in _ _ _ _ _).1, (on_in _ _ _ _ _).2⟩
  rw [e2, (on_calm h.di.1 h.l2.1 h0 h1 B2.1 B2.2).1]
  have := (div_le_self h.l2.1 (dist_nonneg p.n2 (Em.n2 e f))).1
  omega
end
end Pl
