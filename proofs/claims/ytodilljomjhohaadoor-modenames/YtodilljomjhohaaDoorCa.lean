/- Texts of one seat laid together: TabMath LawKit TabSmall TabLib TailIn TabSteps RangeKit TabCheck TabAt TabAt2 TabRef TabRef2 TabRef3 TabHeld SynthMath ObjKit SynthIn TabBack TabSteep HeldIn TabBack2 SynthCalls SynthRising SynthFld FixMath ScheduleMath ScheduleIn ScheduleLaws MixKit. -/
import Derived.WalkKit
import Derived.ProofKit
import Derived.OpenShut
import Derived.Below
import Derived.WideKeyArgs
import Derived.Test.YtodilljomjhohaaDoorChecked
import Derived.IntWalk
import Derived.WalkSpells
import Derived.Lib.Hide
import Derived.Deep.QuietTactic
import Derived.BigQuiet
import Derived.StillTail
import Derived.StillTailTactics
import Derived.OrdersIn
import Derived.TacticsIn
import Derived.RangeFuncCalls
import Derived.RangeFuncNested
import Derived.RangeFuncBound
import Derived.RangeFuncLeaves
import Derived.RangeFuncBox
import Derived.Shelf.Abstract
import Derived.Shelf.RegionOpen
import Derived.OwnWalkIn
import Derived.TacticsInMore
import Derived.LoopNIn
import Derived.LoopIn
import Derived.Deep.WholeRow
import Derived.Deep.MidRow
import Derived.Handy
import Derived.Lib.SmallJoins
import Derived.Laws.Tables
import Derived.Deep.DeepCutAuto
import Derived.Deep.RegionHeld3
import Derived.Stop.RegionWithIn
import Derived.OrdersHeld
import Derived.Laws.EntriesVeiled

/- Plain arithmetic of tables: what the functions of package table, and the document's answers beside them, come to. No program is named here. -/
namespace Tb

/-- The number at a place of a list. -/
def g (l : List Int) (k : Nat) : Int := l.getD k 0

structure Ok (xs ys : List Int) : Prop where
  two : 2 ≤ xs.length
  most : xs.length ≤ 16
  same : ys.length = xs.length
  xb : ∀ k, k < xs.length → 0 ≤ g xs k ∧ g xs k ≤ 1048576
  yb : ∀ k, k < xs.length → 0 ≤ g ys k ∧ g ys k ≤ 1048576
  up : ∀ k, k + 1 < xs.length → g xs k < g xs (k + 1)

def out (x : Int) : Bool := decide (x < 0) || decide (1048576 < x)
def upB (xs : List Int) : Bool := (List.range (xs.length - 1)).all fun k => decide (g xs k < g xs (k + 1))
def okB (xs ys : List Int) : Bool := (decide (2 ≤ xs.length) && decide (xs.length ≤ 16) && decide (ys.length = xs.length)) && !xs.any out && !ys.any out && upB xs
def err (xs ys : List Int) : Int := if okB xs ys = true then 0 else 20
def riB (ys : List Int) : Bool := (List.range (ys.length - 1)).all fun k => decide (g ys k ≤ g ys (k + 1))
def rsB (xs ys : List Int) : Bool := okB xs ys && riB ys

def seg (xs ys : List Int) (k : Nat) (x : Int) : Int := g ys k + (x - g xs k) * (g ys (k + 1) - g ys k) / (g xs (k + 1) - g xs k)
def loc (xs : List Int) (x : Int) : Nat := (List.range (xs.length - 1)).findIdx fun k => decide (x < g xs (k + 1))
def atO (xs ys : List Int) (x : Int) : Int := if loc xs x = xs.length - 1 then g ys (xs.length - 1) else seg xs ys (loc xs x) (max x (g xs (loc xs x)))
def atv (xs ys : List Int) (x : Int) : Int := if okB xs ys = true then atO xs ys x else 0

def mx (l : List Int) : Int := l.foldl max 0
def pk (xs ys : List Int) : Int := if okB xs ys = true then mx ys else 0

def cl (d w : Int) : Int := -((-d) / w)
def stp (xs ys : List Int) (k : Nat) : Int := cl (max (g ys (k + 1) - g ys k) (g ys k - g ys (k + 1))) (g xs (k + 1) - g xs k)
def stU (xs ys : List Int) (m : Nat) : Int := mx ((List.range m).map (stp xs ys))
def st (xs ys : List Int) : Int := if okB xs ys = true then stU xs ys (xs.length - 1) else 0

def wid (xs : List Int) : Nat := (g xs (xs.length - 1) - g xs 0).toNat
def bkO (xs ys : List Int) (y : Int) : Int := g xs 0 + ((List.range (wid xs)).findIdx fun i => decide (y ≤ atO xs ys (g xs 0 + (i : Nat))) : Nat)
def bk (xs ys : List Int) (y : Int) : Int := if okB xs ys = true then bkO xs ys y else 0

/-! ### lists -/

theorem g_mem {l : List Int} {k : Nat} (h : k < l.length) : g l k ∈ l := by
  unfold g; rw [List.getD_eq_getElem?_getD, List.getElem?_eq_getElem h]; exact List.getElem_mem h
theorem mem_g {l : List Int} {v : Int} (h : v ∈ l) : ∃ k, k < l.length ∧ g l k = v := by
  obtain ⟨k, hk, e⟩ := List.getElem_of_mem h
  exact ⟨k, hk, by unfold g; rw [List.getD_eq_getElem?_getD, List.getElem?_eq_getElem hk]; exact e⟩
theorem any_out (l : List Int) : l.any out = false ↔ ∀ k, k < l.length → 0 ≤ g l k ∧ g l k ≤ 1048576 := by
  rw [List.any_eq_false]
  constructor
  · intro h k hk
    have := h _ (g_mem hk)
    simp [out] at this; omega
  · intro h v hv
    obtain ⟨k, hk, rfl⟩ := mem_g hv
    have := h k hk
    simp [out]; omega
theorem any_take (l : List Int) (k : Nat) (h : k < l.length) : (l.take (k + 1)).any out = ((l.take k).any out || out (g l k)) := by
  rw [List.take_succ_eq_append_getElem h, List.any_append]
  simp [g, h]
theorem upB_iff (xs : List Int) : upB xs = true ↔ ∀ k, k + 1 < xs.length → g xs k < g xs (k + 1) := by
  simp only [upB, List.all_eq_true, List.mem_range, decide_eq_true_eq]
  constructor <;> intro h k hk <;> exact h k (by omega)
theorem riB_iff (ys : List Int) : riB ys = true ↔ ∀ k, k + 1 < ys.length → g ys k ≤ g ys (k + 1) := by
  simp only [riB, List.all_eq_true, List.mem_range, decide_eq_true_eq]
  constructor <;> intro h k hk <;> exact h k (by omega)
theorem ok_iff (xs ys : List Int) : okB xs ys = true ↔ Ok xs ys := by
  simp only [okB, Bool.and_eq_true, decide_eq_true_eq, Bool.not_eq_true', any_out, upB_iff]
  constructor
  · rintro ⟨⟨⟨⟨⟨a, b⟩, c⟩, d⟩, e⟩, f⟩
    exact ⟨a, b, c, d, fun k hk => e k (by omega), f⟩
  · rintro ⟨a, b, c, d, e, f⟩
    exact ⟨⟨⟨⟨⟨a, b⟩, c⟩, d⟩, fun k hk => e k (by omega)⟩, f⟩
theorem ok_false (xs ys : List Int) : okB xs ys = false ↔ ¬ Ok xs ys := by
  rw [← ok_iff]; simp

theorem foldl_max_ge (l : List Int) : ∀ a : Int, a ≤ l.foldl max a := by
  induction l with
  | nil => intro a; exact Int.le_refl _
  | cons v l ih => intro a; exact Int.le_trans (by omega) (ih (max a v))
theorem foldl_max_mem (l : List Int) : ∀ a : Int, ∀ v ∈ l, v ≤ l.foldl max a := by
  induction l with
  | nil => intro a v h; cases h
  | cons u l ih =>
    intro a v h
    rcases List.mem_cons.1 h with rfl | h
    · exact Int.le_trans (by omega) (foldl_max_ge l (max a v))
    · exact ih _ v h
theorem foldl_max_is (l : List Int) : ∀ a : Int, l.foldl max a = a ∨ l.foldl max a ∈ l := by
  induction l with
  | nil => intro a; exact .inl rfl
  | cons u l ih =>
    intro a
    rcases ih (max a u) with h | h
    · rw [List.foldl_cons, h]
      by_cases c : u ≤ a
      · left; omega
      · right; rw [Int.max_eq_right (by omega)]; exact List.mem_cons_self
    · right; exact List.mem_cons_of_mem _ h
theorem mx_nonneg (l : List Int) : 0 ≤ mx l := foldl_max_ge l 0
theorem mx_ge {l : List Int} {v : Int} (h : v ∈ l) : v ≤ mx l := foldl_max_mem l 0 v h
theorem mx_is (l : List Int) : mx l = 0 ∨ mx l ∈ l := foldl_max_is l 0
theorem mx_eq {l : List Int} {m : Int} (h0 : 0 ≤ m) (h1 : ∀ v ∈ l, v ≤ m) (h2 : m = 0 ∨ m ∈ l) : mx l = m := by
  have a := mx_nonneg l
  rcases mx_is l with h | h
  · rcases h2 with e | e
    · omega
    · have := mx_ge e; omega
  · have := h1 _ h
    rcases h2 with e | e
    · omega
    · have := mx_ge e; omega
theorem mx_take (l : List Int) (k : Nat) (h : k < l.length) : mx (l.take (k + 1)) = max (mx (l.take k)) (g l k) := by
  unfold mx
  rw [List.take_succ_eq_append_getElem h, List.foldl_append]
  simp [g, h]
theorem stU_succ (xs ys : List Int) (m : Nat) : stU xs ys (m + 1) = max (stU xs ys m) (stp xs ys m) := by
  simp [stU, mx, List.range_succ]
theorem stU_zero (xs ys : List Int) : stU xs ys 0 = 0 := rfl

/-! ### where a place lies -/

theorem find_range {p : Nat → Bool} {n : Nat} : (List.range n).findIdx p ≤ n ∧ (∀ j, j < (List.range n).findIdx p → p j = false) ∧ ((List.range n).findIdx p < n → p ((List.range n).findIdx p) = true) := by
  refine ⟨by simpa using List.findIdx_le_length (xs := List.range n) (p := p), ?_, ?_⟩
  · intro j hj
    have hl := List.findIdx_le_length (xs := List.range n) (p := p)
    have := List.not_of_lt_findIdx hj
    simpa using this
  · intro h
    have := List.findIdx_getElem (xs := List.range n) (p := p) (w := by simpa using h)
    simpa using this
theorem find_unique {p : Nat → Bool} {n k : Nat} (h1 : k ≤ n) (h2 : ∀ j, j < k → p j = false) (h3 : k < n → p k = true) : (List.range n).findIdx p = k := by
  obtain ⟨a, b, c⟩ := find_range (p := p) (n := n)
  rcases Nat.lt_trichotomy ((List.range n).findIdx p) k with h | h | h
  · have := h2 _ h; rw [c (by omega)] at this; cases this
  · exact h
  · have := b _ h; rw [h3 (by omega)] at this; cases this

theorem loc_le (xs : List Int) (x : Int) : loc xs x ≤ xs.length - 1 := find_range.1
theorem loc_before (xs : List Int) (x : Int) {j : Nat} (h : j < loc xs x) : g xs (j + 1) ≤ x := by
  have := (find_range (p := fun k => decide (x < g xs (k + 1))) (n := xs.length - 1)).2.1 j h
  simpa using this
theorem loc_at (xs : List Int) (x : Int) (h : loc xs x < xs.length - 1) : x < g xs (loc xs x + 1) := by
  have := (find_range (p := fun k => decide (x < g xs (k + 1))) (n := xs.length - 1)).2.2 h
  exact of_decide_eq_true this
theorem loc_unique (xs : List Int) (x : Int) {k : Nat} (h1 : k ≤ xs.length - 1) (h2 : ∀ j, j < k → g xs (j + 1) ≤ x) (h3 : k < xs.length - 1 → x < g xs (k + 1)) : loc xs x = k :=
  find_unique h1 (fun j hj => by have := h2 j hj; simpa using this) (fun h => by have := h3 h; simpa using this)

theorem up_lt {xs ys : List Int} (h : Ok xs ys) : ∀ {j k : Nat}, j < k → k < xs.length → g xs j < g xs k := by
  intro j k hjk hk
  induction k with
  | zero => omega
  | succ k ih =>
    have := h.up k hk
    by_cases e : j = k
    · subst e; exact this
    · have := ih (by omega) (by omega); omega
theorem up_le {xs ys : List Int} (h : Ok xs ys) {j k : Nat} (hjk : j ≤ k) (hk : k < xs.length) : g xs j ≤ g xs k := by
  by_cases e : j = k
  · subst e; exact Int.le_refl _
  · have := up_lt h (show j < k by omega) hk; omega

theorem seg_lo {xs ys : List Int} (k : Nat) : seg xs ys k (g xs k) = g ys k := by
  unfold seg; rw [Int.sub_self, Int.zero_mul, Int.zero_ediv]; omega
theorem seg_hi {xs ys : List Int} (h : Ok xs ys) {k : Nat} (hk : k + 1 < xs.length) : seg xs ys k (g xs (k + 1)) = g ys (k + 1) := by
  have := h.up k hk
  unfold seg
  rw [Int.mul_ediv_cancel_left _ (by omega)]; omega

theorem at_seg {xs ys : List Int} (h : Ok xs ys) {k : Nat} (hk : k + 1 < xs.length) {x : Int} (h1 : g xs k ≤ x) (h2 : x ≤ g xs (k + 1)) : atO xs ys x = seg xs ys k x := by
  unfold atO
  by_cases e : x = g xs (k + 1)
  · have hl : loc xs x = k + 1 := loc_unique xs x (by omega) (fun j hj => by rw [e]; exact up_le h (by omega) hk) (fun hh => by rw [e]; exact h.up _ (by omega))
    rw [hl]
    by_cases c : k + 1 = xs.length - 1
    · rw [if_pos c, e, seg_hi h hk, c]
    · rw [if_neg c, e, Int.max_self, seg_lo, seg_hi h hk]
  · have hl : loc xs x = k := loc_unique xs x (by omega) (fun j hj => Int.le_trans (up_le h (by omega) (by omega)) h1) (fun hh => by omega)
    rw [hl, if_neg (by omega), Int.max_eq_left h1]
theorem at_lo {xs ys : List Int} (h : Ok xs ys) {x : Int} (h1 : x ≤ g xs 0) : atO xs ys x = g ys 0 := by
  have h2 := h.two
  have hu := h.up 0 (by omega)
  unfold atO
  have hl : loc xs x = 0 := loc_unique xs x (by omega) (fun j hj => by omega) (fun hh => by omega)
  rw [hl, if_neg (by omega), Int.max_eq_right h1, seg_lo]
theorem at_hi {xs ys : List Int} (h : Ok xs ys) {x : Int} (h1 : g xs (xs.length - 1) ≤ x) : atO xs ys x = g ys (xs.length - 1) := by
  have h2 := h.two
  unfold atO
  have hl : loc xs x = xs.length - 1 := loc_unique xs x (by omega) (fun j hj => Int.le_trans (up_le h (by omega) (by omega)) h1) (fun hh => by omega)
  rw [hl, if_pos rfl]
theorem at_point {xs ys : List Int} (h : Ok xs ys) {k : Nat} (hk : k < xs.length) : atO xs ys (g xs k) = g ys k := by
  have h2 := h.two
  by_cases c : k + 1 < xs.length
  · rw [at_seg h c (Int.le_refl _) (by have := h.up k c; omega), seg_lo]
  · have e : k = xs.length - 1 := by omega
    subst e; exact at_hi h (Int.le_refl _)
/-- Each place is ahead of the first one, behind the last one, or between two. -/
theorem place {xs ys : List Int} (h : Ok xs ys) (x : Int) : x ≤ g xs 0 ∨ g xs (xs.length - 1) ≤ x ∨ ∃ k, k + 1 < xs.length ∧ g xs k ≤ x ∧ x < g xs (k + 1) := by
  have h2 := h.two
  by_cases a : x ≤ g xs 0
  · exact .inl a
  · right
    by_cases c : loc xs x < xs.length - 1
    · right
      refine ⟨loc xs x, by omega, ?_, loc_at xs x c⟩
      by_cases z : loc xs x = 0
      · rw [z]; omega
      · have := loc_before xs x (j := loc xs x - 1) (by omega)
        rwa [show loc xs x - 1 + 1 = loc xs x from by omega] at this
    · left
      have e : loc xs x = xs.length - 1 := by have := loc_le xs x; omega
      have := loc_before xs x (j := xs.length - 2) (by omega)
      rwa [show xs.length - 2 + 1 = xs.length - 1 from by omega] at this

/-! ### quotients -/

theorem div_between {t w d : Int} (hw : 0 < w) (h0 : 0 ≤ t) (h1 : t ≤ w) : min 0 d ≤ t * d / w ∧ t * d / w ≤ max 0 d := by
  rcases Int.le_total 0 d with hd | hd
  · rw [Int.min_eq_left hd, Int.max_eq_right hd]
    refine ⟨Int.ediv_nonneg (Int.mul_nonneg h0 hd) (by omega), ?_⟩
    have : t * d ≤ d * w := by rw [Int.mul_comm d w]; exact Int.mul_le_mul_of_nonneg_right h1 hd
    exact Int.le_of_lt_add_one (Int.ediv_lt_of_lt_mul hw (by rw [Int.add_mul]; omega))
  · rw [Int.min_eq_right hd, Int.max_eq_left hd]
    have a : d * w ≤ t * d := by rw [Int.mul_comm d w]; exact Int.mul_le_mul_of_nonpos_right h1 hd
    have b : t * d ≤ 0 := Int.mul_nonpos_of_nonneg_of_nonpos h0 hd
    exact ⟨Int.le_ediv_of_mul_le hw a, Int.le_of_lt_add_one (Int.ediv_lt_of_lt_mul hw (by omega))⟩

theorem seg_between {xs ys : List Int} (h : Ok xs ys) {k : Nat} (hk : k + 1 < xs.length) {x : Int} (h1 : g xs k ≤ x) (h2 : x ≤ g xs (k + 1)) :
    min (g ys k) (g ys (k + 1)) ≤ seg xs ys k x ∧ seg xs ys k x ≤ max (g ys k) (g ys (k + 1)) := by
  have hu := h.up k hk
  have := div_between (t := x - g xs k) (w := g xs (k + 1) - g xs k) (d := g ys (k + 1) - g ys k) (by omega) (by omega) (by omega)
  unfold seg
  omega
/-- What is between, told of the table itself. -/
theorem at_between {xs ys : List Int} (h : Ok xs ys) {k : Nat} (hk : k + 1 < xs.length) {x : Int} (h1 : g xs k ≤ x) (h2 : x ≤ g xs (k + 1)) :
    min (g ys k) (g ys (k + 1)) ≤ atO xs ys x ∧ atO xs ys x ≤ max (g ys k) (g ys (k + 1)) := by
  rw [at_seg h hk h1 h2]; exact seg_between h hk h1 h2
theorem at_nonneg {xs ys : List Int} (h : Ok xs ys) (x : Int) : 0 ≤ atO xs ys x := by
  have h2 := h.two
  rcases place h x with a | a | ⟨k, hk, a, b⟩
  · rw [at_lo h a]; exact (h.yb 0 (by omega)).1
  · rw [at_hi h a]; exact (h.yb _ (by omega)).1
  · have := at_between h hk a (by omega)
    have y1 := h.yb k (by omega)
    have y2 := h.yb (k + 1) (by omega)
    omega
theorem y_le_mx {xs ys : List Int} (h : Ok xs ys) {k : Nat} (hk : k < xs.length) : g ys k ≤ mx ys := mx_ge (g_mem (by rw [h.same]; exact hk))
theorem at_le_mx {xs ys : List Int} (h : Ok xs ys) (x : Int) : atO xs ys x ≤ mx ys := by
  have h2 := h.two
  rcases place h x with a | a | ⟨k, hk, a, b⟩
  · rw [at_lo h a]; exact y_le_mx h (by omega)
  · rw [at_hi h a]; exact y_le_mx h (by omega)
  · have := at_between h hk a (by omega)
    have y1 := y_le_mx h (k := k) (by omega)
    have y2 := y_le_mx h (k := k + 1) (by omega)
    omega
theorem mx_point {xs ys : List Int} (h : Ok xs ys) : ∃ k, k < xs.length ∧ g ys k = mx ys := by
  have h2 := h.two
  rcases mx_is ys with e | e
  · have a := h.yb 0 (by omega)
    have b := y_le_mx h (k := 0) (by omega)
    exact ⟨0, by omega, by omega⟩
  · obtain ⟨k, hk, e⟩ := mem_g e
    exact ⟨k, by rw [← h.same]; exact hk, e⟩
theorem mx_bd {xs ys : List Int} (h : Ok xs ys) : 0 ≤ mx ys ∧ mx ys ≤ 1048576 := by
  obtain ⟨k, hk, e⟩ := mx_point h
  rw [← e]; exact h.yb k hk
theorem at_bd {xs ys : List Int} (h : Ok xs ys) (x : Int) : 0 ≤ atO xs ys x ∧ atO xs ys x ≤ 1048576 := ⟨at_nonneg h x, Int.le_trans (at_le_mx h x) (mx_bd h).2⟩

/-- A quotient raised, by what it is. -/
theorem cl_spec {d w : Int} (hw : 0 < w) : d ≤ w * cl d w ∧ w * cl d w < d + w := by
  unfold cl
  have a := Int.mul_ediv_add_emod (-d) w
  have b := Int.emod_nonneg (-d) (show w ≠ 0 by omega)
  have c := Int.emod_lt_of_pos (-d) hw
  rw [Int.mul_neg]
  omega
theorem cl_nonneg {d w : Int} (hw : 0 < w) (hd : 0 ≤ d) : 0 ≤ cl d w := by
  unfold cl
  have : (-d) / w < 1 := Int.ediv_lt_of_lt_mul hw (by omega)
  omega
theorem cl_ref {d w : Int} (hw : 0 < w) : (d + w - 1) / w = cl d w := by
  obtain ⟨a, b⟩ := cl_spec (d := d) hw
  have e1 : (d + w - 1) / w < cl d w + 1 := Int.ediv_lt_of_lt_mul hw (by rw [Int.add_mul, Int.mul_comm (cl d w) w]; omega)
  have e2 : cl d w ≤ (d + w - 1) / w := Int.le_ediv_of_mul_le hw (by rw [Int.mul_comm (cl d w) w]; omega)
  omega
theorem cl_le {d w : Int} (hw : 0 < w) (hd : 0 ≤ d) : cl d w ≤ d := by
  obtain ⟨a, b⟩ := cl_spec (d := d) hw
  have n := cl_nonneg hw hd
  by_cases c : cl d w ≤ d
  · exact c
  · have : w * (d + 1) ≤ w * cl d w := Int.mul_le_mul_of_nonneg_left (by omega) (by omega)
    have e : d * 1 ≤ d * w := Int.mul_le_mul_of_nonneg_left (by omega) hd
    rw [Int.mul_add, Int.mul_comm w d] at this
    omega

/-- Two quotients side by side. -/
theorem div_step {a d w : Int} (hw : 0 < w) : (a + d) / w - a / w ≤ cl (max d (-d)) w ∧ a / w - (a + d) / w ≤ cl (max d (-d)) w := by
  obtain ⟨p, q⟩ := cl_spec (d := max d (-d)) hw
  generalize cl (max d (-d)) w = c at *
  have e1 := Int.mul_ediv_add_emod a w
  have e2 := Int.emod_nonneg a (show w ≠ 0 by omega)
  have e3 := Int.emod_lt_of_pos a hw
  have f : (a + d) / w < a / w + c + 1 := Int.ediv_lt_of_lt_mul hw (by rw [Int.add_mul, Int.add_mul, Int.mul_comm (a / w) w, Int.mul_comm c w]; omega)
  have f2 : a / w - c ≤ (a + d) / w := Int.le_ediv_of_mul_le hw (by rw [Int.sub_mul, Int.mul_comm (a / w) w, Int.mul_comm c w]; omega)
  omega
theorem seg_step {xs ys : List Int} (h : Ok xs ys) {k : Nat} (hk : k + 1 < xs.length) (x : Int) :
    seg xs ys k (x + 1) - seg xs ys k x ≤ stp xs ys k ∧ seg xs ys k x - seg xs ys k (x + 1) ≤ stp xs ys k := by
  have hu := h.up k hk
  have := div_step (a := (x - g xs k) * (g ys (k + 1) - g ys k)) (d := g ys (k + 1) - g ys k) (w := g xs (k + 1) - g xs k) (by omega)
  unfold seg stp
  rw [show x + 1 - g xs k = (x - g xs k) + 1 from by omega, Int.add_mul, Int.one_mul]
  rw [show -(g ys (k + 1) - g ys k) = g ys k - g ys (k + 1) from by omega] at this
  omega
theorem stp_nonneg {xs ys : List Int} (h : Ok xs ys) {k : Nat} (hk : k + 1 < xs.length) : 0 ≤ stp xs ys k := by
  have hu := h.up k hk
  exact cl_nonneg (by omega) (by omega)
theorem stp_bd {xs ys : List Int} (h : Ok xs ys) {k : Nat} (hk : k + 1 < xs.length) : 0 ≤ stp xs ys k ∧ stp xs ys k ≤ 1048576 := by
  have hu := h.up k hk
  have y1 := h.yb k (by omega)
  have y2 := h.yb (k + 1) (by omega)
  exact ⟨stp_nonneg h hk, Int.le_trans (cl_le (by omega) (by omega)) (by omega)⟩
theorem stU_ge (xs ys : List Int) {m k : Nat} (hk : k < m) : stp xs ys k ≤ stU xs ys m := mx_ge (List.mem_map.2 ⟨k, List.mem_range.2 hk, rfl⟩)
theorem stU_nonneg (xs ys : List Int) (m : Nat) : 0 ≤ stU xs ys m := mx_nonneg _
theorem stU_bd {xs ys : List Int} (h : Ok xs ys) : ∀ m, m + 1 ≤ xs.length → 0 ≤ stU xs ys m ∧ stU xs ys m ≤ 1048576 := by
  intro m hm
  refine ⟨stU_nonneg _ _ _, ?_⟩
  induction m with
  | zero => rw [stU_zero]; omega
  | succ m ih => rw [stU_succ]; have := ih (by omega); have := stp_bd h (k := m) (by omega); omega
theorem stU_is (xs ys : List Int) (m : Nat) : stU xs ys m = 0 ∨ ∃ k, k < m ∧ stp xs ys k = stU xs ys m := by
  rcases mx_is ((List.range m).map (stp xs ys)) with e | e
  · exact .inl e
  · obtain ⟨k, hk, e⟩ := List.mem_map.1 e
    exact .inr ⟨k, List.mem_range.1 hk, e⟩

/-- Two numbers side by side. -/
theorem at_step {xs ys : List Int} (h : Ok xs ys) (x : Int) : atO xs ys (x + 1) - atO xs ys x ≤ stU xs ys (xs.length - 1) ∧ atO xs ys x - atO xs ys (x + 1) ≤ stU xs ys (xs.length - 1) := by
  have h2 := h.two
  have hn := stU_nonneg xs ys (xs.length - 1)
  rcases place h x with a | a | ⟨k, hk, a, b⟩
  · by_cases c : x + 1 ≤ g xs 0
    · rw [at_lo h a, at_lo h c]; omega
    · have hu := h.up 0 (by omega)
      rw [at_seg h (k := 0) (by omega) (x := x) (by omega) (by omega), at_seg h (k := 0) (by omega) (x := x + 1) (by omega) (by omega)]
      have s := seg_step h (k := 0) (by omega) x
      have := stU_ge xs ys (m := xs.length - 1) (k := 0) (by omega)
      omega
  · rw [at_hi h a, at_hi h (show g xs (xs.length - 1) ≤ x + 1 by omega)]; omega
  · rw [at_seg h hk (x := x) a (by omega), at_seg h hk (x := x + 1) (by omega) (by omega)]
    have s := seg_step h hk x
    have := stU_ge xs ys (m := xs.length - 1) (k := k) (by omega)
    omega

/-! ### tables that rise -/

theorem seg_mono {xs ys : List Int} (h : Ok xs ys) {k : Nat} (hk : k + 1 < xs.length) (hy : g ys k ≤ g ys (k + 1)) {a b : Int} (hab : a ≤ b) : seg xs ys k a ≤ seg xs ys k b := by
  have hu := h.up k hk
  unfold seg
  have : (a - g xs k) * (g ys (k + 1) - g ys k) ≤ (b - g xs k) * (g ys (k + 1) - g ys k) := Int.mul_le_mul_of_nonneg_right (by omega) (by omega)
  have := Int.ediv_le_ediv (c := g xs (k + 1) - g xs k) (by omega) this
  omega
theorem ri_le {ys : List Int} (h : riB ys = true) : ∀ {j k : Nat}, j ≤ k → k < ys.length → g ys j ≤ g ys k := by
  intro j k hjk hk
  rw [riB_iff] at h
  induction k with
  | zero => obtain rfl : j = 0 := by omega
            exact Int.le_refl _
  | succ k ih =>
    by_cases e : j = k + 1
    · subst e; exact Int.le_refl _
    · have := ih (by omega) (by omega); have := h k hk; omega
theorem at_mono {xs ys : List Int} (h : Ok xs ys) (hr : riB ys = true) {a b : Int} (hab : a ≤ b) : atO xs ys a ≤ atO xs ys b := by
  have h2 := h.two
  have hs := h.same
  rcases place h b with pb | pb | ⟨j, hj, b1, b2⟩
  · rw [at_lo h pb, at_lo h (Int.le_trans hab pb)]; exact Int.le_refl _
  · rw [at_hi h pb]
    rcases place h a with pa | pa | ⟨k, hk, a1, a2⟩
    · rw [at_lo h pa]; exact ri_le hr (by omega) (by omega)
    · rw [at_hi h pa]; exact Int.le_refl _
    · have := at_between h hk a1 (by omega)
      have := ri_le hr (j := k) (k := k + 1) (by omega) (by omega)
      have := ri_le hr (j := k + 1) (k := xs.length - 1) (by omega) (by omega)
      omega
  · have hb := at_between h hj b1 (by omega)
    have r1 := ri_le hr (j := j) (k := j + 1) (by omega) (by omega)
    rcases place h a with pa | pa | ⟨k, hk, a1, a2⟩
    · rw [at_lo h pa]
      have := ri_le hr (j := 0) (k := j) (by omega) (by omega)
      omega
    · have := up_le h (j := j + 1) (k := xs.length - 1) (by omega) (by omega); omega
    · have ha := at_between h hk a1 (by omega)
      have r2 := ri_le hr (j := k) (k := k + 1) (by omega) (by omega)
      rcases Nat.lt_trichotomy k j with c | c | c
      · have := ri_le hr (j := k + 1) (k := j) (by omega) (by omega)
        omega
      · subst c
        rw [at_seg h hk a1 (by omega), at_seg h hk b1 (by omega)]
        exact seg_mono h hk r2 hab
      · have := up_le h (j := j + 1) (k := k) (by omega) (by omega); omega
theorem mx_last {xs ys : List Int} (h : Ok xs ys) (hr : riB ys = true) : mx ys = g ys (ys.length - 1) := by
  have h2 := h.two
  have hs := h.same
  obtain ⟨k, hk, e⟩ := mx_point h
  have a := ri_le hr (j := k) (k := ys.length - 1) (by omega) (by omega)
  have b := y_le_mx h (k := ys.length - 1) (by omega)
  omega

/-! ### back -/

theorem wid_eq {xs ys : List Int} (h : Ok xs ys) : (wid xs : Int) = g xs (xs.length - 1) - g xs 0 := by
  have h2 := h.two
  have := up_le h (j := 0) (k := xs.length - 1) (by omega) (by omega)
  unfold wid; omega
theorem bk_spec {xs ys : List Int} (h : Ok xs ys) (y : Int) : g xs 0 ≤ bkO xs ys y ∧ bkO xs ys y ≤ g xs (xs.length - 1) ∧ (∀ q, g xs 0 ≤ q → q < bkO xs ys y → atO xs ys q < y) ∧ (bkO xs ys y < g xs (xs.length - 1) → y ≤ atO xs ys (bkO xs ys y)) := by
  have hw := wid_eq h
  obtain ⟨a, b, c⟩ := find_range (p := fun i => decide (y ≤ atO xs ys (g xs 0 + (i : Nat)))) (n := wid xs)
  unfold bkO
  refine ⟨by omega, by omega, ?_, ?_⟩
  · intro q q1 q2
    have := b (q - g xs 0).toNat (by omega)
    rw [show g xs 0 + (((q - g xs 0).toNat : Nat) : Int) = q from by omega] at this
    simpa using this
  · intro q
    have := c (by omega)
    simpa using this
theorem bk_unique {xs ys : List Int} (h : Ok xs ys) {y p : Int} (h1 : g xs 0 ≤ p) (h2 : p ≤ g xs (xs.length - 1)) (h3 : ∀ q, g xs 0 ≤ q → q < p → atO xs ys q < y) (h4 : p < g xs (xs.length - 1) → y ≤ atO xs ys p) : bkO xs ys y = p := by
  obtain ⟨a, b, c, d⟩ := bk_spec h y
  rcases Int.lt_trichotomy (bkO xs ys y) p with e | e | e
  · have := h3 _ a e; have := d (by omega); omega
  · exact e
  · have := c p h1 e; have := h4 (by omega); omega
theorem at_lt_prefix {xs ys : List Int} (h : Ok xs ys) {y : Int} {k : Nat} (hk : k < xs.length) (hy : ∀ j, j ≤ k → g ys j < y) {q : Int} (hq : q ≤ g xs k) : atO xs ys q < y := by
  rcases place h q with a | a | ⟨j, hj, a, b⟩
  · rw [at_lo h a]; exact hy 0 (by omega)
  · by_cases e : k = xs.length - 1
    · rw [at_hi h a, ← e]; exact hy k (Nat.le_refl _)
    · have := up_lt h (j := k) (k := xs.length - 1) (by omega) (by omega); omega
  · by_cases e : k ≤ j
    · have := up_le h (j := k) (k := j) e (by omega)
      have : q = g xs j := by omega
      by_cases e2 : k = j
      · subst e2; rw [this, at_point h hk]; exact hy k (Nat.le_refl _)
      · have := up_lt h (j := k) (k := j) (by omega) (by omega); omega
    · have := at_between h hj a (by omega)
      have := hy j (by omega)
      have := hy (j + 1) (by omega)
      omega
theorem bk_first {xs ys : List Int} (h : Ok xs ys) {y : Int} (h0 : y ≤ g ys 0) : bkO xs ys y = g xs 0 := by
  have h2 := h.two
  exact bk_unique h (Int.le_refl _) (up_le h (by omega) (by omega)) (fun q a b => by omega) (fun _ => by rw [at_lo h (Int.le_refl _)]; exact h0)
theorem bk_none {xs ys : List Int} (h : Ok xs ys) {y : Int} (h0 : ∀ j, j < xs.length → g ys j < y) : bkO xs ys y = g xs (xs.length - 1) := by
  have h2 := h.two
  exact bk_unique h (up_le h (by omega) (by omega)) (Int.le_refl _) (fun q _ b => at_lt_prefix h (k := xs.length - 1) (by omega) (fun j hj => h0 j (by omega)) (by omega)) (fun e => by omega)
theorem bk_seg {xs ys : List Int} (h : Ok xs ys) {y p : Int} {k : Nat} (hk : k + 1 < xs.length) (hy : ∀ j, j ≤ k → g ys j < y) (hy1 : y ≤ g ys (k + 1)) (p1 : g xs k < p) (p2 : p ≤ g xs (k + 1)) (s1 : seg xs ys k (p - 1) < y) (s2 : y ≤ seg xs ys k p) : bkO xs ys y = p := by
  have h2 := h.two
  have u0 := up_le h (j := 0) (k := k) (by omega) (by omega)
  have u1 := up_le h (j := k + 1) (k := xs.length - 1) (by omega) (by omega)
  refine bk_unique h (by omega) (by omega) ?_ (fun _ => by rw [at_seg h hk (by omega) p2]; exact s2)
  intro q q1 q2
  by_cases c : q ≤ g xs k
  · exact at_lt_prefix h (by omega) hy c
  · rw [at_seg h hk (by omega) (by omega)]
    have := seg_mono h hk (by have := hy k (Nat.le_refl _); omega) (a := q) (b := p - 1) (by omega)
    omega
/-- What is at the place that Back finds. -/
theorem bk_enough {xs ys : List Int} (h : Ok xs ys) (y : Int) : y ≤ atO xs ys (bkO xs ys y) ∨ (bkO xs ys y = g xs (xs.length - 1) ∧ mx ys < y) := by
  obtain ⟨a, b, c, d⟩ := bk_spec h y
  have h2 := h.two
  by_cases e : y ≤ atO xs ys (bkO xs ys y)
  · exact .inl e
  · right
    have hl : bkO xs ys y = g xs (xs.length - 1) := by
      by_cases f : bkO xs ys y < g xs (xs.length - 1)
      · exact absurd (d f) e
      · omega
    refine ⟨hl, ?_⟩
    obtain ⟨k, hk, e2⟩ := mx_point h
    have p := at_point h hk
    rcases Int.lt_or_le (g xs k) (bkO xs ys y) with f | f
    · have := c _ (up_le h (by omega) hk) f; omega
    · have u := up_le h (j := k) (k := xs.length - 1) (by omega) (by omega)
      have : g xs k = bkO xs ys y := by omega
      rw [this] at p; omega
theorem bk_mono {xs ys : List Int} (h : Ok xs ys) {a b : Int} (hab : a ≤ b) : bkO xs ys a ≤ bkO xs ys b := by
  obtain ⟨a1, a2, a3, a4⟩ := bk_spec h a
  obtain ⟨b1, b2, b3, b4⟩ := bk_spec h b
  rcases Int.lt_or_le (bkO xs ys b) (bkO xs ys a) with e | e
  · have := a3 _ b1 e; have := b4 (by omega); omega
  · exact e

end Tb

/- General lemmas, over any program, for the last step of a law: a call that answers true, and leaves all that was there as it was, meets the row; and how arguments are opened. -/
namespace Go.Proofs.YtodilljomjhohaaDoor
namespace Lk
open Go.RowKit Go.WideShapes Go.ChangeShapes Go.ChangeAt

section
variable {H : Type} {enc : TypeId × Value → H} {P : Program}

theorem trodAll_keep (hl : laidOutB P = true) {W W' : World} {sp : Nat → Bool} : ∀ {ts : List TypeId} {vs : List Value} {ds : List (DataW H)} {ps : List MemPlace},
    (ts.all fun t => P.readableRec t && decide (t < P.types.size)) = true → DataW.TrodAll enc P W 0 (fun _ => true) true ts vs ds ps →
    (∀ p ∈ ps, W.sameAt W' p) → (∀ p ∈ ps, sp p.block = true) → DataW.TrodAll enc P W' 0 sp true ts vs ds ps
  | [], [], [], _, _, h, _, _ => h
  | t :: ts, v :: vs, d :: ds, ps, ha, h, hs, hp => by
    obtain ⟨p, q, h1, h2, rfl⟩ := h
    simp only [List.all_cons, Bool.and_eq_true, decide_eq_true_eq] at ha
    exact ⟨p, q, WideElems.Trod_stays hl ha.1.1 ha.1.2 h1 (fun x hx => hs x (List.mem_append_left _ hx)) (fun x hx => hp x (List.mem_append_left _ hx)),
      trodAll_keep hl (by simpa using ha.2) h2 (fun x hx => hs x (List.mem_append_right _ hx)) (fun x hx => hp x (List.mem_append_right _ hx)), rfl⟩
  | [], _ :: _, _, _, _, h, _, _ => by simp [DataW.TrodAll] at h
  | [], [], _ :: _, _, _, h, _, _ => by simp [DataW.TrodAll] at h
  | _ :: _, [], _, _, _, h, _, _ => by simp [DataW.TrodAll] at h
  | _ :: _, _ :: _, [], _, _, h, _, _ => by simp [DataW.TrodAll] at h

/-- The end of a law: it answered true, and below the old heap's size nothing has turned. -/
theorem law_end {f : Func} {s : ChangeSpec} {apart fresh handsOn again : Bool} {W W' : World} {args : Array Value} {ds : List (DataW H)} {before : List MemPlace} {tb : TypeId}
    (hW : DataW.Whole enc P f.params.toList s.vars apart W args.toList ds [] before) (hvars : s.vars = [])
    (hl : laidOutB P = true) (hp : (f.params.toList.all fun t => P.readableRec t && decide (t < P.types.size)) = true)
    (hr : f.resultTypes = #[tb]) (htb : P.underlying tb = some .bool)
    (hfn : s.fn H (ds ++ []) = { results := [.lit (.bool true)], args := ds }) (hb : Below W.heap.size W W') :
    s.post enc P f apart fresh handsOn again W args (.bool true) W' := by
  have hW0 := hW
  have hlt : ∀ p ∈ before, p.block < W.heap.size := fun p hp => hW.lt p hp
  have hold : ∀ p ∈ before, (fun b => decide (b < W.heap.size)) p.block = true := fun p hp => by simpa using hlt p hp
  obtain ⟨p, q, hA, hV, rfl, hz, hn⟩ := hW
  rw [hvars] at hV
  obtain ⟨_, rfl⟩ := trodVars_none hV
  have hres : ∀ (b : Nat) (sp : Nat → Bool) (hd : Bool), DataW.TrodAll enc P W' b sp hd f.resultTypes.toList ((Value.bool true).resultList f.resultTypes.size) (s.fn H (ds ++ [])).results [] := by
    intro b sp hd
    rw [hfn, hr]
    exact trodAll_cons_mk (shut_bool htb _) trodAll_mk0
  have hargs : ∀ sp : Nat → Bool, (∀ x ∈ p ++ [], sp x.block = true) → DataW.TrodAll enc P W' 0 sp true f.params.toList args.toList (s.fn H (ds ++ [])).args p := by
    intro sp hsp
    rw [hfn]
    exact trodAll_keep hl hp hA (fun x hx => hb.same (hlt x (by simpa using hx))) (fun x hx => hsp x (by simpa using hx))
  have hv2 : ∀ sp : Nat → Bool, DataW.TrodVars enc P W' sp s.vars (s.fn H (ds ++ [])).vars [] := by
    intro sp
    rw [hfn, hvars]
    rfl
  have hok : ∀ (j : Nat) (t : TypeId) (r : Value), f.resultTypes[j]? = some t → ((Value.bool true).resultList f.resultTypes.size)[j]? = some r → Value.okWide P W' .any 0 t r := by
    intro j t r h1 h2
    rw [hr] at h1 h2
    match j with
    | 0 =>
      simp only [Array.size_singleton, Value.resultList] at h1 h2
      injection h1 with h1
      injection h2 with h2
      subst h1; subst h2
      exact okWide_bool_mk htb _
    | j + 1 => simp at h1
  refine ⟨ds, [], p ++ [], [], p, [], hW0, hres _ _ _, hargs _ hold, hv2 _, World.keptBut_mono (fun x hx => ⟨hx, ?_⟩) (hb.frame (· ∈ p ++ [])), fun _ => ?_⟩
  · exact Or.inr (by simpa using hx)
  · refine ⟨hok, _, _, ([] ++ p) ++ [], ⟨[] ++ p, [], trodAll_append (hargs _ (fun _ _ => rfl)) (hres _ _ _), hv2 _, rfl, ?_, ?_⟩, ?_⟩
    · intro b off hx
      have hin : MemPlace.cell b off ∈ p ++ [] := by simpa using hx
      rw [hb.frozen (hlt _ hin)]
      exact hz b off hin
    · intro ha
      have := hn ha
      simpa using this
    · intro x hx _
      simpa using hx

/-- A slice value, nil let in, whose elements are the numbers of a list. -/
def IntsAt (w : World) (k : IntKind) (A : Option Addr) (l : List Int) : Prop :=
  ∀ i, i < l.length → ∃ b off, A = some ⟨b, off, none⟩ ∧ w.cell? ⟨b, off + i, none⟩ = some (.int k (l.getD i 0))

theorem IntsAt.below {w w' : World} {k : IntKind} {A : Option Addr} {l : List Int} (h : IntsAt w k A l) (hb : Below w.heap.size w w') : IntsAt w' k A l := by
  intro i hi
  obtain ⟨b, off, e, hc⟩ := h i hi
  exact ⟨b, off, e, (hb.cell (World.block_lt_of_cell? _ _ hc)).trans hc⟩

/-- A slice of integers that came in. -/
theorem open_ints_any {t e : TypeId} {k : IntKind} {W : World} {base : Nat} {v : Value} {d : DataW H} {ps : List MemPlace} (ht : P.underlying t = some (.slice e)) (he : P.underlying e = some (.int k)) (hc : P.cellsOf e = 1)
    (hv : Value.okWide P W .any base t v) (h : DataW.Trod enc P W 0 (fun _ => true) true t v d ps) :
    ∃ (A : Option Addr) (l : List Int) (cap : Nat), v = .slice A l.length cap ∧ l.length ≤ cap ∧ cap ≤ maxLen ∧ IntsAt W k A l ∧ (∀ n ∈ l, (Lit.int k n).wf = true) := by
  obtain ⟨a0, len, cap, rfl⟩ := okWide_slice ht hv
  obtain ⟨fuel, hf⟩ := h
  rcases open_ints ht he hc hf with ⟨hcs, _⟩ | ⟨a, len', cap', zs, hcs, _, hlc, hm, hz, _, hcell, hwz⟩
  · simp only [Value.cells, List.cons.injEq, Value.slice.injEq, and_true] at hcs
    obtain ⟨rfl, rfl, rfl⟩ := hcs
    exact ⟨none, [], 0, rfl, Nat.le_refl _, Nat.zero_le _, fun i hi => by simp at hi, fun n hn => by simp at hn⟩
  · simp only [Value.cells, List.cons.injEq, Value.slice.injEq, and_true] at hcs
    obtain ⟨rfl, rfl, rfl⟩ := hcs
    have hzl : len ≤ zs.length := by rw [hz]; simpa using hlc
    have hl : (zs.take len).length = len := by simp; omega
    refine ⟨some a, zs.take len, cap, by rw [hl], by omega, hm, ?_, fun n hn => hwz n (List.mem_of_mem_take hn)⟩
    intro i hi
    rw [hl] at hi
    obtain ⟨b, off, rfl, hcc⟩ := ints_at hcell (by omega)
    refine ⟨b, off, rfl, ?_⟩
    rw [hcc i (by omega)]
    simp [List.getD_eq_getElem?_getD, hi]

end
end Lk
end Go.Proofs.YtodilljomjhohaaDoor

/- Contracts of package table's small functions, and of the library's that it calls, over this seat's program. -/
namespace Go.Proofs.YtodilljomjhohaaDoor
namespace TabC
open Go.RowKit

theorem ret_int {k : IntKind} {a b : Int} (h : a = b) : Ending.returned (.int k a) = .returned (.int k b) := by rw [h]
theorem ret_bool {a b : Bool} (h : a = b) : Ending.returned (.bool a) = .returned (.bool b) := by rw [h]

theorem cellG {w : World} {A : Option Addr} {l : List Int} (h : Lk.IntsAt w .i64 A l) {i : Nat} (hi : i < l.length) : ∃ b off, A = some ⟨b, off, none⟩ ∧ w.cell? ⟨b, off + i, none⟩ = some (.int .i64 (Tb.g l i)) := h i hi

theorem below_drewN {B : Nat} {a w : World} (h : Below B a w) (n : Nat) : Below B a (w.drewN n) := ⟨h.os, h.tape, h.output, h.size, h.block⟩

theorem tdivB {a b : Int} (h1 : -4611686018427387904 ≤ a) (h2 : a ≤ 4611686018427387904) : -4611686018427387904 ≤ a.tdiv b ∧ a.tdiv b ≤ 4611686018427387904 := by
  have h := Int.natAbs_tdiv a b
  have h' : (a.tdiv b).natAbs ≤ a.natAbs := by rw [h]; exact Nat.div_le_self _ _
  omega

theorem floor_eq {a b : Int} (hb : 0 < b) : a / b = if a.tmod b < 0 then a.tdiv b - 1 else a.tdiv b := by
  have e1 := Int.tdiv_eq_ediv (a := a) (b := b)
  have e2 := Int.tmod_eq_emod (a := a) (b := b)
  have n1 := Int.emod_nonneg a (show b ≠ 0 by omega)
  have n2 := Int.emod_lt_of_pos a hb
  rw [Int.sign_eq_one_of_pos hb] at e1
  by_cases c : 0 ≤ a ∨ b ∣ a
  · rw [if_pos c] at e1 e2
    rw [if_neg (by omega)]; omega
  · rw [if_neg c] at e1 e2
    have nz : a % b ≠ 0 := fun e => c (.inr (Int.dvd_of_emod_eq_zero e))
    rw [if_pos (by omega)]; omega

theorem outside_c (x : Int) (w : World) :
    Calls Tryd.prog 66 #[.int .i64 x] w fun e w' => e = .returned (.bool (Tb.out x)) ∧ w = w' := by
  go_enter Tryd.func66, Tryd.ntmps66
  go_wp2
  all_goals
    go_ret
    exact ⟨ret_bool (by simp [Tb.out]; try omega), rfl⟩

theorem less_c (a b : Int) (w : World) :
    Calls Tryd.prog 68 #[.int .i64 a, .int .i64 b] w fun e w' => e = .returned (.bool (decide (a < b))) ∧ w = w' := by
  go_enter Tryd.func68, Tryd.ntmps68
  go_wp2
  all_goals
    go_ret
    exact ⟨ret_bool (by simp; try omega), rfl⟩

theorem mul_bd {a b : Int} (h1 : -2097152 ≤ a) (h2 : a ≤ 2097152) (h3 : -2097152 ≤ b) (h4 : b ≤ 2097152) : -4398046511104 ≤ a * b ∧ a * b ≤ 4398046511104 := by
  have p1 : 0 ≤ (2097152 - a) * (2097152 - b) := Int.mul_nonneg (by omega) (by omega)
  have p2 : 0 ≤ (2097152 + a) * (2097152 + b) := Int.mul_nonneg (by omega) (by omega)
  have p3 : 0 ≤ (2097152 - a) * (2097152 + b) := Int.mul_nonneg (by omega) (by omega)
  have p4 : 0 ≤ (2097152 + a) * (2097152 - b) := Int.mul_nonneg (by omega) (by omega)
  simp only [Int.sub_mul, Int.add_mul, Int.mul_sub, Int.mul_add] at p1 p2 p3 p4
  constructor <;> omega
theorem div_bd {a b B : Int} (hb : 0 < b) (h1 : -B ≤ a) (h2 : a ≤ B) (hB : 0 ≤ B) : -B ≤ a / b ∧ a / b ≤ B := by
  have e : B * 1 ≤ B * b := Int.mul_le_mul_of_nonneg_left (by omega) hB
  exact ⟨Int.le_ediv_of_mul_le hb (by rw [Int.neg_mul]; omega), Int.le_of_lt_add_one (Int.ediv_lt_of_lt_mul hb (by rw [Int.add_mul]; omega))⟩

end TabC
end Go.Proofs.YtodilljomjhohaaDoor

/- Contracts: a step's slope; the library's functions that package table calls; the steps' maker. -/
namespace Go.Proofs.YtodilljomjhohaaDoor
namespace TabC
open Go.RowKit

theorem indexFunc_c (A : Option Addr) (c : Nat) (l : List Int) (w : World) (hl : l.length ≤ 9223372036854775807) (hA : Lk.IntsAt w .i64 A l) :
    Calls Tryd.prog 69 #[.slice A l.length c, .func (.func 66) #[] #[]] w fun e w' => (∃ r : Int, e = .returned (.int .i64 r) ∧ decide (0 ≤ r) = l.any Tb.out) ∧ w = w' := by
  have HA := Lib.hid hA
  clear hA
  go_enter Tryd.func69, Tryd.ntmps69
  go_wp2_with fail
  go_loop [8] (fun i => ∃ k : Nat, k ≤ l.length ∧ i = .int .i64 k ∧ (l.take k).any Tb.out = false) (fun i => l.length - (intOf i).toNat)
  case atStart => exact ⟨0, Nat.zero_le _, rfl, by simp⟩
  case round =>
    obtain ⟨k, hk, rfl, hany⟩ := hrel
    have HN := Lib.hid hany
    clear hany
    by_cases hlt : k < l.length
    · obtain ⟨b, off, rfl, hc⟩ := cellG HA.out hlt
      have HT := Lib.hid (Tb.any_take l k hlt)
      generalize hv : Tb.g l k = v at hc HT
      have HV := Lib.hid hv
      clear hv
      cases ho : Tb.out v with
      | true =>
        have HO := Lib.hid ho
        clear ho
        have oc : ∀ W, Calls Tryd.prog 66 #[.int .i64 v] W fun e w' => e = .returned (.bool true) ∧ W = w' := fun W => (outside_c v W).mono fun e w' h => by rw [← HO.out]; exact h
        have OC := Lib.hid oc
        clear oc
        go_wp2_with (go_at_call 66; refine (OC.out _).mono ?_; rintro e w' ⟨rfl, rfl⟩)
        go_ret
        refine ⟨⟨k, rfl, ?_⟩, rfl⟩
        have : l.any Tb.out = true := List.any_eq_true.2 ⟨v, by rw [← HV.out]; exact Tb.g_mem hlt, HO.out⟩
        rw [this]; simp
      | false =>
        have HO := Lib.hid ho
        clear ho
        have oc : ∀ W, Calls Tryd.prog 66 #[.int .i64 v] W fun e w' => e = .returned (.bool false) ∧ W = w' := fun W => (outside_c v W).mono fun e w' h => by rw [← HO.out]; exact h
        have OC := Lib.hid oc
        clear oc
        go_wp2_with (go_at_call 66; refine (OC.out _).mono ?_; rintro e w' ⟨rfl, rfl⟩)
        go_round
        case rel => exact ⟨k + 1, by omega, by go_num, by rw [HT.out, HN.out, HO.out]; rfl⟩
        case measure => simp [intOf]; omega
    · go_wp2_with fail
      go_ret
      refine ⟨⟨-1, rfl, ?_⟩, rfl⟩
      have := HN.out
      rw [List.take_of_length_le (by omega)] at this
      rw [this]; decide

theorem containsFunc_c (A : Option Addr) (c : Nat) (l : List Int) (w : World) (hl : l.length ≤ 9223372036854775807) (hA : Lk.IntsAt w .i64 A l) :
    Calls Tryd.prog 65 #[.slice A l.length c, .func (.func 66) #[] #[]] w fun e w' => e = .returned (.bool (l.any Tb.out)) ∧ w = w' := by
  have IC := Lib.hid (indexFunc_c A c l w hl hA)
  clear hA
  go_enter Tryd.func65, Tryd.ntmps65
  go_wp2_with fail
  refine IC.out.mono ?_
  rintro e w' ⟨⟨r, rfl, hr⟩, rfl⟩
  have HR := Lib.hid hr
  clear hr
  go_wp2_with fail
  all_goals
    go_ret
    exact ⟨ret_bool (by first | exact HR.out | (rw [← HR.out]; simp; omega)), rfl⟩

theorem max_take0 (l : List Int) (h : 0 < l.length) (h0 : 0 ≤ Tb.g l 0) : Tb.g l 0 = Tb.mx (l.take 1) := by
  have := Tb.mx_take l 0 h
  rw [this]; simp [Tb.mx]; omega

theorem max_if (m v : Int) : (if m < v then v else m) = max m v := by split <;> omega

end TabC
end Go.Proofs.YtodilljomjhohaaDoor

/- General, over any program: a region that draws its order, whose first operations leave the world alone and whose last ones come in one order alone, inside a fence that lets every call by (also within a round of a loop over a function): one walk of the text's order serves every order. -/
namespace Go.Proofs.YtodilljomjhohaaDoor
namespace Lk
open Go Go.RowKit

section
variable {F : Fence} {n : Nat} {P : Program} {ops : Array Oper} {md : Region.Mode} {w : World}

/-- A fence that lets every call by. -/
structure Open (F : Fence) (n : Nat) (P : Program) : Prop where
  fn : ∀ f, F.fn f
  depth : F.depth = none
  calls : ∀ f args w (R : Ending → World → Prop), Calls P f args w R → CallsIn F (n - 1) P f args w R

theorem open_wide (n : Nat) (P : Program) : Open Fence.wide n P := ⟨fun _ => trivial, rfl, fun _ _ _ _ h => callsIn_wide.2 h⟩
theorem open_round (n : Nat) (P : Program) (l : Nat) : Open (Fence.wide.inRound l) n P := ⟨fun _ => trivial, rfl, fun _ _ _ _ h => CallsIn.inRound l (callsIn_wide.2 h)⟩

def noDefer (ops : Array Oper) : Bool := ops.all fun o => match o.op with | .defer _ => false | _ => true
theorem noDefer_spec (h : noDefer ops = true) {i : Nat} {o : Oper} (ho : ops[i]? = some o) : ∀ c, o.op ≠ .defer c := by
  intro c hc
  have hm : o ∈ ops := Array.mem_of_getElem? ho
  have := Array.all_eq_true'.1 h o hm
  rw [hc] at this
  cases this

theorem wpOp_of_st (hF : Open F n P) (hd : noDefer ops = true) {i : Nat} {a : Act} {K : Act → Prop} {K' : Act → World → Prop} {Q' : Exit → Act → World → Prop} (h : ∀ a, K a → K' a w) (hh : stOp P ops w i K a) :
    wpOpIn F n P ops Q' i K' a w := by
  unfold stOp at hh
  unfold wpOpIn
  cases ho : ops[i]? with
  | none => simp only [ho] at hh ⊢; exact h _ hh
  | some o =>
    simp only [ho] at hh ⊢
    by_cases hw : Region.wanted o (yielded ops a.tmps) = true
    · simp only [hw, if_true] at hh ⊢
      unfold Oper.still at hh
      unfold Oper.wpIn
      refine ⟨fun f _ => hF.fn f, ?_⟩
      rw [Oper.semAt_eq F.round a.eval o (noDefer_spec hd ho)]
      generalize (execOp a.eval o).run P w = r at *
      cases r with
      | ok x w' =>
        cases x <;> simp only [Oper.stillUpon] at hh <;> simp only [Oper.uponIn]
        case enter f args =>
          obtain ⟨rfl, v, hc, hn⟩ := hh
          refine ⟨fun e => (by rw [hF.depth] at e; cases e), hF.calls _ _ _ _ (hc.mono fun e w'' ⟨he, hw⟩ => ?_)⟩
          subst he; subst hw; exact h _ hn
        all_goals (obtain ⟨rfl, h2⟩ := hh; exact h _ h2)
      | halt x w' => simp only [Oper.stillUpon] at hh
    · simp only [hw] at hh ⊢
      exact ⟨fun f _ => hF.fn f, h _ hh⟩

theorem wpAny_of_head (hF : Open F n P) (hd : noDefer ops = true) {N g : Nat} {L : Array Bool → Act → Prop} {Q' : Exit → Act → World → Prop} (hL : ∀ listed a, L listed a → wpAnyIn F n P md ops Q' g listed a w) :
    ∀ (f : Nat) (listed : Array Bool) (a : Act), wpAnyL P md ops w N L f listed a → wpAnyIn F n P md ops Q' (f + g) listed a w
  | 0, listed, a, h => by rw [Nat.zero_add]; exact hL _ _ h
  | f + 1, listed, a, h => by
    rw [show f + 1 + g = (f + g) + 1 by omega]
    exact ⟨fun h0 => absurd h0 h.1, fun i hi => wpOp_of_st hF hd (fun a' h' => wpAny_of_head hF hd hL f _ a' h') (h.2 i hi).2⟩

theorem wpAny_of_seq {Q' : Exit → Act → World → Prop} : ∀ (l : List Oper) (k : Nat) (listed : Array Bool) (a : Act) (w : World), (∀ j, l[j]? = ops[k + j]?) →
    Region.seqB md ops l.length k listed = true → wpListIn F n P ops Q' l a w → wpAnyIn F n P md ops Q' l.length listed a w
  | [], _, _, _, _, _, hB, h => ⟨by simpa [Region.seqB] using hB, h⟩
  | o :: l, k, listed, a, w, hl, hB, h => by
    have h0 : ops[k]? = some o := by simpa using (hl 0).symm
    simp only [List.length_cons, Region.seqB, Bool.and_eq_true, decide_eq_true_eq] at hB
    refine ⟨fun h1 => (by rw [hB.1] at h1; cases h1), fun i hi => ?_⟩
    rw [hB.1] at hi
    have hik : i = k := by simpa using hi
    subst hik
    have hw : wpOpIn F n P ops Q' i (wpListIn F n P ops Q' l) a w := by unfold wpOpIn; simp only [h0]; exact h
    exact wpOpIn_mono (fun a' w' h' => wpAny_of_seq l (i + 1) _ a' w' (fun j => by have := hl (j + 1); simpa [Nat.add_assoc, Nat.add_comm 1 j] using this) hB.2 h') hw

/-- The law. -/
theorem wpIn_region_tail {id : Nat} {Q : Exit → Act → World → Prop} {a : Act} {w : World} {l : List Oper} (N : Nat) (hF : Open F n P) (hm : P.follows .mixedOrders = true) (hB : Region.lexTailB .any l.toArray N = true) (hd : noDefer l.toArray = true)
    (h : wpStill P l.toArray w.drew (fun a' => wpListIn F n P l.toArray Q (l.drop N) a' w.drew) (l.take N) a) : (Code.region id l.toArray true).wpIn F n P Q a w := by
  simp only [Region.lexTailB, Bool.and_eq_true, decide_eq_true_eq] at hB
  obtain ⟨⟨⟨⟨hsel, hn⟩, hs⟩, hc⟩, hlex⟩ := hB
  have hn' : N < l.length := by simpa using hn
  have htl : (l.take N).length = N := by simp; omega
  have hdl : (l.drop N).length = l.toArray.size - N := by simp
  have inv0 : HeadInv .any l.toArray N (Array.replicate l.toArray.size false) :=
    ⟨by simp, fun j oj _ hl => (by rw [getD_replicate_false] at hl; cases hl), fun t _ ht => getD_in (by simpa using ht) (getD_replicate_false _ _)⟩
  have H := wpAnyL_lex (md := .any) (g := l.toArray.size - N) hsel hs hc hn (l.take N) 0 _ a (fun j hj => by
    have hj' : j < N := by rw [htl] at hj; exact hj
    simp [hj']) (by simpa using htl) inv0 (by rw [htl]; exact hlex) h
  refine wpIn_region_any hm ?_
  have := wpAny_of_head hF hd (Q' := Q) (g := l.toArray.size - N) (fun listed a' hL => by
    have := wpAny_of_seq (F := F) (n := n) (md := .any) (Q' := Q) (l.drop N) N listed a' w.drew (fun j => by simp [List.getElem?_drop]) (by rw [hdl]; exact hL.1) hL.2
    rwa [hdl] at this) _ _ _ H
  rw [htl, show N + (l.toArray.size - N) = l.toArray.size by omega] at this
  exact this
end
end Lk
end Go.Proofs.YtodilljomjhohaaDoor

/- Contracts: slices.IsSorted; a table's steps, gone through by a range over a function. -/
namespace Go.Proofs.YtodilljomjhohaaDoor
namespace TabC
open Go.RowKit Go.Shelf

attribute [local go_sem] Oper.semAt_some

def SortedUp (l : List Int) (k : Nat) : Prop := ∀ j, k ≤ j → j + 1 < l.length → Tb.g l j ≤ Tb.g l (j + 1)

set_option maxHeartbeats 1000000 in
theorem isSorted_c (A : Option Addr) (c : Nat) (l : List Int) (w : World) (hl : l.length ≤ 9223372036854775807) (h1 : 0 < l.length) (hA : Lk.IntsAt w .i64 A l) :
    Calls Tryd.prog 64 #[.slice A l.length c] w fun e w' => e = .returned (.bool (Tb.riB l)) ∧ Below w.heap.size w w' := by
  obtain ⟨b, off, rfl, c0⟩ := cellG hA (i := 0) h1
  have hb : b < w.heap.size := World.block_lt_of_cell? _ _ c0
  have HA := Lib.hid hA
  clear hA c0
  go_enter Tryd.func64, Tryd.ntmps64
  go_wp2_with fail
  go_loopw [3] (fun i wr => ∃ k : Nat, k < l.length ∧ i = .int .i64 k ∧ SortedUp l k ∧ Below w.heap.size w wr) (fun i _ => (intOf i).toNat)
  case atStart => exact ⟨l.length - 1, by omega, by go_num, fun j h1 h2 => by omega, Below.refl _ _⟩
  case round =>
    obtain ⟨k, hk, rfl, hs, hB⟩ := hrel
    have HS := Lib.hid hs
    clear hs
    by_cases hlt : 0 < k
    · obtain ⟨b1, off1, e1, hc1⟩ := cellG HA.out (i := k) hk
      obtain ⟨b2, off2, e2, hc2⟩ := cellG HA.out (i := k - 1) (by omega)
      simp only [Option.some.injEq, Addr.mk.injEq, and_true] at e1 e2
      obtain ⟨rfl, rfl⟩ := e1
      obtain ⟨rfl, rfl⟩ := e2
      have hd1 := (hB.cell (p := ⟨b, off + k, none⟩) hb).trans hc1
      have hd2 := (hB.cell (p := ⟨b, off + (k - 1), none⟩) hb).trans hc2
      clear hc1 hc2
      obtain ⟨k', rfl⟩ : ∃ k', k = k' + 1 := ⟨k - 1, by omega⟩
      rw [Nat.add_sub_cancel] at hd2
      generalize hx : Tb.g l (k' + 1) = x at hd1
      generalize hy : Tb.g l k' = y at hd2
      have HX := Lib.hid hx
      have HY := Lib.hid hy
      clear hx hy
      have e3 : IntKind.i64.wrap (((k' + 1 : Nat) : Int) - 1) = (k' : Int) := by rw [IntWalk.i64_in _ (by omega)]; omega
      have e4 : ((k' + 1 : Nat) : Int) - 1 = (k' : Int) := by omega
      by_cases hxy : x < y
      · have hd : decide (x < y) = true := by simp [hxy]
        have lc : ∀ W, Calls Tryd.prog 68 #[.int .i64 x, .int .i64 y] W fun e w' => e = .returned (.bool true) ∧ w' = W :=
          fun W => (less_c x y W).mono fun _ _ h => ⟨by rw [← hd]; exact h.1, h.2.symm⟩
        have LC := Lib.hid lc
        clear lc
        go_wp2_with fail
        go_quiet ((go_at_call 68; exact Calls.quiet_of_same (LC.out _)))
        go_wp2_with fail
        go_ret
        refine ⟨ret_bool ?_, below_drewN hB _⟩
        symm
        rw [Bool.eq_false_iff]
        intro h
        have := (Tb.riB_iff l).1 h k' hk
        rw [HX.out, HY.out] at this
        omega
      · have hd : decide (x < y) = false := by simp [hxy]
        have lc : ∀ W, Calls Tryd.prog 68 #[.int .i64 x, .int .i64 y] W fun e w' => e = .returned (.bool false) ∧ w' = W :=
          fun W => (less_c x y W).mono fun _ _ h => ⟨by rw [← hd]; exact h.1, h.2.symm⟩
        have LC := Lib.hid lc
        clear lc
        go_wp2_with fail
        go_quiet ((go_at_call 68; exact Calls.quiet_of_same (LC.out _)))
        go_wp2_with fail
        go_roundw
        case rel =>
          refine ⟨k', by omega, by go_num, ?_, below_drewN hB _⟩
          intro j h1 h2
          by_cases e : j = k'
          · subst e; rw [HX.out, HY.out]; omega
          · exact HS.out j (by omega) h2
        case measure => simp [intOf]
    · obtain rfl : k = 0 := by omega
      go_wp2_with fail
      go_ret
      refine ⟨ret_bool ?_, hB⟩
      symm
      rw [Tb.riB_iff]
      intro j hj
      exact HS.out j (Nat.zero_le _) hj

/-- **steps**: the table is boxed; the function value captures the box. -/
theorem steps_c (A B : Option Addr) (na nb ca cb : Nat) (w : World) :
    Calls Tryd.prog 67 #[.agg #[.slice A na ca, .slice B nb cb]] w fun e w' => e = .returned (.func (.func 70) #[] #[.pointer (some ⟨w.heap.size, 0, none⟩)]) ∧ w.alloc (.cells #[.slice A na ca, .slice B nb cb] 25) = w' := by
  go_enter Tryd.func67, Tryd.ntmps67
  go_wp2
  go_ret
  exact ⟨rfl, rfl⟩

/-- A place of a table that has one behind it. -/
abbrev Idx (xs : List Int) := { k : Nat // k + 1 < xs.length }
def stepOf (xs ys : List Int) (k : Nat) : Value := .agg #[.int .i64 (Tb.g xs k), .int .i64 (Tb.g xs (k + 1)), .int .i64 (Tb.g ys k), .int .i64 (Tb.g ys (k + 1))]
def encS (xs ys : List Int) (k : Idx xs) : Array Value := #[stepOf xs ys k.1]
/-- The first m steps. -/
def ups (xs : List Int) : Nat → List (Idx xs)
  | 0 => []
  | m + 1 => if h : m + 1 < xs.length then ups xs m ++ [⟨m, h⟩] else ups xs m
theorem ups_succ {xs : List Int} {m : Nat} (h : m + 1 < xs.length) : ups xs (m + 1) = ups xs m ++ [⟨m, h⟩] := by rw [ups, dif_pos h]
theorem ups_length {xs : List Int} : ∀ {m : Nat}, m + 1 ≤ xs.length → (ups xs m).length = m
  | 0, _ => rfl
  | m + 1, h => by rw [ups_succ (by omega), List.length_append, ups_length (by omega)]; rfl
theorem mem_ups {xs : List Int} {j : Idx xs} : ∀ {m : Nat}, m + 1 ≤ xs.length → (j ∈ ups xs m ↔ j.1 < m)
  | 0, _ => by simp [ups]
  | m + 1, h => by
    rw [ups_succ (by omega), List.mem_append, mem_ups (by omega), List.mem_singleton]
    constructor
    · rintro (h | h)
      · omega
      · rw [h]; simp
    · intro h
      by_cases e : j.1 = m
      · exact .inr (Subtype.ext e)
      · exact .inl (by omega)

/-- What a round keeps: all below n₀, and the table's box. -/
def KpT (n₀ Bs : Nat) (W W' : World) : Prop := Below n₀ W W' ∧ W'.heap[Bs]? = W.heap[Bs]?
theorem KpT.refl (n₀ Bs : Nat) (W : World) : KpT n₀ Bs W W := ⟨Below.refl _ _, rfl⟩
theorem KpT.trans {n₀ Bs : Nat} {A B C : World} (h : KpT n₀ Bs A B) (k : KpT n₀ Bs B C) : KpT n₀ Bs A C := ⟨h.1.trans k.1, k.2.trans h.2⟩
theorem KpT.drew {n₀ Bs : Nat} {A B : World} (h : KpT n₀ Bs A B) : KpT n₀ Bs A B.drew := ⟨h.1.drew, h.2⟩
theorem kpT_b {n₀ Bs : Nat} {w : World} (hn : n₀ ≤ w.heap.size) (hB : Bs < w.heap.size) (W : World) (l : Nat) (o o' : Obj) (hl : w.heap.size ≤ l) (h : W.heap[l]? = some o) (h1 : o.isCells = false) (h2 : o.isWalk = false) : KpT n₀ Bs W (W.putObj l o') :=
  ⟨belowK_b hn W l o o' hl h h1 h2, World.putObj_heap_other (by omega)⟩

/-- A table's box, and its two lists, below n₀. -/
structure TabBox (n₀ Bs : Nat) (W : World) (A B : Option Addr) (ca cb : Nat) (xs ys : List Int) : Prop where
  box : W.heap[Bs]? = some (.cells #[.slice A xs.length ca, .slice B ys.length cb] 25 (0, 0))
  xa : ∀ i, i < xs.length → ∃ b off, A = some ⟨b, off, none⟩ ∧ b < n₀ ∧ W.cell? ⟨b, off + i, none⟩ = some (.int .i64 (Tb.g xs i))
  ya : ∀ i, i < ys.length → ∃ b off, B = some ⟨b, off, none⟩ ∧ b < n₀ ∧ W.cell? ⟨b, off + i, none⟩ = some (.int .i64 (Tb.g ys i))
theorem TabBox.kp {n₀ Bs : Nat} {W W' : World} {A B : Option Addr} {ca cb : Nat} {xs ys : List Int} (h : TabBox n₀ Bs W A B ca cb xs ys) (k : KpT n₀ Bs W W') : TabBox n₀ Bs W' A B ca cb xs ys := by
  refine ⟨k.2.trans h.box, fun i hi => ?_, fun i hi => ?_⟩
  · obtain ⟨b, off, e, hb, hc⟩ := h.xa i hi
    exact ⟨b, off, e, hb, (k.1.cell (p := ⟨b, off + i, none⟩) hb).trans hc⟩
  · obtain ⟨b, off, e, hb, hc⟩ := h.ya i hi
    exact ⟨b, off, e, hb, (k.1.cell (p := ⟨b, off + i, none⟩) hb).trans hc⟩
theorem cell_of_box {W : World} {Bs t : Nat} {vs : Array Value} (h : W.heap[Bs]? = some (.cells vs t (0, 0))) (i : Nat) : W.cell? ⟨Bs, i, none⟩ = vs[i]? := by
  simp [World.cell?, h]

set_option maxRecDepth 100000 in
set_option maxHeartbeats 4000000 in
theorem steps1_in (n l n₀ Bs : Nat) (A B : Option Addr) (ca cb : Nat) (xs ys : List Int) (h2 : 2 ≤ xs.length) (hl : xs.length ≤ 9223372036854775807) (hs : ys.length = xs.length) (J Jx : List (Idx xs) → World → Prop) (W : World)
    (hJ : AbidesFrom W.heap.size J)
    (hY : ∀ pre x W1, J pre W1 → pre.length < xs.length - 1 → YieldAt Fence.wide (n - 1) Tryd.prog l (encS xs ys x) W1 fun e W' =>
      (e = .returned (.bool true) ∧ J (pre ++ [x]) W' ∧ KpT n₀ Bs W1 W') ∨ (e = .returned (.bool false) ∧ Jx (pre ++ [x]) W'))
    (hT : TabBox n₀ Bs W A B ca cb xs ys) (h0 : J [] W) :
    CallsIn Fence.wide n Tryd.prog 70 #[.func (.yield l) #[] #[], .pointer (some ⟨Bs, 0, none⟩)] W fun e W' => (∃ v, e = .returned v) ∧
      ((∃ zs, zs = ups xs (xs.length - 1) ∧ J zs W') ∨ (∃ pre, (∃ k, k + 1 < xs.length ∧ pre = ups xs (k + 1)) ∧ Jx pre W')) := by
  have HJ := Lib.hid hJ
  have HY := Lib.hid hY
  have HT := Lib.hid hT
  have HSM := Lib.hid hs
  clear hJ hY hT hs
  refine callsIn_of_wp Tryd.func70 rfl trivial ?_ rfl
  simp only [Tryd.ntmps70, List.size_toArray, List.length_cons, List.length_nil, Nat.reduceAdd, Nat.reduceSub, Array.replicate_succ, Array.replicate_zero, List.push_toArray, List.append_toArray, List.nil_append, List.cons_append]
  gi_wp2
  gi_loopw [3] (fun i wr => ∃ k : Nat, k + 1 ≤ xs.length ∧ i = .int .i64 ((k + 1 : Nat) : Int) ∧ J (ups xs k) wr ∧ KpT n₀ Bs W wr) (fun i _ => xs.length - (intOf i).toNat)
  case atStart => exact ⟨0, by omega, rfl, h0, KpT.refl _ _ _⟩
  case round =>
    obtain ⟨k, hk, rfl, hJs, hK⟩ := hrel
    have HT2 := Lib.hid (HT.out.kp hK)
    have cx : wr.cell? ⟨Bs, 0, none⟩ = some (.slice A xs.length ca) := by rw [cell_of_box HT2.out.box]; rfl
    have cy : wr.cell? ⟨Bs, 1, none⟩ = some (.slice B ys.length cb) := by rw [cell_of_box HT2.out.box]; rfl
    rw [HSM.out] at cy
    have HK := Lib.hid hK
    clear hK
    by_cases hlt : k + 1 < xs.length
    · obtain ⟨b1, o1, rfl, hb1, c1⟩ := HT2.out.xa k (by omega)
      obtain ⟨b1', o1', e1, _, c2⟩ := HT2.out.xa (k + 1) hlt
      simp only [Option.some.injEq, Addr.mk.injEq, and_true] at e1
      obtain ⟨rfl, rfl⟩ := e1
      obtain ⟨b2, o2, rfl, hb2, c3⟩ := HT2.out.ya k (by rw [HSM.out]; omega)
      obtain ⟨b2', o2', e2, _, c4⟩ := HT2.out.ya (k + 1) (by rw [HSM.out]; exact hlt)
      simp only [Option.some.injEq, Addr.mk.injEq, and_true] at e2
      obtain ⟨rfl, rfl⟩ := e2
      have hJd : J (ups xs k) wr.drew := HJ.out _ wr wr.drew none hJs ⟨rfl, rfl, rfl, Nat.le_refl _, fun _ _ _ => rfl⟩ (fun r e => by cases e)
      obtain ⟨fn, tmps, assign, body, hy, hR⟩ := HY.out (ups xs k) ⟨k, hlt⟩ wr.drew hJd (by rw [ups_length (by omega)]; omega)
      simp only [encS, stepOf] at hy
      have HR := Lib.hid hR
      have e5 : IntKind.i64.wrap (k : Int) = k := IntWalk.i64_in _ (by omega)
      have g0 : k < xs.length := by omega
      have g1 : (k : Int) + 1 < (xs.length : Int) := by omega
      have g2 : 0 ≤ (k : Int) + 1 := by omega
      have g3 : ((k : Int) + 1).toNat = k + 1 := by omega
      clear hR hJd
      gi_wp2
      refine Lk.wpIn_region_tail 24 (Lk.open_wide _ _) (by kernel_rfl) (by kernel_rfl) (by kernel_rfl) ?_
      simp only [List.take_succ_cons, List.take_zero, List.drop_succ_cons, List.drop_zero]
      repeat still_step
      try refine wpStill_nil ?_
      gi_wp2
      refine ⟨fun e => (by cases e), HR.out.mono ?_⟩
      rintro e W3 (⟨rfl, hJ3, hk3⟩ | ⟨rfl, hJx3⟩)
      · have hk4 : KpT n₀ Bs W W3 := HK.out.drew.trans hk3
        have HK4 := Lib.hid hk4
        have HJ4 := Lib.hid hJ3
        clear hk3 hk4 hJ3 hy cx cy c1 c2 c3 c4
        gi_wp2
        go_roundw
        case rel => exact ⟨k + 1, by omega, by go_num, by rw [ups_succ hlt]; exact HJ4.out, HK4.out⟩
        case measure => simp [intOf]; omega
      · have HJ4 := Lib.hid hJx3
        clear hJx3 hy cx cy c1 c2 c3 c4
        gi_wp2
        refine bodyPost_ret (results_none rfl _ _ _) rfl ?_
        exact ⟨⟨_, rfl⟩, .inr ⟨_, ⟨k, hlt, (ups_succ hlt).symm⟩, HJ4.out⟩⟩
    · gi_wp2
      go_end0
      exact ⟨⟨_, rfl⟩, .inl ⟨_, by rw [show xs.length - 1 = k from by omega], hJs⟩⟩

/-- **What steps hands back**: all steps; or the first ones, where a round has said 'no more'. -/
theorem steps_stops (n n₀ Bs : Nat) (A B : Option Addr) (ca cb : Nat) (xs ys : List Int) (h2 : 2 ≤ xs.length) (hl : xs.length ≤ 9223372036854775807) (hs : ys.length = xs.length) (w : World) (hn₀ : n₀ ≤ w.heap.size) (hBs : Bs < w.heap.size)
    (hT : TabBox n₀ Bs w A B ca cb xs ys) :
    SeqStopsK Fence.wide n Tryd.prog 70 #[.pointer (some ⟨Bs, 0, none⟩)] (encS xs ys) (KpT n₀ Bs) (fun zs => zs = ups xs (xs.length - 1)) (fun pre => ∃ k, k + 1 < xs.length ∧ pre = ups xs (k + 1)) (xs.length - 1) w := fun l J Jx W hW hJ _ hY h0 =>
  steps1_in n l n₀ Bs A B ca cb xs ys h2 hl hs J Jx W hJ hY (hT.kp ⟨hW.mono hn₀, hW.block Bs hBs⟩) h0

end TabC
end Go.Proofs.YtodilljomjhohaaDoor

/- General, over any program: a loop over a function, at the fence that lets every call by, its loop variable boxed in each round: the kit's law, with the frame of a round told off the frame of the loop; and blocks of cells that are known whole. -/
namespace Go.Proofs.YtodilljomjhohaaDoor
namespace Lk
open Go Go.RowKit

/-- A block of cells, known whole. -/
def BoxV (W : World) (B t : Nat) (vs : Array Value) : Prop := W.heap[B]? = some (.cells vs t (0, 0))
theorem BoxV.lt {W : World} {B t : Nat} {vs : Array Value} (h : BoxV W B t vs) : B < W.heap.size := (Array.getElem?_eq_some_iff.1 h).1
theorem BoxV.new (W : World) (t : Nat) (vs : Array Value) : BoxV (W.alloc (.cells vs t)) W.heap.size t vs := World.alloc_heap_new W _
theorem BoxV.alloc {W : World} {B t : Nat} {vs : Array Value} (h : BoxV W B t vs) (o : Obj) : BoxV (W.alloc o) B t vs := (Below.heap_alloc W o B h.lt).trans h
theorem BoxV.drew {W : World} {B t : Nat} {vs : Array Value} (h : BoxV W B t vs) : BoxV W.drew B t vs := h
theorem BoxV.below {W W' : World} {B t n : Nat} {vs : Array Value} (h : BoxV W B t vs) (hb : Below n W W') (hB : B < n) : BoxV W' B t vs := (hb.block B hB).trans h
theorem BoxV.other {W : World} {B t : Nat} {vs : Array Value} (h : BoxV W B t vs) {p : Addr} (hp : p.block ≠ B) (v : Value) : BoxV (W.setCell p v) B t vs := (Below.heap_setCell W p v B (Ne.symm hp)).trans h
theorem BoxV.set {W : World} {B t : Nat} {v : Value} (v' : Value) (h : BoxV W B t #[v]) : BoxV (W.setCell ⟨B, 0, none⟩ v') B t #[v'] := Boxed.set v' h
theorem BoxV.cell {W : World} {B t : Nat} {vs : Array Value} (h : BoxV W B t vs) (i : Nat) : W.cell? ⟨B, i, none⟩ = vs[i]? := by simp [World.cell?, show W.heap[B]? = _ from h]
theorem BoxV.frozen {W : World} {B t : Nat} {vs : Array Value} (h : BoxV W B t vs) (i : Nat) : W.frozen? ⟨B, i, none⟩ = false := by simp [World.frozen?, show W.heap[B]? = _ from h]
theorem BoxV.kept {W W' : World} {row : Option Nat} {B t : Nat} {vs : Array Value} (h : BoxV W B t vs) (hg : W.grownBy W' row) (hr : ∀ r, row = some r → ∃ o : Obj, W.heap[r]? = some o ∧ o.isCells = false) : BoxV W' B t vs := by
  refine (hg.block B h.lt (fun e => ?_)).trans h
  obtain ⟨o, ho, hc⟩ := hr B e.symm
  rw [show W.heap[B]? = _ from h] at ho
  cases ho
  cases hc
theorem boxV_own {β : Type} (B t : Nat) (vs : β → Array Value) : Own (fun (s : β) W => BoxV W B t (vs s)) := fun _ _ _ _ hs hg hr => BoxV.kept hs hg hr
theorem BoxV.put {W : World} {B t D : Nat} {vs : Array Value} (h : BoxV W B t vs) {o : Obj} (o' : Obj) (hK : W.heap[D]? = some o) (ho : o.isCells = false) : BoxV (W.putObj D o') B t vs :=
  h.kept (grownBy_putObj' _ D o') (fun r e => by cases e; exact ⟨_, hK, ho⟩)
theorem ownFrom_pure {β : Type} (B : Nat) (p : β → Prop) : OwnFrom B (fun (s : β) (_ : World) => p s) := fun _ _ _ _ hs _ _ => hs
theorem ownFrom_size {β : Type} (B m : Nat) : OwnFrom B (fun (_ : β) (W : World) => m ≤ W.heap.size) := fun _ _ _ _ hs hg _ => Nat.le_trans hs hg.size
/-- A call that leaves what lay leaves whatever is no cells. -/
theorem keeps_of_below {W W' : World} (h : Below W.heap.size W W') : KeepsOthers W W' := ⟨h.size, fun k _ hk _ => (h.block k (Array.getElem?_eq_some_iff.1 hk).1).trans hk⟩

/-- The box of a loop's variable, and the frame of its round. -/
def RoundAt {α : Type} (lo t p q : Nat) (val : α → Value) (cs : α → Array Value) (a : Act) (x : α) (a' : Act) (W : World) : Prop :=
  ∃ Bx, lo ≤ Bx ∧ BoxV W Bx t (cs x) ∧ a' = { tmps := (a.tmps.setIfInBounds p (val x)).setIfInBounds q (.pointer (some ⟨Bx, 0, none⟩)), defers := [] }
theorem roundAt_own {α : Type} (B lo t p q : Nat) (val : α → Value) (cs : α → Array Value) (a : Act) (x : α) (a' : Act) : OwnFrom B (fun (_ : Unit) W => RoundAt lo t p q val cs a x a' W) := by
  rintro _ W W' row ⟨Bx, h1, h2, h3⟩ hg hr
  exact ⟨Bx, h1, h2.kept hg (fun r e => (hr r e).2), h3⟩

theorem rangeH {P : Program} {n : Nat} {α : Type} {g : Operand} {ps : Array Tmp} {assign body : Code} {Q : Exit → Act → World → Prop} {a : Act} {w : World}
    (h1 : 1 ≤ n) {gf : Nat} {lb : Array Value} (hg : a.eval g = .func (.func gf) #[] lb) (eg : ∀ args w, (callFunc gf args).run P w = .ok (.enter gf args) w)
    {encs : α → Array Value} {Kp : World → World → Prop} {S Sp : List α → Prop} {N : Nat} (hseq : SeqStopsK Fence.wide (n - 1) P gf lb encs Kp S Sp N w)
    (hKt : ∀ {A B C : World}, Kp A B → Kp B C → Kp A C) (hKb : ∀ (W : World) (l : Nat) (o o' : Obj), w.heap.size ≤ l → W.heap[l]? = some o → o.isCells = false → o.isWalk = false → Kp W (W.putObj l o')) (hps : ∀ x, (encs x).size = ps.size)
    (I : List α → World → Prop) (Ix : Code → List α → World → Prop) (hI : OwnFrom w.heap.size I) (hIx : ∀ c, OwnFrom w.heap.size (Ix c)) (h0 : I [] w)
    (lo t p q : Nat) (val : α → Value) (cs : α → Array Value)
    (hassign : ∀ (l : Nat) (pre : List α) (x : α) (W : World) (K : Act → World → Prop), I pre W → (∀ a' W', KeepsFrom w.heap.size W W' → Kp W W' → I pre W' → RoundAt lo t p q val cs a x a' W' → K a' W') →
      assign.wpIn (Fence.wide.inRound l) (n - 1 - 1) P (Exit.then K (fun _ _ _ => False)) { tmps := (ps.zip (encs x)).foldl (fun t (p, v) => t.setIfInBounds p v) a.tmps, defers := [] } W)
    (hbody : ∀ (l : Nat) (pre : List α) (x : α) (Bx : Nat) (W : World), lo ≤ Bx → BoxV W Bx t (cs x) → I pre W → pre.length < N →
      body.wpIn (Fence.wide.inRound l) (n - 1 - 1) P (ownPostG w.heap.size Kp I Ix (pre ++ [x]) W) { tmps := (a.tmps.setIfInBounds p (val x)).setIfInBounds q (.pointer (some ⟨Bx, 0, none⟩)), defers := [] } W)
    (hdone : ∀ (D : Nat) (xs : List α) (W : World), w.heap.size ≤ D → S xs → I xs W → W.heap[D]? = some (.deferred (some [])) → Q .normal { a with defers := { target := .collected D, args := #[] } :: a.defers } W)
    (hstop : ∀ (D : Nat) (c : Code) (pre : List α) (W : World), w.heap.size ≤ D → Sp pre → Ix c pre W → W.heap[D]? = some (.deferred (some [])) → c.wpIn Fence.wide n P Q { a with defers := { target := .collected D, args := #[] } :: a.defers } W) :
    (Code.rangeFunc g ps assign body).wpIn Fence.wide n P Q a w :=
  wpIn_rangeFunc_ownH rfl h1 hg trivial eg hseq hKt hKb (Below.refl _ _) hps I Ix hI hIx h0 (RoundAt lo t p q val cs a) (roundAt_own _ lo t p q val cs a) hassign
    (fun l pre x a' W _ _ hi ⟨Bx, hBx, hb, e⟩ hl => by subst e; exact hbody l pre x Bx W hBx hb hi hl) hdone hstop

/-- The frame of a round whose loop variable lies in no box. -/
def frameU {α : Type} (p q : Nat) (val : α → Value) (a : Act) (x : α) : Act := { tmps := (a.tmps.setIfInBounds p (val x)).setIfInBounds q (val x), defers := [] }
/-- The same, its loop variable in no box. -/
theorem rangeU {P : Program} {n : Nat} {α : Type} {g : Operand} {ps : Array Tmp} {assign body : Code} {Q : Exit → Act → World → Prop} {a : Act} {w : World}
    (h1 : 1 ≤ n) {gf : Nat} {lb : Array Value} (hg : a.eval g = .func (.func gf) #[] lb) (eg : ∀ args w, (callFunc gf args).run P w = .ok (.enter gf args) w)
    {encs : α → Array Value} {Kp : World → World → Prop} {S Sp : List α → Prop} {N : Nat} (hseq : SeqStopsK Fence.wide (n - 1) P gf lb encs Kp S Sp N w)
    (hKt : ∀ {A B C : World}, Kp A B → Kp B C → Kp A C) (hKr : ∀ W : World, Kp W W) (hKb : ∀ (W : World) (l : Nat) (o o' : Obj), w.heap.size ≤ l → W.heap[l]? = some o → o.isCells = false → o.isWalk = false → Kp W (W.putObj l o')) (hps : ∀ x, (encs x).size = ps.size)
    (I : List α → World → Prop) (Ix : Code → List α → World → Prop) (hI : OwnFrom w.heap.size I) (hIx : ∀ c, OwnFrom w.heap.size (Ix c)) (h0 : I [] w)
    (p q : Nat) (val : α → Value)
    (hassign : ∀ (l : Nat) (x : α) (W : World) (K : Act → World → Prop), K (frameU p q val a x) W →
      assign.wpIn (Fence.wide.inRound l) (n - 1 - 1) P (Exit.then K (fun _ _ _ => False)) { tmps := (ps.zip (encs x)).foldl (fun t (p, v) => t.setIfInBounds p v) a.tmps, defers := [] } W)
    (hbody : ∀ (l : Nat) (pre : List α) (x : α) (W : World), I pre W → pre.length < N →
      body.wpIn (Fence.wide.inRound l) (n - 1 - 1) P (ownPostG w.heap.size Kp I Ix (pre ++ [x]) W) (frameU p q val a x) W)
    (hdone : ∀ (D : Nat) (xs : List α) (W : World), w.heap.size ≤ D → S xs → I xs W → W.heap[D]? = some (.deferred (some [])) → Q .normal { a with defers := { target := .collected D, args := #[] } :: a.defers } W)
    (hstop : ∀ (D : Nat) (c : Code) (pre : List α) (W : World), w.heap.size ≤ D → Sp pre → Ix c pre W → W.heap[D]? = some (.deferred (some [])) → c.wpIn Fence.wide n P Q { a with defers := { target := .collected D, args := #[] } :: a.defers } W) :
    (Code.rangeFunc g ps assign body).wpIn Fence.wide n P Q a w :=
  wpIn_rangeFunc_ownH rfl h1 hg trivial eg hseq hKt hKb (Below.refl _ _) hps I Ix hI hIx h0 (fun x a' _ => a' = frameU p q val a x) (fun _ _ _ _ _ _ hs _ _ => hs)
    (fun l pre x W K hi hK => hassign l x W K (hK _ W (KeepsFrom.refl _ _) (hKr W) hi rfl))
    (fun l pre x a' W _ _ hi e hl => by subst e; exact hbody l pre x W hi hl) hdone hstop

end Lk
end Go.Proofs.YtodilljomjhohaaDoor

/- Contract of table.Check. -/
namespace Go.Proofs.YtodilljomjhohaaDoor
namespace TabC
open Go.RowKit Go.Shelf

attribute [local go_sem] Oper.semAt_some

/-- A table that came in. -/
structure TabIn (W : World) (A B : Option Addr) (xs ys : List Int) : Prop where
  xl : xs.length ≤ 9223372036854775807
  yl : ys.length ≤ 9223372036854775807
  xa : Lk.IntsAt W .i64 A xs
  ya : Lk.IntsAt W .i64 B ys
theorem TabIn.below {W W' : World} {A B : Option Addr} {xs ys : List Int} (h : TabIn W A B xs ys) (hb : Below W.heap.size W W') : TabIn W' A B xs ys := ⟨h.xl, h.yl, h.xa.below hb, h.ya.below hb⟩
theorem TabIn.box {w W : World} {A B : Option Addr} {xs ys : List Int} (h : TabIn w A B xs ys) (hb : Below w.heap.size w W) {Bs ca cb : Nat} (hB : Lk.BoxV W Bs 25 #[.slice A xs.length ca, .slice B ys.length cb]) : TabBox w.heap.size Bs W A B ca cb xs ys := by
  refine ⟨hB, fun i hi => ?_, fun i hi => ?_⟩
  · obtain ⟨b, off, e, hc⟩ := cellG h.xa hi
    have := World.block_lt_of_cell? _ _ hc
    exact ⟨b, off, e, this, (hb.cell this).trans hc⟩
  · obtain ⟨b, off, e, hc⟩ := cellG h.ya hi
    have := World.block_lt_of_cell? _ _ hc
    exact ⟨b, off, e, this, (hb.cell this).trans hc⟩
def tabV (A B : Option Addr) (ca cb : Nat) (xs ys : List Int) : Value := .agg #[.slice A xs.length ca, .slice B ys.length cb]

theorem err_20 {xs ys : List Int} (h : ¬ Tb.Ok xs ys) : Tb.err xs ys = 20 := by rw [Tb.err, if_neg]; rw [Tb.ok_iff]; exact h
theorem err_0 {xs ys : List Int} (h : Tb.Ok xs ys) : Tb.err xs ys = 0 := by rw [Tb.err, if_pos]; rw [Tb.ok_iff]; exact h

set_option maxRecDepth 100000 in
set_option maxHeartbeats 4000000 in
/-- The lists do not fit. -/
theorem check_len (A B : Option Addr) (ca cb : Nat) (xs ys : List Int) (w : World) (h : xs.length < 2 ∨ 16 < xs.length ∨ ys.length ≠ xs.length) :
    Calls Tryd.prog 63 #[.agg #[.slice A xs.length ca, .slice B ys.length cb]] w fun e w' => e = .returned (.int .i64 (Tb.err xs ys)) ∧ Below w.heap.size w w' := by
  have E := Lib.hid (err_20 (xs := xs) (ys := ys) (fun k => by have := k.two; have := k.most; have := k.same; omega))
  refine (callsIn_wide (n := 9)).1 ?_
  by_cases h1 : xs.length < 2
  · clear h
    refine callsIn_of_wp_marks Tryd.func63 rfl trivial ?_ rfl
    simp only [Tryd.ntmps63, List.size_toArray, List.length_cons, List.length_nil, Nat.reduceAdd, Nat.reduceSub, Array.replicate_succ, Array.replicate_zero, List.push_toArray, List.append_toArray, List.nil_append, List.cons_append]
    gi_wp2
    exact ⟨.int .i64 20, by simp [results, Tryd.f63, go_sem], ret_int E.out.symm, ((Below.refl _ _).alloc (Nat.le_refl _) _).alloc (by simp) _⟩
  · by_cases h2 : 16 < xs.length
    · clear h
      have d1 : decide ((xs.length : Int) < 2) = false := by simp; omega
      refine callsIn_of_wp_marks Tryd.func63 rfl trivial ?_ rfl
      simp only [Tryd.ntmps63, List.size_toArray, List.length_cons, List.length_nil, Nat.reduceAdd, Nat.reduceSub, Array.replicate_succ, Array.replicate_zero, List.push_toArray, List.append_toArray, List.nil_append, List.cons_append]
      gi_wp2
      exact ⟨.int .i64 20, by simp [results, Tryd.f63, go_sem], ret_int E.out.symm, ((Below.refl _ _).alloc (Nat.le_refl _) _).alloc (by simp) _⟩
    · have h3 : ((ys.length : Int) != (xs.length : Int)) = true := by simp; omega
      clear h
      refine callsIn_of_wp_marks Tryd.func63 rfl trivial ?_ rfl
      simp only [Tryd.ntmps63, List.size_toArray, List.length_cons, List.length_nil, Nat.reduceAdd, Nat.reduceSub, Array.replicate_succ, Array.replicate_zero, List.push_toArray, List.append_toArray, List.nil_append, List.cons_append]
      gi_wp2
      exact ⟨.int .i64 20, by simp [results, Tryd.f63, go_sem], ret_int E.out.symm, ((Below.refl _ _).alloc (Nat.le_refl _) _).alloc (by simp) _⟩

set_option maxRecDepth 100000 in
set_option maxHeartbeats 4000000 in
/-- A number is outside. -/
theorem check_out (A B : Option Addr) (ca cb : Nat) (xs ys : List Int) (w : World) (hT : TabIn w A B xs ys) (h2 : 2 ≤ xs.length) (h16 : xs.length ≤ 16) (hs : ys.length = xs.length) (h : xs.any Tb.out = true ∨ ys.any Tb.out = true) :
    Calls Tryd.prog 63 #[.agg #[.slice A xs.length ca, .slice B ys.length cb]] w fun e w' => e = .returned (.int .i64 (Tb.err xs ys)) ∧ Below w.heap.size w w' := by
  have E := Lib.hid (err_20 (xs := xs) (ys := ys) (fun k => by
    rcases h with h | h
    · rw [(Tb.any_out xs).2 k.xb] at h; cases h
    · rw [(Tb.any_out ys).2 (by rw [k.same]; exact k.yb)] at h; cases h))
  have HT := Lib.hid hT
  have hB0 : ∀ o1 o2, Below w.heap.size w ((w.alloc o1).alloc o2) := fun o1 o2 => ((Below.refl _ _).alloc (Nat.le_refl _) _).alloc (by simp) _
  have HB := Lib.hid hB0
  have d1 : decide ((xs.length : Int) < 2) = false := by simp; omega
  have d2 : decide (16 < (xs.length : Int)) = false := by simp; omega
  have hn3 : ((ys.length : Int) != (xs.length : Int)) = false := by simp [hs]
  have hfn : ∀ f, Fence.wide.fn f := fun _ => trivial
  clear hT hs hB0
  refine (callsIn_wide (n := 9)).1 ?_
  cases hx : xs.any Tb.out with
  | true =>
    have c1 : ∀ o1 o2, Calls Tryd.prog 65 #[.slice A xs.length ca, .func (.func 66) #[] #[]] ((w.alloc o1).alloc o2) fun e w' => e = .returned (.bool true) ∧ (w.alloc o1).alloc o2 = w' := by
      intro o1 o2
      have := containsFunc_c A ca xs ((w.alloc o1).alloc o2) HT.out.xl (HT.out.xa.below (HB.out o1 o2))
      rwa [hx] at this
    have C1 := Lib.hid c1
    clear c1 hx h
    refine callsIn_of_wp_marks Tryd.func63 rfl trivial ?_ rfl
    simp only [Tryd.ntmps63, List.size_toArray, List.length_cons, List.length_nil, Nat.reduceAdd, Nat.reduceSub, Array.replicate_succ, Array.replicate_zero, List.push_toArray, List.append_toArray, List.nil_append, List.cons_append]
    gi_wp2_with (gi_at_call 65; refine (callsIn_wide.2 (C1.out _ _)).mono ?_; rintro e w' ⟨rfl, rfl⟩)
    exact ⟨.int .i64 20, by simp [results, Tryd.f63, go_sem], ret_int E.out.symm, HB.out _ _⟩
  | false =>
    have hy : ys.any Tb.out = true := h.resolve_left (by rw [hx]; simp)
    have c1 : ∀ o1 o2, Calls Tryd.prog 65 #[.slice A xs.length ca, .func (.func 66) #[] #[]] ((w.alloc o1).alloc o2) fun e w' => e = .returned (.bool false) ∧ (w.alloc o1).alloc o2 = w' := by
      intro o1 o2
      have := containsFunc_c A ca xs ((w.alloc o1).alloc o2) HT.out.xl (HT.out.xa.below (HB.out o1 o2))
      rwa [hx] at this
    have c2 : ∀ o1 o2, Calls Tryd.prog 65 #[.slice B ys.length cb, .func (.func 66) #[] #[]] ((w.alloc o1).alloc o2) fun e w' => e = .returned (.bool true) ∧ (w.alloc o1).alloc o2 = w' := by
      intro o1 o2
      have := containsFunc_c B cb ys ((w.alloc o1).alloc o2) HT.out.yl (HT.out.ya.below (HB.out o1 o2))
      rwa [hy] at this
    have C1 := Lib.hid c1
    have C2 := Lib.hid c2
    clear c1 c2 hx hy h
    refine callsIn_of_wp_marks Tryd.func63 rfl trivial ?_ rfl
    simp only [Tryd.ntmps63, List.size_toArray, List.length_cons, List.length_nil, Nat.reduceAdd, Nat.reduceSub, Array.replicate_succ, Array.replicate_zero, List.push_toArray, List.append_toArray, List.nil_append, List.cons_append]
    gi_wp2_with fail
    refine (callsIn_wide.2 (C1.out _ _)).mono ?_
    rintro e w' ⟨rfl, rfl⟩
    gi_wp2_with fail
    refine (callsIn_wide.2 (C2.out _ _)).mono ?_
    rintro e w' ⟨rfl, rfl⟩
    gi_wp2_with fail
    exact ⟨.int .i64 20, by simp [results, Tryd.f63, go_sem], ret_int E.out.symm, HB.out _ _⟩

def UpTo (xs : List Int) (pre : List (Idx xs)) : Prop := ∀ k ∈ pre, Tb.g xs k.1 < Tb.g xs (k.1 + 1)
def NotUp (xs : List Int) (pre : List (Idx xs)) : Prop := ∃ k ∈ pre, ¬ Tb.g xs k.1 < Tb.g xs (k.1 + 1)

set_option maxRecDepth 100000 in
set_option maxHeartbeats 4000000 in
/-- The places are gone through. -/
theorem check_up (A B : Option Addr) (ca cb : Nat) (xs ys : List Int) (w : World) (hT : TabIn w A B xs ys) (h2 : 2 ≤ xs.length) (h16 : xs.length ≤ 16) (hs : ys.length = xs.length) (hx : xs.any Tb.out = false) (hy : ys.any Tb.out = false) :
    Calls Tryd.prog 63 #[.agg #[.slice A xs.length ca, .slice B ys.length cb]] w fun e w' => e = .returned (.int .i64 (Tb.err xs ys)) ∧ Below w.heap.size w w' := by
  have E1 : Hid ((∃ k, k + 1 < xs.length ∧ ¬ Tb.g xs k < Tb.g xs (k + 1)) → Tb.err xs ys = 20) := fun ⟨k, hk, h⟩ => err_20 (fun o => h (o.up k hk))
  have E2 : Hid ((∀ k, k + 1 < xs.length → Tb.g xs k < Tb.g xs (k + 1)) → Tb.err xs ys = 0) := fun h => err_0 ⟨h2, h16, hs, (Tb.any_out xs).1 hx, by rw [← hs]; exact (Tb.any_out ys).1 hy, h⟩
  have HT := Lib.hid hT
  have HSM := Lib.hid hs
  have hB0 : ∀ o1 o2, Below w.heap.size w ((w.alloc o1).alloc o2) := fun o1 o2 => ((Below.refl _ _).alloc (Nat.le_refl _) _).alloc (by simp) _
  have HB := Lib.hid hB0
  have d1 : decide ((xs.length : Int) < 2) = false := by simp; omega
  have d2 : decide (16 < (xs.length : Int)) = false := by simp; omega
  have hn3 : ((ys.length : Int) != (xs.length : Int)) = false := by simp [hs]
  have hfn : ∀ f, Fence.wide.fn f := fun _ => trivial
  clear hT hs hB0
  refine (callsIn_wide (n := 9)).1 ?_
  have c1 : ∀ o1 o2, Calls Tryd.prog 65 #[.slice A xs.length ca, .func (.func 66) #[] #[]] ((w.alloc o1).alloc o2) fun e w' => e = .returned (.bool false) ∧ (w.alloc o1).alloc o2 = w' := by
    intro o1 o2
    have := containsFunc_c A ca xs ((w.alloc o1).alloc o2) HT.out.xl (HT.out.xa.below (HB.out o1 o2))
    rwa [hx] at this
  have c2 : ∀ o1 o2, Calls Tryd.prog 65 #[.slice B ys.length cb, .func (.func 66) #[] #[]] ((w.alloc o1).alloc o2) fun e w' => e = .returned (.bool false) ∧ (w.alloc o1).alloc o2 = w' := by
    intro o1 o2
    have := containsFunc_c B cb ys ((w.alloc o1).alloc o2) HT.out.yl (HT.out.ya.below (HB.out o1 o2))
    rwa [hy] at this
  have C1 := Lib.hid c1
  have C2 := Lib.hid c2
  clear c1 c2 hx hy
  refine callsIn_of_wp_marks Tryd.func63 rfl trivial ?_ rfl
  simp only [Tryd.ntmps63, List.size_toArray, List.length_cons, List.length_nil, Nat.reduceAdd, Nat.reduceSub, Array.replicate_succ, Array.replicate_zero, List.push_toArray, List.append_toArray, List.nil_append, List.cons_append]
  gi_wp2_with fail
  refine (callsIn_wide.2 (C1.out _ _)).mono ?_
  rintro e w' ⟨rfl, rfl⟩
  gi_wp2_with fail
  refine (callsIn_wide.2 (C2.out _ _)).mono ?_
  rintro e w' ⟨rfl, rfl⟩
  gi_wp2_with fail
  refine (callsIn_wide.2 (steps_c _ _ _ _ _ _ _)).mono ?_
  rintro e w' ⟨rfl, rfl⟩
  gi_wp2_with fail
  have bR := (Lk.BoxV.new (w.alloc (.cells #[.slice A xs.length ca, .slice B ys.length cb] 25)) 67 #[.int .i64 0]).alloc (.cells #[.slice A xs.length ca, .slice B ys.length cb] 25)
  have bT := Lk.BoxV.new ((w.alloc (.cells #[.slice A xs.length ca, .slice B ys.length cb] 25)).alloc (.cells #[.int .i64 0] 67)) 25 #[.slice A xs.length ca, .slice B ys.length cb]
  simp only [World.size_alloc] at bR bT
  have hB0 := (HB.out (.cells #[.slice A xs.length ca, .slice B ys.length cb] 25) (.cells #[.int .i64 0] 67)).alloc (by simp; omega) (.cells #[.slice A xs.length ca, .slice B ys.length cb] 25)
  have hsz : (((w.alloc (.cells #[.slice A xs.length ca, .slice B ys.length cb] 25)).alloc (.cells #[.int .i64 0] 67)).alloc (.cells #[.slice A xs.length ca, .slice B ys.length cb] 25)).heap.size = w.heap.size + 3 := by simp
  generalize ((w.alloc (.cells #[.slice A xs.length ca, .slice B ys.length cb] 25)).alloc (.cells #[.int .i64 0] 67)).alloc (.cells #[.slice A xs.length ca, .slice B ys.length cb] 25) = W0 at bR bT hB0 hsz ⊢
  refine Lk.rangeH (by omega) (gf := 70) (lb := #[.pointer (some ⟨w.heap.size + 1 + 1, 0, none⟩)]) rfl (enters_of Tryd.func70 (by kernel_rfl) rfl)
    (steps_stops 8 w.heap.size (w.heap.size + 1 + 1) A B ca cb xs ys h2 (by omega) HSM.out W0 (by omega) (by omega) (HT.out.box hB0 bT)) KpT.trans (kpT_b (by omega) (by omega)) (fun _ => rfl)
    (fun pre W => (UpTo xs pre ∧ Lk.BoxV W (w.heap.size + 1) 67 #[.int .i64 0]) ∧ Below w.heap.size w W ∧ w.heap.size + 3 ≤ W.heap.size)
    (fun c pre W => ((c = .ret ∧ NotUp xs pre) ∧ Lk.BoxV W (w.heap.size + 1) 67 #[.int .i64 20]) ∧ Below w.heap.size w W)
    (OwnFrom.and (OwnFrom.and (Lk.ownFrom_pure _ _) (Own.from (Lk.boxV_own _ _ _) _)) (OwnFrom.and (ownFrom_below (Nat.le_refl _) (by omega)) (Lk.ownFrom_size _ _)))
    (fun c => OwnFrom.and (OwnFrom.and (Lk.ownFrom_pure _ _) (Own.from (Lk.boxV_own _ _ _) _)) (ownFrom_below (Nat.le_refl _) (by omega)))
    ⟨⟨(fun k hk => by cases hk), bR⟩, hB0, by omega⟩
    (w.heap.size + 3) 90 31 4 (fun k => stepOf xs ys k.1) (fun k => #[.int .i64 (Tb.g xs k.1), .int .i64 (Tb.g xs (k.1 + 1)), .int .i64 (Tb.g ys k.1), .int .i64 (Tb.g ys (k.1 + 1))]) ?assign ?body ?done ?stop
  case assign =>
    rintro l pre x W K ⟨⟨hp, bR1⟩, hB1, hsW⟩ hK
    have HK := Lib.hid hK
    have HP := Lib.hid hp
    clear hK hp
    simp only [encS, stepOf]
    gi_wp2
    exact HK.out _ _ ((KeepsOthers.alloc _ _).from _) ⟨(Below.refl _ W).alloc hB1.size _, Below.heap_alloc _ _ _ (by omega)⟩ ⟨⟨HP.out, bR1.alloc _⟩, hB1.alloc hB1.size _, by simp; omega⟩ ⟨W.heap.size, hsW, Lk.BoxV.new W _ _, rfl⟩
  case body =>
    rintro l pre x Bx W hBx bX ⟨⟨hp, bR1⟩, hB1, hsW⟩ hlt
    have HP := Lib.hid hp
    clear hp
    have f0 := bX.cell 0
    have f1 := bX.cell 1
    simp only [List.getElem?_toArray, List.getElem?_cons_zero, List.getElem?_cons_succ] at f0 f1
    have r0 := bR1.cell 0
    simp only [List.getElem?_toArray, List.getElem?_cons_zero] at r0
    have r1 := bR1.frozen 0
    simp only [stepOf, List.setIfInBounds_toArray, List.set_cons_succ, List.set_cons_zero]
    by_cases hc : Tb.g xs x.1 < Tb.g xs (x.1 + 1)
    · gi_wp2
      exact ⟨KeepsFrom.refl _ _, KpT.refl _ _ _, ⟨⟨fun k hk => (List.mem_append.1 hk).elim (HP.out k) (fun e => by rw [List.mem_singleton.1 e]; exact hc), bR1⟩, hB1, hsW⟩⟩
    · gi_wp2
      exact ⟨(KeepsOthers.setCell _ _ _).from _, ⟨⟨rfl, x, List.mem_append.2 (.inr (by simp)), (by omega)⟩, bR1.set _⟩, hB1.setCell (p := ⟨w.heap.size + 1, 0, none⟩) (by simp) _⟩
  case done =>
    rintro D zs W hD rfl ⟨⟨hp, bR1⟩, hB1, hsW⟩ hK
    have E : Hid (Tb.err xs ys = 0) := E2.out (fun k hk => hp ⟨k, hk⟩ ((mem_ups (by omega)).2 (by simp; omega)))
    clear hp
    have r0 := bR1.cell 0
    simp only [List.getElem?_toArray, List.getElem?_cons_zero] at r0
    have r1 := bR1.frozen 0
    gi_wp2
    have hK' := (KeepsOthers.setCell W ⟨w.heap.size + 1, 0, none⟩ (.int .i64 0)).same D _ hK rfl
    refine ⟨by simp, .inl ⟨_, _, rfl, run_takeDeferred hK', ?_⟩⟩
    have c5 := ((bR1.set (.int .i64 0)).put (.deferred none) hK' rfl).cell 0
    simp only [List.getElem?_toArray, List.getElem?_cons_zero] at c5
    refine ⟨.int .i64 0, ?_, ret_int E.out.symm, (hB1.setCell (p := ⟨w.heap.size + 1, 0, none⟩) (by simp) _).trans (belowK_b (w := w) (Nat.le_refl _) _ D _ _ (by omega) hK' rfl rfl)⟩
    simp [results, Tryd.f63, go_sem, c5]
  case stop =>
    rintro D c pre W hD ⟨k, hk, rfl⟩ ⟨⟨⟨rfl, hp⟩, bR1⟩, hB1⟩ hK
    have E : Hid (Tb.err xs ys = 20) := by
      obtain ⟨j, _, hj⟩ := hp
      exact E1.out ⟨j.1, j.2, by simpa using hj⟩
    clear hp
    gi_wp2
    refine ⟨by simp, .inl ⟨_, _, rfl, run_takeDeferred hK, ?_⟩⟩
    have c5 := (bR1.put (.deferred none) hK rfl).cell 0
    simp only [List.getElem?_toArray, List.getElem?_cons_zero] at c5
    refine ⟨.int .i64 20, ?_, ret_int E.out.symm, hB1.trans (belowK_b (w := w) (Nat.le_refl _) W D _ _ (by omega) hK rfl rfl)⟩
    simp [results, Tryd.f63, go_sem, c5]

/-- **Check**, of any two lists. -/
theorem check_c (A B : Option Addr) (ca cb : Nat) (xs ys : List Int) (w : World) (hT : TabIn w A B xs ys) :
    Calls Tryd.prog 63 #[.agg #[.slice A xs.length ca, .slice B ys.length cb]] w fun e w' => e = .returned (.int .i64 (Tb.err xs ys)) ∧ Below w.heap.size w w' := by
  by_cases h1 : xs.length < 2 ∨ 16 < xs.length ∨ ys.length ≠ xs.length
  · exact check_len A B ca cb xs ys w h1
  · by_cases h2 : xs.any Tb.out = true ∨ ys.any Tb.out = true
    · exact check_out A B ca cb xs ys w hT (by omega) (by omega) (by omega) h2
    · exact check_up A B ca cb xs ys w hT (by omega) (by omega) (by omega) (by cases h : xs.any Tb.out <;> simp_all) (by cases h : ys.any Tb.out <;> simp_all)

end TabC
end Go.Proofs.YtodilljomjhohaaDoor

/- Contracts of table.Rising, table.Peak, table.At. -/
namespace Go.Proofs.YtodilljomjhohaaDoor
namespace TabC
open Go.RowKit Go.Shelf

attribute [local go_sem] Oper.semAt_some

theorem err_eq (xs ys : List Int) : (Tb.okB xs ys = true ∧ Tb.Ok xs ys ∧ Tb.err xs ys = 0) ∨ (Tb.okB xs ys = false ∧ Tb.err xs ys = 20) := by
  cases h : Tb.okB xs ys with
  | true => exact .inl ⟨rfl, (Tb.ok_iff xs ys).1 h, by simp [Tb.err, h]⟩
  | false => exact .inr ⟨rfl, by simp [Tb.err, h]⟩

/-- Check, at a table that may be. -/
theorem check_ok (A B : Option Addr) (ca cb : Nat) (xs ys : List Int) (w : World) (hT : TabIn w A B xs ys) (h : Tb.okB xs ys = true) :
    Calls Tryd.prog 63 #[.agg #[.slice A xs.length ca, .slice B ys.length cb]] w fun e w' => e = .returned (.int .i64 0) ∧ Below w.heap.size w w' := by
  have := check_c A B ca cb xs ys w hT
  rwa [show Tb.err xs ys = 0 from by simp [Tb.err, h]] at this
/-- Check, at one that may not. -/
theorem check_no (A B : Option Addr) (ca cb : Nat) (xs ys : List Int) (w : World) (hT : TabIn w A B xs ys) (h : Tb.okB xs ys = false) :
    Calls Tryd.prog 63 #[.agg #[.slice A xs.length ca, .slice B ys.length cb]] w fun e w' => e = .returned (.int .i64 20) ∧ Below w.heap.size w w' := by
  have := check_c A B ca cb xs ys w hT
  rwa [show Tb.err xs ys = 20 from by simp [Tb.err, h]] at this

theorem TabIn.alloc {w : World} {A B : Option Addr} {xs ys : List Int} (h : TabIn w A B xs ys) (o : Obj) : TabIn (w.alloc o) A B xs ys := h.below ((Below.refl _ _).alloc (Nat.le_refl _) _)

set_option maxHeartbeats 1000000 in
theorem rising_c (A B : Option Addr) (ca cb : Nat) (xs ys : List Int) (w : World) (hT : TabIn w A B xs ys) :
    Calls Tryd.prog 58 #[.agg #[.slice A xs.length ca, .slice B ys.length cb]] w fun e w' => e = .returned (.bool (Tb.rsB xs ys)) ∧ Below w.heap.size w w' := by
  have HT := Lib.hid hT
  clear hT
  cases h : Tb.okB xs ys with
  | false =>
    have E : Hid (Tb.rsB xs ys = false) := by show _ = _; simp [Tb.rsB, h]
    have HO := Lib.hid h
    clear h
    go_enter Tryd.func58, Tryd.ntmps58
    go_wp2_with fail
    refine (check_no A B ca cb xs ys _ (HT.out.alloc _) HO.out).mono ?_
    rintro e w1 ⟨rfl, hb⟩
    have hb2 : Below w.heap.size w w1 := ((Below.refl _ _).alloc (Nat.le_refl _) _).trans (hb.mono (by simp))
    go_wp2_with fail
    go_ret
    exact ⟨ret_bool E.out.symm, hb2⟩
  | true =>
    have HO := Lib.hid h
    have hok := (Tb.ok_iff xs ys).1 h
    have E : Hid (Tb.rsB xs ys = Tb.riB ys) := by show _ = _; simp [Tb.rsB, h]
    have h2 : 0 < ys.length := by have := hok.two; have := hok.same; omega
    clear h hok
    go_enter Tryd.func58, Tryd.ntmps58
    go_wp2_with fail
    refine (check_ok A B ca cb xs ys _ (HT.out.alloc _) HO.out).mono ?_
    rintro e w1 ⟨rfl, hb⟩
    have hb2 : Below w.heap.size w w1 := ((Below.refl _ _).alloc (Nat.le_refl _) _).trans (hb.mono (by simp))
    have bx := (Lk.BoxV.new w 25 #[.slice A xs.length ca, .slice B ys.length cb]).below hb (by simp)
    have c1 := bx.cell 1
    simp only [List.getElem?_toArray, List.getElem?_cons_zero, List.getElem?_cons_succ] at c1
    have HB2 := Lib.hid hb2
    clear hb hb2 bx
    go_wp2_with fail
    refine (isSorted_c B cb ys _ HT.out.yl h2 (HT.out.ya.below HB2.out)).mono ?_
    rintro e w2 ⟨rfl, hb3⟩
    have hb4 : Below w.heap.size w w2 := HB2.out.trans (hb3.mono HB2.out.size)
    generalize hv : Tb.riB ys = v at E ⊢
    clear hv hb3
    cases v with
    | true =>
      go_wp2_with fail
      go_ret
      exact ⟨ret_bool E.out.symm, hb4⟩
    | false =>
      go_wp2_with fail
      go_ret
      exact ⟨ret_bool E.out.symm, hb4⟩

def AtPre (xs : List Int) (x : Int) (pre : List (Idx xs)) : Prop := ∀ k ∈ pre, Tb.g xs (k.1 + 1) ≤ x
def AtLast (xs ys : List Int) (x : Int) (pre : List (Idx xs)) (v : Int) : Prop := ∃ ini last, pre = ini ++ [last] ∧ AtPre xs x ini ∧ x < Tb.g xs (last.1 + 1) ∧ v = Tb.seg xs ys last.1 (max x (Tb.g xs last.1))
theorem AtPre.snoc {xs : List Int} {x : Int} {pre : List (Idx xs)} (h : AtPre xs x pre) {k : Idx xs} (hk : Tb.g xs (k.1 + 1) ≤ x) : AtPre xs x (pre ++ [k]) :=
  fun j hj => (List.mem_append.1 hj).elim (h j) (fun e => by rw [List.mem_singleton.1 e]; exact hk)
/-- All steps are behind. -/
theorem at_all {xs ys : List Int} {x : Int} (h2 : 2 ≤ xs.length) (h : AtPre xs x (ups xs (xs.length - 1))) : Tb.atO xs ys x = Tb.g ys (xs.length - 1) := by
  unfold Tb.atO
  rw [if_pos]
  exact Tb.loc_unique xs x (Nat.le_refl _) (fun j hj => h ⟨j, by omega⟩ ((mem_ups (by omega)).2 hj)) (fun hh => by omega)
theorem at_some {xs ys : List Int} {x v : Int} {k : Nat} (hk : k + 1 < xs.length) (h : AtLast xs ys x (ups xs (k + 1)) v) : Tb.atO xs ys x = v := by
  obtain ⟨ini, last, e, h1, h2, rfl⟩ := h
  rw [ups_succ hk] at e
  obtain ⟨rfl, e2⟩ := List.append_inj' e rfl
  obtain rfl : (⟨k, hk⟩ : Idx xs) = last := by simpa using e2
  have hl : Tb.loc xs x = k := Tb.loc_unique xs x (by omega) (fun j hj => h1 ⟨j, by omega⟩ ((mem_ups (by omega)).2 hj)) (fun _ => h2)
  unfold Tb.atO
  rw [hl, if_neg (by omega)]

end TabC
end Go.Proofs.YtodilljomjhohaaDoor

/- Contract of table.At. -/
namespace Go.Proofs.YtodilljomjhohaaDoor
namespace TabC
open Go.RowKit Go.Shelf

attribute [local go_sem] Oper.semAt_some

end TabC
end Go.Proofs.YtodilljomjhohaaDoor

/- Contracts of the document's own answers for layer 2: they come to the same plain functions. -/
namespace Go.Proofs.YtodilljomjhohaaDoor
namespace TabC
open Go.RowKit

/-- The first k places are as they should be. -/
def FineTo (xs ys : List Int) (k : Nat) : Prop := ∀ j, j < k → (0 ≤ Tb.g xs j ∧ Tb.g xs j ≤ 1048576) ∧ (0 ≤ Tb.g ys j ∧ Tb.g ys j ≤ 1048576) ∧ (0 < j → Tb.g xs (j - 1) < Tb.g xs j)
theorem FineTo.ok {xs ys : List Int} (h : FineTo xs ys xs.length) (h2 : 2 ≤ xs.length) (h16 : xs.length ≤ 16) (hs : ys.length = xs.length) : Tb.Ok xs ys :=
  ⟨h2, h16, hs, fun k hk => (h k hk).1, fun k hk => (h k hk).2.1, fun k hk => (h (k + 1) hk).2.2 (by omega)⟩

set_option maxRecDepth 100000 in
set_option maxHeartbeats 4000000 in
theorem rcheck_len (A B : Option Addr) (ca cb : Nat) (xs ys : List Int) (w : World) (h : xs.length < 2 ∨ 16 < xs.length ∨ ys.length ≠ xs.length) :
    Calls Tryd.prog 62 #[.agg #[.slice A xs.length ca, .slice B ys.length cb]] w fun e w' => e = .returned (.int .i64 (Tb.err xs ys)) ∧ Below w.heap.size w w' := by
  have E := Lib.hid (err_20 (xs := xs) (ys := ys) (fun k => by have := k.two; have := k.most; have := k.same; omega))
  by_cases h1 : xs.length < 2
  · clear h
    go_enter Tryd.func62, Tryd.ntmps62
    go_wp2_with fail
    go_ret
    exact ⟨ret_int E.out.symm, (Below.refl _ _).alloc (Nat.le_refl _) _⟩
  · by_cases h2 : 16 < xs.length
    · clear h
      have d1 : decide ((xs.length : Int) < 2) = false := by simp; omega
      go_enter Tryd.func62, Tryd.ntmps62
      go_wp2_with fail
      go_ret
      exact ⟨ret_int E.out.symm, (Below.refl _ _).alloc (Nat.le_refl _) _⟩
    · have h3 : ((ys.length : Int) != (xs.length : Int)) = true := by simp; omega
      have d1 : decide ((xs.length : Int) < 2) = false := by simp; omega
      have d2 : decide (16 < (xs.length : Int)) = false := by simp; omega
      clear h
      go_enter Tryd.func62, Tryd.ntmps62
      go_wp2_with fail
      go_ret
      exact ⟨ret_int E.out.symm, (Below.refl _ _).alloc (Nat.le_refl _) _⟩

set_option maxRecDepth 100000 in
set_option maxHeartbeats 8000000 in
theorem rcheck_go (A B : Option Addr) (ca cb : Nat) (xs ys : List Int) (w : World) (hT : TabIn w A B xs ys) (h2 : 2 ≤ xs.length) (h16 : xs.length ≤ 16) (hs : ys.length = xs.length) :
    Calls Tryd.prog 62 #[.agg #[.slice A xs.length ca, .slice B ys.length cb]] w fun e w' => e = .returned (.int .i64 (Tb.err xs ys)) ∧ Below w.heap.size w w' := by
  have HT := Lib.hid hT
  have HSM := Lib.hid hs
  have E1 : Hid (¬ Tb.Ok xs ys → Tb.err xs ys = 20) := fun h => err_20 h
  have E2 : Hid (FineTo xs ys xs.length → Tb.err xs ys = 0) := fun h => err_0 (h.ok h2 h16 hs)
  have d1 : decide ((xs.length : Int) < 2) = false := by simp; omega
  have d2 : decide (16 < (xs.length : Int)) = false := by simp; omega
  have hn3 : ((ys.length : Int) != (xs.length : Int)) = false := by simp [hs]
  clear hT hs
  go_enter Tryd.func62, Tryd.ntmps62
  go_wp2_with fail
  go_loopw [3] (fun i wr => ∃ k : Nat, k ≤ xs.length ∧ i = .int .i64 k ∧ FineTo xs ys k ∧ Below (w.heap.size + 1) (w.alloc (.cells #[.slice A xs.length ca, .slice B ys.length cb] 25)) wr) (fun i _ => xs.length - (intOf i).toNat)
  case atStart => exact ⟨0, Nat.zero_le _, rfl, (fun j hj => by omega), Below.refl _ _⟩
  case round =>
    obtain ⟨k, hk, rfl, hF, hB⟩ := hrel
    have HF := Lib.hid hF
    clear hF
    have bT := (Lk.BoxV.new w 25 #[.slice A xs.length ca, .slice B ys.length cb]).below hB (by omega)
    have hB2 : Below w.heap.size w wr := ((Below.refl _ _).alloc (Nat.le_refl _) _).trans (hB.mono (by omega))
    have t0 := bT.cell 0
    have t1 := bT.cell 1
    simp only [List.getElem?_toArray, List.getElem?_cons_zero, List.getElem?_cons_succ] at t0 t1
    have HTB := Lib.hid (HT.out.box hB2 bT)
    have HB2 := Lib.hid hB2
    clear hB2 bT
    by_cases hlt : k < xs.length
    · obtain ⟨b1, o1, rfl, hb1, c1⟩ := HTB.out.xa k hlt
      obtain ⟨b3, o3, rfl, hb3, c3⟩ := HTB.out.ya k (by rw [HSM.out]; exact hlt)
      have hlt2 : k < ys.length := by rw [HSM.out]; exact hlt
      have HX : Hid (∀ j, j + 1 = k → wr.cell? ⟨b1, o1 + j, none⟩ = some (.int .i64 (Tb.g xs j))) := fun j hj => by
        obtain ⟨b1', o1', e1, _, c2⟩ := HTB.out.xa j (by omega)
        simp only [Option.some.injEq, Addr.mk.injEq, and_true] at e1
        obtain ⟨rfl, rfl⟩ := e1
        exact c2
      generalize hx : Tb.g xs k = x at c1
      generalize hy : Tb.g ys k = y at c3
      have GX := Lib.hid hx
      have GY := Lib.hid hy
      clear hx hy
      by_cases p1 : x < 0
      · have q1 : decide (x < 0) = true := by simp [p1]
        have E := Lib.hid (E1.out (fun o => by have := (o.xb k hlt).1; rw [GX.out] at this; omega))
        go_wp2_with fail
        go_quiet (fail)
        go_wp2_with fail
        go_ret
        exact ⟨ret_int E.out.symm, below_drewN HB2.out _⟩
      · have q1 : decide (x < 0) = false := by simp [p1]
        by_cases p2 : 1048576 < x
        · have q2 : decide (1048576 < x) = true := by simp [p2]
          have E := Lib.hid (E1.out (fun o => by have := (o.xb k hlt).2; rw [GX.out] at this; omega))
          go_wp2_with fail
          go_quiet (fail)
          go_wp2_with fail
          go_ret
          exact ⟨ret_int E.out.symm, below_drewN HB2.out _⟩
        · have q2 : decide (1048576 < x) = false := by simp [p2]
          by_cases p3 : y < 0
          · have q3 : decide (y < 0) = true := by simp [p3]
            have E := Lib.hid (E1.out (fun o => by have := (o.yb k hlt).1; rw [GY.out] at this; omega))
            go_wp2_with fail
            go_quiet (fail)
            go_wp2_with fail
            go_ret
            exact ⟨ret_int E.out.symm, below_drewN HB2.out _⟩
          · have q3 : decide (y < 0) = false := by simp [p3]
            by_cases p4 : 1048576 < y
            · have q4 : decide (1048576 < y) = true := by simp [p4]
              have E := Lib.hid (E1.out (fun o => by have := (o.yb k hlt).2; rw [GY.out] at this; omega))
              go_wp2_with fail
              go_quiet (fail)
              go_wp2_with fail
              go_ret
              exact ⟨ret_int E.out.symm, below_drewN HB2.out _⟩
            · have q4 : decide (1048576 < y) = false := by simp [p4]
              cases k with
              | zero =>
                have HN : Hid (FineTo xs ys 1) := fun j hj => by
                  obtain rfl : j = 0 := by omega
                  rw [GX.out, GY.out]; exact ⟨⟨by omega, by omega⟩, ⟨by omega, by omega⟩, fun h => by omega⟩
                rw [Nat.add_zero] at c1 c3
                rw [show ((0 : Nat) : Int) = 0 from rfl]
                have q5 : decide ((0 : Int) < 0) = false := by decide
                go_wp2_with fail
                go_quiet (fail)
                go_wp2_with fail
                go_roundw
                case rel => exact ⟨1, by omega, by go_num, HN.out, below_drewN hB _⟩
                case measure => simp [intOf]; omega
              | succ k =>
                have c5 := HX.out k rfl
                generalize hz : Tb.g xs k = z at c5
                have GZ := Lib.hid hz
                clear hz
                have e5 : IntKind.i64.wrap (k : Int) = k := IntWalk.i64_in _ (by omega)
                have g0 : k < xs.length := by omega
                have g1 : (k : Int) + 1 < (xs.length : Int) := by omega
                have g1' : (k : Int) + 1 < (ys.length : Int) := by omega
                have g2 : 0 ≤ (k : Int) + 1 := by omega
                have g3 : ((k : Int) + 1).toNat = k + 1 := by omega
                have g4 : 0 < (k : Int) + 1 := by omega
                have q6 : decide (0 < (k : Int) + 1) = true := by simp; try omega
                by_cases p5 : x ≤ z
                · have q7 : decide (x ≤ z) = true := by simp [p5]
                  have E := Lib.hid (E1.out (fun o => by have := o.up k hlt; rw [GX.out, GZ.out] at this; omega))
                  go_wp2_with fail
                  go_quiet (fail)
                  go_wp2_with fail
                  go_ret
                  exact ⟨ret_int E.out.symm, below_drewN HB2.out _⟩
                · have q7 : decide (x ≤ z) = false := by simp [p5]
                  have HN : Hid (FineTo xs ys (k + 1 + 1)) := fun j hj => by
                    by_cases e : j = k + 1
                    · subst e
                      rw [GX.out, GY.out, show k + 1 - 1 = k from by omega, GZ.out]
                      exact ⟨⟨by omega, by omega⟩, ⟨by omega, by omega⟩, fun h => by omega⟩
                    · exact HF.out j (by omega)
                  go_wp2_with fail
                  go_quiet (fail)
                  go_wp2_with fail
                  go_roundw
                  case rel => exact ⟨k + 1 + 1, by omega, by go_num, HN.out, below_drewN hB _⟩
                  case measure => simp [intOf]; omega
    · obtain rfl : k = xs.length := by omega
      have E := Lib.hid (E2.out HF.out)
      go_wp2_with fail
      go_ret
      exact ⟨ret_int E.out.symm, HB2.out⟩

theorem rcheck_c (A B : Option Addr) (ca cb : Nat) (xs ys : List Int) (w : World) (hT : TabIn w A B xs ys) :
    Calls Tryd.prog 62 #[.agg #[.slice A xs.length ca, .slice B ys.length cb]] w fun e w' => e = .returned (.int .i64 (Tb.err xs ys)) ∧ Below w.heap.size w w' := by
  by_cases h1 : xs.length < 2 ∨ 16 < xs.length ∨ ys.length ≠ xs.length
  · exact rcheck_len A B ca cb xs ys w h1
  · exact rcheck_go A B ca cb xs ys w hT (by omega) (by omega) (by omega)

end TabC
end Go.Proofs.YtodilljomjhohaaDoor

/- Contracts of the document's own answers for layer 2, continued. -/
namespace Go.Proofs.YtodilljomjhohaaDoor
namespace TabC
open Go.RowKit

theorem rcheck_ok (A B : Option Addr) (ca cb : Nat) (xs ys : List Int) (w : World) (hT : TabIn w A B xs ys) (h : Tb.okB xs ys = true) :
    Calls Tryd.prog 62 #[.agg #[.slice A xs.length ca, .slice B ys.length cb]] w fun e w' => e = .returned (.int .i64 0) ∧ Below w.heap.size w w' := by
  have := rcheck_c A B ca cb xs ys w hT
  rwa [show Tb.err xs ys = 0 from by simp [Tb.err, h]] at this
theorem rcheck_no (A B : Option Addr) (ca cb : Nat) (xs ys : List Int) (w : World) (hT : TabIn w A B xs ys) (h : Tb.okB xs ys = false) :
    Calls Tryd.prog 62 #[.agg #[.slice A xs.length ca, .slice B ys.length cb]] w fun e w' => e = .returned (.int .i64 20) ∧ Below w.heap.size w w' := by
  have := rcheck_c A B ca cb xs ys w hT
  rwa [show Tb.err xs ys = 20 from by simp [Tb.err, h]] at this

def SortedTo (l : List Int) (k : Nat) : Prop := ∀ j, j + 1 < k → Tb.g l j ≤ Tb.g l (j + 1)

set_option maxHeartbeats 4000000 in
theorem rrising_c (A B : Option Addr) (ca cb : Nat) (xs ys : List Int) (w : World) (hT : TabIn w A B xs ys) :
    Calls Tryd.prog 48 #[.agg #[.slice A xs.length ca, .slice B ys.length cb]] w fun e w' => e = .returned (.bool (Tb.rsB xs ys)) ∧ Below w.heap.size w w' := by
  have HT := Lib.hid hT
  clear hT
  cases h : Tb.okB xs ys with
  | false =>
    have E : Hid (Tb.rsB xs ys = false) := by show _ = _; simp [Tb.rsB, h]
    have HO := Lib.hid h
    clear h
    go_enter Tryd.func48, Tryd.ntmps48
    go_wp2_with fail
    refine (rcheck_no A B ca cb xs ys _ (HT.out.alloc _) HO.out).mono ?_
    rintro e w1 ⟨rfl, hb⟩
    have hb2 : Below w.heap.size w w1 := ((Below.refl _ _).alloc (Nat.le_refl _) _).trans (hb.mono (by simp))
    go_wp2_with fail
    go_ret
    exact ⟨ret_bool E.out.symm, hb2⟩
  | true =>
    have HO := Lib.hid h
    have E : Hid (Tb.rsB xs ys = Tb.riB ys) := by show _ = _; simp [Tb.rsB, h]
    have hyl := HT.out.yl
    have h1 : 0 < ys.length := by have := ((Tb.ok_iff xs ys).1 h).two; have := ((Tb.ok_iff xs ys).1 h).same; omega
    clear h
    go_enter Tryd.func48, Tryd.ntmps48
    go_wp2_with fail
    refine (rcheck_ok A B ca cb xs ys _ (HT.out.alloc _) HO.out).mono ?_
    rintro e w1 ⟨rfl, hb⟩
    have hb2 : Below w.heap.size w w1 := ((Below.refl _ _).alloc (Nat.le_refl _) _).trans (hb.mono (by simp))
    have hz := hb.size
    simp only [World.size_alloc] at hz
    have bT := Lib.hid ((Lk.BoxV.new w 25 #[.slice A xs.length ca, .slice B ys.length cb]).below hb (by simp))
    have HB2 := Lib.hid hb2
    clear hb hb2
    go_wp2_with fail
    go_loopw [3] (fun i wr => ∃ k : Nat, 1 ≤ k ∧ k ≤ ys.length ∧ i = .int .i64 k ∧ SortedTo ys k ∧ Below w1.heap.size w1 wr) (fun i _ => ys.length - (intOf i).toNat)
    case atStart => exact ⟨1, Nat.le_refl _, h1, rfl, (fun j hj => by omega), Below.refl _ _⟩
    case round =>
      obtain ⟨k, hk1, hk, rfl, hF, hB⟩ := hrel
      have HF := Lib.hid hF
      have t1 := (bT.out.below hB (by omega)).cell 1
      simp only [List.getElem?_toArray, List.getElem?_cons_zero, List.getElem?_cons_succ] at t1
      have HB3 := Lib.hid (HB2.out.trans (hB.mono HB2.out.size))
      have HTB := Lib.hid (HT.out.box HB3.out (bT.out.below hB (by omega)))
      clear hF
      by_cases hlt : k < ys.length
      · obtain ⟨k, rfl⟩ : ∃ j, k = j + 1 := ⟨k - 1, by omega⟩
        obtain ⟨b3, o3, rfl, hb3, c3⟩ := HTB.out.ya k (by omega)
        obtain ⟨b4, o4, e4, _, c4⟩ := HTB.out.ya (k + 1) hlt
        simp only [Option.some.injEq, Addr.mk.injEq, and_true] at e4
        obtain ⟨rfl, rfl⟩ := e4
        generalize hx : Tb.g ys k = x at c3
        generalize hy : Tb.g ys (k + 1) = y at c4
        have GX := Lib.hid hx
        have GY := Lib.hid hy
        clear hx hy
        have e5 : IntKind.i64.wrap (k : Int) = k := IntWalk.i64_in _ (by omega)
        have g0 : k < ys.length := by omega
        have g1 : (k : Int) + 1 < (ys.length : Int) := by omega
        have g2 : 0 ≤ (k : Int) + 1 := by omega
        have g3 : ((k : Int) + 1).toNat = k + 1 := by omega
        by_cases p : y < x
        · have q : decide (y < x) = true := by simp [p]
          have EE : Hid (Tb.riB ys = false) := by
            show _ = _
            rw [Bool.eq_false_iff]; intro h
            have := (Tb.riB_iff ys).1 h k hlt
            rw [GX.out, GY.out] at this; omega
          go_wp2_with fail
          go_quiet (fail)
          go_wp2_with fail
          go_ret
          exact ⟨ret_bool (by rw [E.out, EE.out]), below_drewN HB3.out _⟩
        · have q : decide (y < x) = false := by simp [p]
          have HN : Hid (SortedTo ys (k + 1 + 1)) := fun j hj => by
            by_cases e : j = k
            · subst e; rw [GX.out, GY.out]; omega
            · exact HF.out j (by omega)
          go_wp2_with fail
          go_quiet (fail)
          go_wp2_with fail
          go_roundw
          case rel => exact ⟨k + 1 + 1, by omega, by omega, by go_num, HN.out, below_drewN hB _⟩
          case measure => simp [intOf]; omega
      · obtain rfl : k = ys.length := by omega
        have EE := Lib.hid ((Tb.riB_iff ys).2 HF.out)
        go_wp2_with fail
        go_ret
        exact ⟨ret_bool (by rw [E.out, EE.out]), HB3.out⟩

theorem below_eq {a b : Int} (hb : 0 < b) : a / b = if a < a.tdiv b * b then a.tdiv b - 1 else a.tdiv b := by
  have e := floor_eq (a := a) hb
  have m := Int.mul_tdiv_add_tmod a b
  rw [Int.mul_comm] at m
  by_cases c : a.tmod b < 0
  · rw [if_pos c] at e; rw [if_pos (by omega)]; exact e
  · rw [if_neg c] at e; rw [if_neg (by omega)]; exact e

theorem tdiv_mul_bd {a b : Int} (hb : 0 < b) (h1 : -4611686018427387904 ≤ a) (h2 : a ≤ 4611686018427387904) (hb2 : b ≤ 1048576) : -4611686018428436480 ≤ a.tdiv b * b ∧ a.tdiv b * b ≤ 4611686018428436480 := by
  have m := Int.mul_tdiv_add_tmod a b
  rw [Int.mul_comm] at m
  have t1 := Int.tmod_lt_of_pos a hb
  have t2 := Int.lt_tmod_of_pos a hb
  omega

end TabC
end Go.Proofs.YtodilljomjhohaaDoor

/- Contracts of the document's own answers for layer 2: At, Peak, Steep. -/
namespace Go.Proofs.YtodilljomjhohaaDoor
namespace TabC
open Go.RowKit

end TabC
end Go.Proofs.YtodilljomjhohaaDoor

/- A table and its box, held through calls; turbojetlaw02.Few. -/
namespace Go.Proofs.YtodilljomjhohaaDoor
namespace TabC
open Go.RowKit

theorem few_yes (A B : Option Addr) (ca cb : Nat) (xs ys : List Int) (w : World) (h1 : xs.length ≤ 40) (h2 : ys.length ≤ 40) :
    Calls Tryd.prog 21 #[.agg #[.slice A xs.length ca, .slice B ys.length cb]] w fun e w' => e = .returned (.bool true) ∧ Below w.heap.size w w' := by
  have d1 : decide ((xs.length : Int) ≤ 40) = true := by simp; omega
  have d2 : decide ((ys.length : Int) ≤ 40) = true := by simp; omega
  go_enter Tryd.func21, Tryd.ntmps21
  go_wp2
  go_ret
  exact ⟨rfl, (Below.refl _ _).alloc (Nat.le_refl _) _⟩
theorem few_no (A B : Option Addr) (ca cb : Nat) (xs ys : List Int) (w : World) (h : 40 < xs.length ∨ 40 < ys.length) :
    Calls Tryd.prog 21 #[.agg #[.slice A xs.length ca, .slice B ys.length cb]] w fun e w' => e = .returned (.bool false) ∧ Below w.heap.size w w' := by
  by_cases h1 : 40 < xs.length
  · clear h
    have d1 : decide ((xs.length : Int) ≤ 40) = false := by simp; omega
    go_enter Tryd.func21, Tryd.ntmps21
    go_wp2
    go_ret
    exact ⟨rfl, (Below.refl _ _).alloc (Nat.le_refl _) _⟩
  · have h2 : 40 < ys.length := by omega
    clear h
    have d1 : decide ((xs.length : Int) ≤ 40) = true := by simp; omega
    have d2 : decide ((ys.length : Int) ≤ 40) = false := by simp; omega
    go_enter Tryd.func21, Tryd.ntmps21
    go_wp2
    go_ret
    exact ⟨rfl, (Below.refl _ _).alloc (Nat.le_refl _) _⟩
def fewB (xs ys : List Int) : Bool := decide (xs.length ≤ 40) && decide (ys.length ≤ 40)
theorem few_c (A B : Option Addr) (ca cb : Nat) (xs ys : List Int) (w : World) :
    Calls Tryd.prog 21 #[.agg #[.slice A xs.length ca, .slice B ys.length cb]] w fun e w' => e = .returned (.bool (fewB xs ys)) ∧ Below w.heap.size w w' := by
  by_cases h : 40 < xs.length ∨ 40 < ys.length
  · rw [show fewB xs ys = false from by simp only [fewB, Bool.and_eq_false_iff, decide_eq_false_iff_not]; omega]; exact few_no A B ca cb xs ys w h
  · rw [show fewB xs ys = true from by simp only [fewB, Bool.and_eq_true, decide_eq_true_eq]; omega]; exact few_yes A B ca cb xs ys w (by omega) (by omega)

/-- A table, its box at n, and what was there. -/
structure Held (n : Nat) (A B : Option Addr) (ca cb : Nat) (xs ys : List Int) (w W : World) : Prop where
  tab : TabIn W A B xs ys
  box : Lk.BoxV W n 25 #[.slice A xs.length ca, .slice B ys.length cb]
  old : Below w.heap.size w W
theorem Held.below {n : Nat} {A B : Option Addr} {ca cb : Nat} {xs ys : List Int} {w W W' : World} (h : Held n A B ca cb xs ys w W) (hb : Below W.heap.size W W') : Held n A B ca cb xs ys w W' :=
  ⟨h.tab.below hb, h.box.below hb h.box.lt, h.old.trans (hb.mono h.old.size)⟩
theorem Held.drew {n : Nat} {A B : Option Addr} {ca cb : Nat} {xs ys : List Int} {w W : World} (h : Held n A B ca cb xs ys w W) : Held n A B ca cb xs ys w W.drew := h.below (Below.refl W.heap.size W).drew
theorem Held.alloc {n : Nat} {A B : Option Addr} {ca cb : Nat} {xs ys : List Int} {w W : World} (h : Held n A B ca cb xs ys w W) (o : Obj) : Held n A B ca cb xs ys w (W.alloc o) := h.below ((Below.refl _ _).alloc (Nat.le_refl _) _)
theorem Held.new {A B : Option Addr} {ca cb : Nat} {xs ys : List Int} {w : World} (h : TabIn w A B xs ys) : Held w.heap.size A B ca cb xs ys w (w.alloc (.cells #[.slice A xs.length ca, .slice B ys.length cb] 25)) :=
  ⟨h.alloc _, Lk.BoxV.new _ _ _, (Below.refl _ _).alloc (Nat.le_refl _) _⟩
theorem Held.c0 {n : Nat} {A B : Option Addr} {ca cb : Nat} {xs ys : List Int} {w W : World} (h : Held n A B ca cb xs ys w W) : W.cell? ⟨n, 0, none⟩ = some (.slice A xs.length ca) := by rw [h.box.cell]; rfl
theorem Held.c1 {n : Nat} {A B : Option Addr} {ca cb : Nat} {xs ys : List Int} {w W : World} (h : Held n A B ca cb xs ys w W) : W.cell? ⟨n, 1, none⟩ = some (.slice B ys.length cb) := by rw [h.box.cell]; rfl

end TabC
end Go.Proofs.YtodilljomjhohaaDoor

/- Plain arithmetic of engines: what the functions of package synth, and the document's answers beside them, come to. No program is named here. -/
namespace Em

/-- An engine: four tables, each of places and values (f: fuel, p: N2, q: N1, h: heat), and eight numbers. -/
structure En where
  fx : List Int
  fy : List Int
  px : List Int
  py : List Int
  qx : List Int
  qy : List Int
  hx : List Int
  hy : List Int
  lag2 : Int
  lag1 : Int
  lagE : Int
  slew : Int
  starter : Int
  light : Int
  lean : Int
  disturb : Int

def within (n a b : Int) : Bool := decide (a ≤ n) && decide (n ≤ b)
def tabs (e : En) : Bool := Tb.rsB e.fx e.fy && Tb.rsB e.px e.py && Tb.rsB e.qx e.qy && Tb.rsB e.hx e.hy
def lags (e : En) : Bool := within e.lag2 1 64 && within e.lag1 1 64 && within e.lagE 1 64
def nums (e : En) : Bool := within e.slew 1 1048576 && within e.starter 0 1048576 && within e.light 0 1048576 && within e.lean 0 1048576 && within e.disturb 0 1048576
def rest3 (e : En) : Bool := decide (e.light ≤ e.starter) && decide (1 ≤ e.lean) && decide (e.lean ≤ Tb.g e.fy 0)
def okB (e : En) : Bool := tabs e && lags e && nums e && rest3 e
def err (e : En) : Int := if okB e = true then 0 else 100

/-- A table that rises. -/
structure Ri (xs ys : List Int) : Prop where
  ok : Tb.Ok xs ys
  up : Tb.riB ys = true
theorem ri_iff (xs ys : List Int) : Tb.rsB xs ys = true ↔ Ri xs ys := by
  simp only [Tb.rsB, Bool.and_eq_true, Tb.ok_iff]
  exact ⟨fun h => ⟨h.1, h.2⟩, fun h => ⟨h.ok, h.up⟩⟩

structure Ok (e : En) : Prop where
  f : Ri e.fx e.fy
  p : Ri e.px e.py
  q : Ri e.qx e.qy
  h : Ri e.hx e.hy
theorem ok_of {e : En} (h : okB e = true) : Ok e := by
  simp only [okB, tabs, Bool.and_eq_true, ri_iff] at h
  obtain ⟨⟨⟨⟨⟨⟨a, b⟩, c⟩, d⟩, _⟩, _⟩, _⟩ := h
  exact ⟨a, b, c, d⟩

/-- What an engine comes to. -/
def n2 (e : En) (f : Int) : Int := Tb.atO e.px e.py f
def n1 (e : En) (f : Int) : Int := Tb.atO e.qx e.qy (n2 e f)
def ht (e : En) (f : Int) : Int := Tb.atO e.hx e.hy f
def r2 (e : En) (f : Int) : Int := if okB e = true then n2 e f else 0
def r1 (e : En) (f : Int) : Int := if okB e = true then n1 e f else 0
def rh (e : En) (f : Int) : Int := if okB e = true then ht e f else 0
/-- What each signal should be, by the others. -/
def md (e : En) (v : Nat → Int) : Nat → Int
  | 0 => Tb.atO e.qx e.qy (v 1)
  | 1 => Tb.bkO e.qx e.qy (v 0)
  | 2 => Tb.atO e.hx e.hy (v 4)
  | 3 => v 3
  | 4 => Tb.bkO e.px e.py (v 1)
  | _ => 0
def model (e : En) (v : Nat → Int) (k : Nat) : Int := if okB e = true then md e v k else 0

/-! ### what follows -/

section
variable {e : En}
theorem n2_mono (h : Ok e) {a b : Int} (hab : a ≤ b) : n2 e a ≤ n2 e b := Tb.at_mono h.p.ok h.p.up hab
theorem n1_mono (h : Ok e) {a b : Int} (hab : a ≤ b) : n1 e a ≤ n1 e b := Tb.at_mono h.q.ok h.q.up (n2_mono h hab)
theorem ht_mono (h : Ok e) {a b : Int} (hab : a ≤ b) : ht e a ≤ ht e b := Tb.at_mono h.h.ok h.h.up hab
theorem n2_pk (h : Ok e) (a : Int) : n2 e a ≤ Tb.mx e.py := Tb.at_le_mx h.p.ok a
theorem n1_pk (h : Ok e) (a : Int) : n1 e a ≤ Tb.mx e.qy := Tb.at_le_mx h.q.ok _
theorem ht_pk (h : Ok e) (a : Int) : ht e a ≤ Tb.mx e.hy := Tb.at_le_mx h.h.ok a
theorem n2_bd (h : Ok e) (a : Int) : 0 ≤ n2 e a ∧ n2 e a ≤ 1048576 := Tb.at_bd h.p.ok a
theorem n1_bd (h : Ok e) (a : Int) : 0 ≤ n1 e a ∧ n1 e a ≤ 1048576 := Tb.at_bd h.q.ok _
theorem ht_bd (h : Ok e) (a : Int) : 0 ≤ ht e a ∧ ht e a ≤ 1048576 := Tb.at_bd h.h.ok a
theorem bk_bd {xs ys : List Int} (h : Tb.Ok xs ys) (y : Int) : 0 ≤ Tb.bkO xs ys y ∧ Tb.bkO xs ys y ≤ 1048576 := by
  have h2 := h.two
  obtain ⟨a, b, _, _⟩ := Tb.bk_spec h y
  have := (h.xb 0 (by omega)).1
  have := (h.xb (xs.length - 1) (by omega)).2
  omega

/-- The fuel that brings so much is no more than what brought it. -/
theorem bk_le {xs ys : List Int} (h : Tb.Ok xs ys) {f : Int} (h0 : Tb.g xs 0 ≤ f) : Tb.bkO xs ys (Tb.atO xs ys f) ≤ f := by
  obtain ⟨_, _, c, _⟩ := Tb.bk_spec h (Tb.atO xs ys f)
  rcases Int.lt_or_le f (Tb.bkO xs ys (Tb.atO xs ys f)) with e | e
  · have := c f h0 e; omega
  · exact e
theorem bk_le_max {xs ys : List Int} (h : Tb.Ok xs ys) (f : Int) : Tb.bkO xs ys (Tb.atO xs ys f) ≤ max f (Tb.g xs 0) := by
  rcases Int.le_total (Tb.g xs 0) f with e | e
  · have := bk_le h e; omega
  · rw [Tb.at_lo h e, Tb.bk_first h (Int.le_refl _)]; omega
/-- What it brings is what was brought. -/
theorem at_bk {xs ys : List Int} (h : Ri xs ys) {f : Int} (h0 : Tb.g xs 0 ≤ f) : Tb.atO xs ys (Tb.bkO xs ys (Tb.atO xs ys f)) = Tb.atO xs ys f := by
  have a := Tb.at_mono h.ok h.up (bk_le h.ok h0)
  rcases Tb.bk_enough h.ok (Tb.atO xs ys f) with b | ⟨_, b⟩
  · omega
  · have := Tb.at_le_mx h.ok f; omega

/-- Caps: beyond the last places of both, and ahead of the first ones. -/
theorem n2_hi (h : Ok e) {a b : Int} (ha : Tb.g e.px (e.px.length - 1) ≤ a) (hab : a ≤ b) : n2 e b = n2 e a := by
  unfold n2; rw [Tb.at_hi h.p.ok ha, Tb.at_hi h.p.ok (by omega)]
theorem ht_hi (h : Ok e) {a b : Int} (ha : Tb.g e.hx (e.hx.length - 1) ≤ a) (hab : a ≤ b) : ht e b = ht e a := by
  unfold ht; rw [Tb.at_hi h.h.ok ha, Tb.at_hi h.h.ok (by omega)]
theorem n2_lo (h : Ok e) {a b : Int} (ha : a ≤ Tb.g e.px 0) (hab : b ≤ a) : n2 e b = n2 e a := by
  unfold n2; rw [Tb.at_lo h.p.ok ha, Tb.at_lo h.p.ok (by omega)]
theorem ht_lo (h : Ok e) {a b : Int} (ha : a ≤ Tb.g e.hx 0) (hab : b ≤ a) : ht e b = ht e a := by
  unfold ht; rw [Tb.at_lo h.h.ok ha, Tb.at_lo h.h.ok (by omega)]
theorem n1_of {a b : Int} (h : n2 e a = n2 e b) : n1 e a = n1 e b := by unfold n1; rw [h]
end

end Em

/- General, over any program: blocks that are known as objects, and all that lay as it was: what a walk carries through its calls and stores. -/
namespace Go.Proofs.YtodilljomjhohaaDoor
namespace Lk
open Go Go.RowKit

/-- All but block b is as it was. -/
structure Off (b : Nat) (w w' : World) : Prop where
  os : w'.os = w.os
  tape : w'.tape = w.tape
  output : w'.output = w.output
  size : w'.heap.size = w.heap.size
  block : ∀ k, k ≠ b → w'.heap[k]? = w.heap[k]?
namespace Off
variable {b : Nat} {w w' w'' : World}
theorem refl (b : Nat) (w : World) : Off b w w := ⟨rfl, rfl, rfl, rfl, fun _ _ => rfl⟩
theorem trans (h : Off b w w') (k : Off b w' w'') : Off b w w'' := ⟨k.os.trans h.os, k.tape.trans h.tape, k.output.trans h.output, k.size.trans h.size, fun i hi => (k.block i hi).trans (h.block i hi)⟩
theorem set (h : Off b w w') (o : Nat) (v : Value) : Off b w (w'.setCell ⟨b, o, none⟩ v) := h.trans ⟨rfl, rfl, rfl, by simp [World.setCell], fun k hk => Below.heap_setCell _ _ _ _ hk⟩
theorem drew (h : Off b w w') : Off b w w'.drew := ⟨h.os, h.tape, h.output, h.size, h.block⟩
theorem below (h : Off b w w') {m : Nat} (hm : m ≤ b) : Below m w w' := ⟨h.os, h.tape, h.output, Nat.le_of_eq h.size.symm, fun k hk => h.block k (by omega)⟩
theorem cell (h : Off b w w') {p : Addr} (hp : p.block ≠ b) : w'.cell? p = w.cell? p := World.cell?_of_block (w := w) (h.block p.block hp)
theorem row (w : World) (g : Nat) (cs : Array Value) : Off g w (w.setRow g cs) := ⟨rfl, rfl, rfl, by simp, fun k hk => setRow_other w g k cs hk⟩
end Off

theorem wanted {P : Program} {ops : Array Oper} {Q : Exit → Act → World → Prop} {a : Act} {w : World} {rest : List Oper} {o : Oper} (hw : Region.wanted o (yielded ops a.tmps) = true)
    (h : ∀ K : Act → World → Prop, (∀ a w, wpList P ops Q rest a w → K a w) → o.wp P a w K Q) : wpList P ops Q (o :: rest) a w :=
  wpList_step fun K hK => by rw [if_pos hw]; exact h K hK

/-- Blocks that are known, and all that lay as it was. -/
structure Hv (w W : World) (L : List (Nat × Obj)) : Prop where
  has : ∀ e ∈ L, W.heap[e.1]? = some e.2
  old : Below w.heap.size w W
namespace Hv
variable {w W W' : World} {L : List (Nat × Obj)}
theorem lt (h : Hv w W L) {e : Nat × Obj} (he : e ∈ L) : e.1 < W.heap.size := (Array.getElem?_eq_some_iff.1 (h.has e he)).1
theorem below {K : Nat} (h : Hv w W L) (hb : Below K W W') (hK : W.heap.size ≤ K) : Hv w W' L :=
  ⟨fun e he => (hb.block e.1 (by have := h.lt he; omega)).trans (h.has e he), h.old.trans (hb.mono (by have := h.old.size; omega))⟩
theorem grow (h : Hv w W L) (hb : Below W.heap.size W W') : Hv w W' L := h.below hb (Nat.le_refl _)
theorem alloc (h : Hv w W L) (o : Obj) : Hv w (W.alloc o) L := h.grow ((Below.refl W.heap.size W).alloc (Nat.le_refl _) o)
theorem drew (h : Hv w W L) : Hv w W.drew L := ⟨h.has, h.old.drew⟩
theorem add (h : Hv w W L) (e : Nat × Obj) (he : W.heap[e.1]? = some e.2) : Hv w W (e :: L) := ⟨fun x hx => (List.mem_cons.1 hx).elim (fun q => q ▸ he) (h.has x), h.old⟩
theorem made (h : Hv w W L) (o : Obj) : Hv w (W.alloc o) ((W.heap.size, o) :: L) := (h.alloc o).add _ (heap_alloc_last W o)
theorem off {j : Nat} (h : Hv w W L) (ho : Off j W W') (hj : ∀ e ∈ L, e.1 ≠ j) (h3 : w.heap.size ≤ j) : Hv w W' L :=
  ⟨fun e he => (ho.block e.1 (hj e he)).trans (h.has e he), h.old.trans (ho.below h3)⟩
/-- A new block, stored into. -/
theorem put {o o' : Obj} (h : Hv w W L) (hP : W'.heap[W.heap.size]? = some o') (ho : Off W.heap.size (W.alloc o) W') : Hv w W' ((W.heap.size, o') :: L) :=
  ((h.alloc o).off ho (fun e he => by have := h.lt he; omega) h.old.size).add _ hP
theorem nil (w : World) : Hv w w [] := ⟨fun _ h => (List.not_mem_nil h).elim, Below.refl _ _⟩
theorem none (h : Hv w W L) : Hv w W [] := ⟨fun _ h => (List.not_mem_nil h).elim, h.old⟩
theorem tail {e : Nat × Obj} (h : Hv w W (e :: L)) : Hv w W L := ⟨fun x hx => h.has x (List.mem_cons_of_mem _ hx), h.old⟩
theorem head {e : Nat × Obj} (h : Hv w W (e :: L)) : W.heap[e.1]? = some e.2 := h.has e List.mem_cons_self
theorem h2 {e f : Nat × Obj} (h : Hv w W (e :: f :: L)) : W.heap[f.1]? = some f.2 := h.tail.head
theorem h3 {e f g : Nat × Obj} (h : Hv w W (e :: f :: g :: L)) : W.heap[g.1]? = some g.2 := h.tail.tail.head
theorem h4 {e f g k : Nat × Obj} (h : Hv w W (e :: f :: g :: k :: L)) : W.heap[k.1]? = some k.2 := h.tail.tail.tail.head
/-- The first block, stored into. -/
theorem change {j : Nat} {o o' : Obj} (h : Hv w W ((j, o) :: L)) (ho : Off j W W') (hP : W'.heap[j]? = some o') (hj : ∀ e ∈ L, e.1 ≠ j) (h3 : w.heap.size ≤ j) : Hv w W' ((j, o') :: L) := (h.tail.off ho hj h3).add _ hP
end Hv
end Lk
end Go.Proofs.YtodilljomjhohaaDoor

/- An engine that came in, and its box, held through calls; arrays of five. -/
namespace Go.Proofs.YtodilljomjhohaaDoor
namespace Ew
open Go.RowKit TabC Lk

/-- A table as it lies in two cells. -/
structure Tv where
  A : Option Addr
  B : Option Addr
  ca : Nat
  cb : Nat
  xs : List Int
  ys : List Int
abbrev tc (t : Tv) : Array Value := #[.slice t.A t.xs.length t.ca, .slice t.B t.ys.length t.cb]

/-- An engine as it lies: four tables and eight numbers. -/
structure Eg where
  f : Tv
  p : Tv
  q : Tv
  h : Tv
  lag2 : Int
  lag1 : Int
  lagE : Int
  slew : Int
  starter : Int
  light : Int
  lean : Int
  disturb : Int
def en (e : Eg) : Em.En := ⟨e.f.xs, e.f.ys, e.p.xs, e.p.ys, e.q.xs, e.q.ys, e.h.xs, e.h.ys, e.lag2, e.lag1, e.lagE, e.slew, e.starter, e.light, e.lean, e.disturb⟩

abbrev ec (e : Eg) : Array Value := #[.slice e.f.A e.f.xs.length e.f.ca, .slice e.f.B e.f.ys.length e.f.cb, .slice e.p.A e.p.xs.length e.p.ca, .slice e.p.B e.p.ys.length e.p.cb, .slice e.q.A e.q.xs.length e.q.ca, .slice e.q.B e.q.ys.length e.q.cb, .slice e.h.A e.h.xs.length e.h.ca, .slice e.h.B e.h.ys.length e.h.cb, .int .i64 e.lag2, .int .i64 e.lag1, .int .i64 e.lagE, .int .i64 e.slew, .int .i64 e.starter, .int .i64 e.light, .int .i64 e.lean, .int .i64 e.disturb]
abbrev eo (e : Eg) : Obj := .cells (ec e) 27 (0, 0)
abbrev so (e : Eg) : Obj := .cells (ec e) 75 (0, 0)
theorem info_e : (Tryd.prog.info? 27).map (·.size) = some 16 := by kernel_rfl
theorem ec_one (e : Eg) : (ec e).all (·.oneCell') = true := by simp [ec, Value.oneCell']

/-- The tables of an engine can be read. -/
structure EngIn (W : World) (e : Eg) : Prop where
  f : TabIn W e.f.A e.f.B e.f.xs e.f.ys
  p : TabIn W e.p.A e.p.B e.p.xs e.p.ys
  q : TabIn W e.q.A e.q.B e.q.xs e.q.ys
  h : TabIn W e.h.A e.h.B e.h.xs e.h.ys
theorem EngIn.below {W W' : World} {e : Eg} (h : EngIn W e) (hb : Below W.heap.size W W') : EngIn W' e := ⟨h.f.below hb, h.p.below hb, h.q.below hb, h.h.below hb⟩
theorem EngIn.alloc {W : World} {e : Eg} (h : EngIn W e) (o : Obj) : EngIn (W.alloc o) e := h.below ((Below.refl _ _).alloc (Nat.le_refl _) _)
theorem EngIn.old {w W : World} {e : Eg} {L : List (Nat × Obj)} (h : EngIn w e) (hv : Hv w W L) : EngIn W e := h.below hv.old

section
variable {ops : Array Oper} {rest : List Oper} {op : Oper} {a : Act} {w : World} {Q : Exit → Act → World → Prop}
/-- An engine, loaded and stored as a whole. -/
theorem lde (hw : Region.wanted op (yielded ops a.tmps) = true) (x : Operand) (ho : op.op = .load 27 x)
    (b : Nat) (e : Eg) (hx : a.eval x = .pointer (some ⟨b, 0, none⟩)) (hP : w.heap[b]? = some (eo e))
    (c : wpList Tryd.prog ops Q rest (a.put op.dst (.agg (ec e))) w) : wpList Tryd.prog ops Q (op :: rest) a w :=
  Lk.wanted hw fun _ hK => wp_load_row 27 x ho b hx 27 (ec e) (0, 0) _ hP Tryd.underlying27 rfl info_e (hK _ _ c)
theorem ste (hgd : op.guard = none) (x y : Operand) (ho : op.op = .store 27 x y) (hd : op.dst = none)
    (g : Nat) (q p : Eg) (hx : a.eval x = .pointer (some ⟨g, 0, none⟩)) (hy : a.eval y = .agg (ec p)) (hP : w.heap[g]? = some (eo q))
    (h : ∀ w', w'.heap[g]? = some (eo p) → Off g w w' → wpList Tryd.prog ops Q rest a w') : wpList Tryd.prog ops Q (op :: rest) a w := by
  refine wpList_plain hgd fun _ hK => wp_store_row 27 x y ho g (ec p) hx hy 27 (ec q) hP info_e rfl (ec_one p) (hK _ _ ?_)
  rw [hd]
  exact h _ (setRow_heap w g (ec q) (ec p) 27 (0, 0) hP) (Off.row w g _)
end

end Ew
end Go.Proofs.YtodilljomjhohaaDoor

/- Contracts of table.Back's closure, and of sort.Search over it. -/
namespace Go.Proofs.YtodilljomjhohaaDoor
namespace TabC
open Go.RowKit Go.Shelf

/-- What is asked at the i-th place of a step. -/
def askB (f t a b y i : Int) : Bool := decide (y ≤ a + (f + i - f) * (b - a) / (t - f))

theorem keepS {w W w2 : World} {Bx By : Nat} {f t a b y : Int} (lS : Bx < w.heap.size) (lY : By < w.heap.size)
    (h : (W.cell? ⟨Bx, 0, none⟩ = some (.int .i64 f) ∧ W.cell? ⟨Bx, 1, none⟩ = some (.int .i64 t) ∧ W.cell? ⟨Bx, 2, none⟩ = some (.int .i64 a) ∧ W.cell? ⟨Bx, 3, none⟩ = some (.int .i64 b)) ∧ W.cell? ⟨By, 0, none⟩ = some (.int .i64 y) ∧ Below w.heap.size w W) (hb : Below W.heap.size W w2) :
    (w2.cell? ⟨Bx, 0, none⟩ = some (.int .i64 f) ∧ w2.cell? ⟨Bx, 1, none⟩ = some (.int .i64 t) ∧ w2.cell? ⟨Bx, 2, none⟩ = some (.int .i64 a) ∧ w2.cell? ⟨Bx, 3, none⟩ = some (.int .i64 b)) ∧ w2.cell? ⟨By, 0, none⟩ = some (.int .i64 y) ∧ Below w.heap.size w w2 := by
  obtain ⟨⟨h0, h1, h2, h3⟩, h4, h5⟩ := h
  have hs := h5.size
  have k := hb.mono hs
  exact ⟨⟨(k.cell (p := ⟨Bx, 0, none⟩) lS).trans h0, (k.cell (p := ⟨Bx, 1, none⟩) lS).trans h1, (k.cell (p := ⟨Bx, 2, none⟩) lS).trans h2, (k.cell (p := ⟨Bx, 3, none⟩) lS).trans h3⟩, (k.cell (p := ⟨By, 0, none⟩) lY).trans h4, h5.trans k⟩

def Found (p : Int → Bool) (n r : Int) : Prop := 0 ≤ r ∧ r ≤ n ∧ (0 < r → p (r - 1) = false) ∧ (r < n → p r = true)
def FoundAt (p : Int → Bool) (n : Int) (w : World) (e : Ending) (w' : World) : Prop := ∃ r, Found p n r ∧ e = .returned (.int .i64 r) ∧ Below w.heap.size w w'
structure Halves (p : Int → Bool) (n i j : Int) : Prop where
  lo : 0 ≤ i
  le : i ≤ j
  hi : j ≤ n
  no : 0 < i → p (i - 1) = false
  yes : j < n → p j = true

end TabC
end Go.Proofs.YtodilljomjhohaaDoor

/- Contract of table.Steep. -/
namespace Go.Proofs.YtodilljomjhohaaDoor
namespace TabC
open Go.RowKit Go.Shelf

attribute [local go_sem] Oper.semAt_some

def stP (xs ys : List Int) (pre : List (Idx xs)) : Int := Tb.mx (pre.map fun k => Tb.stp xs ys k.1)
theorem stP_snoc (xs ys : List Int) (pre : List (Idx xs)) (k : Idx xs) : stP xs ys (pre ++ [k]) = max (stP xs ys pre) (Tb.stp xs ys k.1) := by simp [stP, Tb.mx]
theorem stP_ups (xs ys : List Int) : ∀ m, m + 1 ≤ xs.length → stP xs ys (ups xs m) = Tb.stU xs ys m
  | 0, _ => rfl
  | m + 1, h => by rw [ups_succ (by omega), stP_snoc, stP_ups xs ys m (by omega), Tb.stU_succ]
theorem KpT.of_below {n₀ Bs : Nat} {W W' : World} (h : Below W.heap.size W W') (h1 : n₀ ≤ W.heap.size) (h2 : Bs < W.heap.size) : KpT n₀ Bs W W' := ⟨h.mono h1, h.block Bs h2⟩
theorem KpT.setCell {n₀ Bs : Nat} {W W' : World} (h : KpT n₀ Bs W W') {p : Addr} (h1 : n₀ ≤ p.block) (h2 : p.block ≠ Bs) (v : Value) : KpT n₀ Bs W (W'.setCell p v) := ⟨h.1.setCell h1 v, (Below.heap_setCell _ _ _ _ (Ne.symm h2)).trans h.2⟩

end TabC
end Go.Proofs.YtodilljomjhohaaDoor

/- General, over any program: a region that draws its order, inside a fence that lets every call by (also within a round): an operation that yields one value in every world that meets a condition S may be taken first, if S is shown anew behind every operation. -/
namespace Go.Proofs.YtodilljomjhohaaDoor
namespace Lk
open Go Go.RowKit

section
variable {F : Fence} {n : Nat} {P : Program} {ops : Array Oper} {Q : Exit → Act → World → Prop} {md : Region.Mode} {S : World → Prop}

theorem opIn_of_yields (hF : Open F n P) (hd : noDefer ops = true) {i : Nat} {o : Oper} {v : Value} {a : Act} (hi : ops[i]? = some o) (hy : YieldsIf P ops S o v a)
    {K : Act → World → Prop} {w : World} (hS : S w) (h : K (a.put o.dst v) w) : wpOpIn F n P ops Q i K a w := by
  unfold wpOpIn
  simp only [hi]
  rcases hy with ⟨hw, hv⟩ | ⟨hw, rfl⟩
  · simp only [hw, if_true, Oper.wpIn]
    rw [Oper.semAt_eq F.round a.eval o (noDefer_spec hd hi), hv w hS]
    exact ⟨fun f _ => hF.fn f, h⟩
  · simp only [hw, Bool.false_eq_true, if_false]
    exact ⟨fun f _ => hF.fn f, h⟩

theorem opIn_put (hd : noDefer ops = true) {j : Nat} {oi oj : Oper} {v : Value} (hj : ops[j]? = some oj) (hap : oi.apart ops oj = true)
    (hsi : ∀ cs b, oi.op ≠ .select cs b) (hsj : ∀ cs b, oj.op ≠ .select cs b)
    (hQ : ∀ c a w, Q (.panic c) (a.put oi.dst v) w → Q (.panic c) a w) {K : Act → World → Prop} {a : Act} {w : World}
    (hy : YieldsIf P ops S oi v a) (h : wpOpIn F n P ops Q j K (a.put oi.dst v) w) :
    wpOpIn F n P ops Q j (fun a' w' => YieldsIf P ops S oi v a' ∧ K (a'.put oi.dst v) w') a w := by
  obtain ⟨h1, h2, h3⟩ := Oper.apart_spec hap
  have keep : ∀ u, YieldsIf P ops S oi v (a.put oj.dst u) := fun u => hy.of_same (execOp_put oi hsi a oj.dst u h3) (wanted_put oi a oj.dst u h3)
  have go : ∀ {u : Value} {w' : World}, K ((a.put oi.dst v).put oj.dst u) w' → YieldsIf P ops S oi v (a.put oj.dst u) ∧ K ((a.put oj.dst u).put oi.dst v) w' :=
    fun {u _} hK => ⟨keep u, by rw [← Act.put_comm a v u h2]; exact hK⟩
  have nd := noDefer_spec hd hj
  unfold wpOpIn at *
  simp only [hj] at *
  rw [wanted_put oj a oi.dst v h1, about_put oj w a oi.dst v h1] at h
  by_cases hw : Region.wanted oj (yielded ops a.tmps) = true
  · simp only [hw, if_true] at h ⊢
    unfold Oper.wpIn at *
    rw [about_put oj w a oi.dst v h1] at h
    refine ⟨h.1, ?_⟩
    have h := h.2
    rw [Oper.semAt_eq F.round _ oj nd, execOp_put oj hsj a oi.dst v h1] at h
    rw [Oper.semAt_eq F.round _ oj nd]
    generalize (execOp a.eval oj).run P w = r at *
    cases r with
    | ok x w' =>
      cases x <;> simp only [Oper.uponIn] at h ⊢
      case value u => exact go h
      case skip => exact go h
      case defer d =>
        have kd : YieldsIf P ops S oi v { a with defers := d :: a.defers } := hy.of_same rfl rfl
        refine ⟨kd.of_same (execOp_put oi hsi _ oj.dst _ h3) (wanted_put oi _ oj.dst _ h3), ?_⟩
        rw [← Act.put_comm _ v undef h2, ← Act.put_defers]
        exact h
      case enter f args =>
        refine ⟨h.1, CallsIn.mono h.2 fun e w'' he => ?_⟩
        cases e with
        | returned u => exact go he
        | panicked c => exact hQ _ _ _ he
        | outgrown => exact he
      case row row args => exact ⟨h.1, RowsIn.mono h.2 fun u w'' he => go he⟩
      case round l f tmps assign body =>
        refine ⟨h.1, RoundIn.mono h.2 fun e w'' he => ?_⟩
        cases e with
        | returned u => exact go he
        | panicked c => exact hQ _ _ _ he
        | outgrown => exact he
    | halt x w' =>
      cases x <;> simp only [Oper.uponIn] at h ⊢
      case panic u => exact hQ _ _ _ h
  · simp only [hw] at h ⊢
    exact ⟨h.1, go h.2⟩

/-- Whatever order is picked from here on, and S holds behind every operation that is carried out. -/
def anyH (F : Fence) (n : Nat) (P : Program) (md : Region.Mode) (ops : Array Oper) (Q : Exit → Act → World → Prop) (S : World → Prop) : Nat → Array Bool → Act → World → Prop
  | 0, listed, a, w => Region.ready md ops listed = [] ∧ Q .normal a w
  | fuel + 1, listed, a, w =>
    (Region.ready md ops listed = [] → Q .normal a w) ∧
    ∀ i ∈ Region.ready md ops listed, wpOpIn F n P ops Q i (fun a' w' => S w' ∧ anyH F n P md ops Q S fuel (listed.setIfInBounds i true) a' w') a w

theorem any_of_held : ∀ (fuel : Nat) (listed : Array Bool) (a : Act) (w : World), anyH F n P md ops Q S fuel listed a w → wpAnyIn F n P md ops Q fuel listed a w
  | 0, _, _, _, h => h
  | fuel + 1, _, _, _, h => ⟨h.1, fun i hi => wpOpIn_mono (fun a' w' h' => any_of_held fuel _ a' w' h'.2) (h.2 i hi)⟩

theorem anyH_first (hF : Open F n P) (hd : noDefer ops = true) {i : Nat} {oi : Oper} {v : Value} (hi : ops[i]? = some oi) (hsel : ∀ (j : Nat) (o : Oper) cs b, ops[j]? = some o → o.op ≠ .select cs b)
    (hQ : ∀ c a w, Q (.panic c) (a.put oi.dst v) w → Q (.panic c) a w) :
    ∀ (fuel : Nat) (listed : Array Bool) (a : Act) (w : World),
      (∀ j oj, ops[j]? = some oj → j ≠ i → listed.getD j true = false → (∀ e ∈ oj.after, Region.binds md e = true → e.on ≠ i) → oi.apart ops oj = true) →
      i ∈ Region.ready md ops listed → YieldsIf P ops S oi v a → S w →
      anyH F n P md ops Q S fuel (listed.setIfInBounds i true) (a.put oi.dst v) w → anyH F n P md ops Q S (fuel + 1) listed a w := by
  intro fuel
  induction fuel with
  | zero =>
    intro listed a w _ hr hy hS H
    refine ⟨fun h => (by rw [h] at hr; cases hr), fun j hj => ?_⟩
    by_cases hji : j = i
    · subst hji; exact opIn_of_yields hF hd hi hy hS ⟨hS, H⟩
    · have := ready_mono hj hji
      rw [H.1] at this
      cases this
  | succ fuel ih =>
    intro listed a w hfree hr hy hS H
    refine ⟨fun h => (by rw [h] at hr; cases hr), fun j hj => ?_⟩
    by_cases hji : j = i
    · subst hji; exact opIn_of_yields hF hd hi hy hS ⟨hS, H⟩
    · have h1 := H.2 j (ready_mono hj hji)
      obtain ⟨hjun, oj, hoj, hall⟩ := mem_ready.1 hj
      have hnot : ∀ e ∈ oj.after, Region.binds md e = true → e.on ≠ i := fun e he hb heq => by
        have h1 := hall e he hb
        rw [heq, getD_both (mem_ready.1 hr).1] at h1
        cases h1
      have h2 := opIn_put hd hoj (hfree j oj hoj hji hjun hnot) (fun cs b => hsel i oi cs b hi) (fun cs b => hsel j oj cs b hoj) hQ hy h1
      have hfree' : ∀ k ok, ops[k]? = some ok → k ≠ i → (listed.setIfInBounds j true).getD k true = false →
          (∀ e ∈ ok.after, Region.binds md e = true → e.on ≠ i) → oi.apart ops ok = true := fun k ok hk hki hun hno => by
        refine hfree k ok hk hki ?_ hno
        by_cases hjk : j = k
        · subst hjk; exact hjun
        · rw [getD_set_ne true hjk] at hun; exact hun
      refine wpOpIn_mono (fun a' w' h3 => ⟨h3.2.1, ih (listed.setIfInBounds j true) a' w' hfree' (ready_mono hr (Ne.symm hji)) h3.1 h3.2.1 ?_⟩) h2
      rw [Array.setIfInBounds_comm _ _ hji]
      exact h3.2.2

/-- The text's order: the first N operations, each with one value in every world that meets S; what is left then comes in one order alone, and S holds behind each. -/
def wpHeld (P : Program) (ops : Array Oper) (S : World → Prop) (Lq : Act → Prop) : List Oper → Act → Prop
  | [], a => Lq a
  | o :: rest, a => ∃ v, YieldsIf P ops S o v a ∧ wpHeld P ops S Lq rest (a.put o.dst v)
def wpListH (F : Fence) (n : Nat) (P : Program) (ops : Array Oper) (Q : Exit → Act → World → Prop) (S : World → Prop) : List Oper → Act → World → Prop
  | [], a, w => Q .normal a w
  | o :: rest, a, w => if Region.wanted o (yielded ops a.tmps) then o.wpIn F n P a w (fun a' w' => S w' ∧ wpListH F n P ops Q S rest a' w') Q
    else (∀ f, o.about P w a.eval = some f → F.fn f) ∧ S w ∧ wpListH F n P ops Q S rest (a.put o.dst undef) w
theorem wpListH_step {o : Oper} {rest : List Oper} {a : Act} {w : World}
    (h : ∀ K : Act → World → Prop, (∀ a' w', S w' → wpListH F n P ops Q S rest a' w' → K a' w') → if Region.wanted o (yielded ops a.tmps) then o.wpIn F n P a w K Q else (∀ f, o.about P w a.eval = some f → F.fn f) ∧ K (a.put o.dst undef) w) :
    wpListH F n P ops Q S (o :: rest) a w := by
  have := h (fun a' w' => S w' ∧ wpListH F n P ops Q S rest a' w') (fun _ _ h1 h2 => ⟨h1, h2⟩)
  unfold wpListH
  exact this
theorem wpListH_nil {a : Act} {w : World} (h : Q .normal a w) : wpListH F n P ops Q S [] a w := h
theorem wpHeld_step {Lq : Act → Prop} {o : Oper} {rest : List Oper} {a : Act} (v : Value) (hw : Region.wanted o (yielded ops a.tmps) = true) (h : ∀ w, S w → (execOp a.eval o).run P w = .ok (.value v) w)
    (k : wpHeld P ops S Lq rest (a.put o.dst v)) : wpHeld P ops S Lq (o :: rest) a := ⟨v, .inl ⟨hw, h⟩, k⟩

theorem anyH_of_seq : ∀ (l : List Oper) (k : Nat) (listed : Array Bool) (a : Act) (w : World), (∀ j, l[j]? = ops[k + j]?) →
    Region.seqB md ops l.length k listed = true → wpListH F n P ops Q S l a w → anyH F n P md ops Q S l.length listed a w
  | [], _, _, _, _, _, hB, h => ⟨by simpa [Region.seqB] using hB, h⟩
  | o :: l, k, listed, a, w, hl, hB, h => by
    have h0 : ops[k]? = some o := by simpa using (hl 0).symm
    simp only [List.length_cons, Region.seqB, Bool.and_eq_true, decide_eq_true_eq] at hB
    refine ⟨fun h1 => (by rw [hB.1] at h1; cases h1), fun i hi => ?_⟩
    rw [hB.1] at hi
    have hik : i = k := by simpa using hi
    subst hik
    have hw : wpOpIn F n P ops Q i (fun a' w' => S w' ∧ wpListH F n P ops Q S l a' w') a w := by
      unfold wpOpIn
      simp only [h0]
      exact h
    exact wpOpIn_mono (fun a' w' h' => ⟨h'.1, anyH_of_seq l (i + 1) _ a' w' (fun j => by have := hl (j + 1); simpa [Nat.add_assoc, Nat.add_comm 1 j] using this) hB.2 h'.2⟩) hw

theorem anyH_lex (hF : Open F n P) (hd : noDefer ops = true) (hsel : Region.noSelect ops = true) (hQ : ∀ c (o : Option Tmp) v a w, Q (.panic c) (a.put o v) w → Q (.panic c) a w) {N : Nat} (tl : List Oper) (htl : ∀ j, tl[j]? = ops[N + j]?) {w : World} (hS : S w) :
    ∀ (l : List Oper) (k : Nat) (listed : Array Bool) (a : Act), (∀ j, j < l.length → l[j]? = ops[k + j]?) → k + l.length = N →
    Region.lexHead md ops tl.length l.length k listed = true → wpHeld P ops S (fun a' => wpListH F n P ops Q S tl a' w) l a →
    anyH F n P md ops Q S (l.length + tl.length) listed a w
  | [], k, listed, a, _, hk, hB, h => by
    have : k = N := by simpa using hk
    subst this
    rw [List.length_nil, Nat.zero_add]
    exact anyH_of_seq tl k listed a w htl (by simpa [Region.lexHead] using hB) h
  | o :: l, k, listed, a, hl, hk, hB, h => by
    have h0 : ops[k]? = some o := by simpa using (hl 0 (by simp)).symm
    simp only [List.length_cons, Region.lexHead, Bool.and_eq_true] at hB
    obtain ⟨⟨hr, hf⟩, hB'⟩ := hB
    obtain ⟨v, hy, hK⟩ := h
    rw [List.length_cons, show l.length + 1 + tl.length = (l.length + tl.length) + 1 by omega]
    exact anyH_first hF hd h0 (Region.noSelect_spec hsel) (fun c a w => hQ c o.dst v a w) _ listed a w (Region.free_spec h0 hf) (by simpa using hr) hy hS
      (anyH_lex hF hd hsel hQ tl htl hS l (k + 1) _ _ (fun j hj => by have := hl (j + 1) (by simp; omega); simpa [Nat.add_assoc, Nat.add_comm 1 j] using this) (by simp only [List.length_cons] at hk; omega) hB' hK)

def heldB (ops : Array Oper) (N : Nat) : Bool := Region.noSelect ops && decide (N ≤ ops.size) && Region.lexHead .any ops (ops.size - N) N 0 (Array.replicate ops.size false)

/-- The law. -/
theorem wpIn_region_held {id : Nat} {a : Act} {w : World} {l : List Oper} (N : Nat) (S : World → Prop) (hF : Open F n P) (hm : P.follows .mixedOrders = true) (hB : heldB l.toArray N = true) (hd : noDefer l.toArray = true)
    (hQ : ∀ c (o : Option Tmp) v a w, Q (.panic c) (a.put o v) w → Q (.panic c) a w) (hS : S w.drew)
    (h : wpHeld P l.toArray S (fun a' => wpListH F n P l.toArray Q S (l.drop N) a' w.drew) (l.take N) a) : (Code.region id l.toArray true).wpIn F n P Q a w := by
  simp only [heldB, Bool.and_eq_true, decide_eq_true_eq] at hB
  obtain ⟨⟨hsel, hn⟩, hlex⟩ := hB
  have hn' : N ≤ l.length := by simpa using hn
  have htl : (l.take N).length = N := by simp; omega
  have hdl : (l.drop N).length = l.toArray.size - N := by simp
  refine wpIn_region_any hm (any_of_held (S := S) _ _ _ _ ?_)
  have H := anyH_lex (md := .any) hF hd hsel hQ (N := N) (l.drop N) (fun j => by simp [List.getElem?_drop]) hS (l.take N) 0 (Array.replicate l.toArray.size false) a (fun j hj => by
    have hj' : j < N := by rw [htl] at hj; exact hj
    simp [hj']) (by simpa using htl) (by rw [htl, hdl]; exact hlex) h
  rw [htl, hdl, show N + (l.toArray.size - N) = l.toArray.size by simp; omega] at H
  exact H
end
end Lk
end Go.Proofs.YtodilljomjhohaaDoor

/- Contract of table.Back. -/
namespace Go.Proofs.YtodilljomjhohaaDoor
namespace TabC
open Go.RowKit Go.Shelf

attribute [local go_sem] Oper.semAt_some

def askK (xs ys : List Int) (y : Int) (k : Nat) : Int → Bool := askB (Tb.g xs k) (Tb.g xs (k + 1)) (Tb.g ys k) (Tb.g ys (k + 1)) y
theorem askK_eq (xs ys : List Int) (y : Int) (k : Nat) (i : Int) : askK xs ys y k i = decide (y ≤ Tb.seg xs ys k (Tb.g xs k + i)) := rfl
def BackPre (xs ys : List Int) (y : Int) (pre : List (Idx xs)) : Prop := ∀ k ∈ pre, Tb.g ys (k.1 + 1) < y
def BackLast (xs ys : List Int) (y : Int) (pre : List (Idx xs)) (v : Int) : Prop := ∃ ini last r, pre = ini ++ [last] ∧ BackPre xs ys y ini ∧ y ≤ Tb.g ys (last.1 + 1) ∧ Found (askK xs ys y last.1) (Tb.g xs (last.1 + 1) - Tb.g xs last.1) r ∧ v = Tb.g xs last.1 + r
theorem BackPre.snoc {xs ys : List Int} {y : Int} {pre : List (Idx xs)} (h : BackPre xs ys y pre) {k : Idx xs} (hk : Tb.g ys (k.1 + 1) < y) : BackPre xs ys y (pre ++ [k]) :=
  fun j hj => (List.mem_append.1 hj).elim (h j) (fun e => by rw [List.mem_singleton.1 e]; exact hk)
theorem bk_all {xs ys : List Int} {y : Int} (ok : Tb.Ok xs ys) (h0 : Tb.g ys 0 < y) (h : BackPre xs ys y (ups xs (xs.length - 1))) : Tb.bkO xs ys y = Tb.g xs (xs.length - 1) := by
  have h2 := ok.two
  refine Tb.bk_none ok (fun j hj => ?_)
  cases j with
  | zero => exact h0
  | succ j => exact h ⟨j, hj⟩ ((mem_ups (by omega)).2 (by simp; omega))
theorem bk_some {xs ys : List Int} {y v : Int} {k : Nat} (ok : Tb.Ok xs ys) (h0 : Tb.g ys 0 < y) (hk : k + 1 < xs.length) (h : BackLast xs ys y (ups xs (k + 1)) v) : Tb.bkO xs ys y = v := by
  obtain ⟨ini, last, r, e, h1, h2, ⟨f0, f1, f2, f3⟩, rfl⟩ := h
  rw [ups_succ hk] at e
  obtain ⟨rfl, e2⟩ := List.append_inj' e rfl
  obtain rfl : (⟨k, hk⟩ : Idx xs) = last := by simpa using e2
  have hu := ok.up k hk
  have hy : ∀ j, j ≤ k → Tb.g ys j < y := fun j hj => by
    cases j with
    | zero => exact h0
    | succ j => exact h1 ⟨j, by omega⟩ ((mem_ups (by omega)).2 hj)
  simp only [askK_eq] at f1 f2 f3
  have r0 : 0 < r := by
    rcases Int.lt_or_le 0 r with c | c
    · exact c
    · obtain rfl : r = 0 := by omega
      have := f3 (by omega)
      rw [Int.add_zero, Tb.seg_lo] at this
      have := of_decide_eq_true this
      have := hy k (Nat.le_refl _)
      omega
  have a1 := of_decide_eq_false (f2 r0)
  refine Tb.bk_seg ok hk hy h2 (by simp; omega) (by simp; omega) (by rw [show Tb.g xs k + r - 1 = Tb.g xs k + (r - 1) from by omega]; omega) ?_
  rcases Int.lt_or_le r (Tb.g xs (k + 1) - Tb.g xs k) with c | c
  · exact of_decide_eq_true (f3 c)
  · obtain rfl : r = Tb.g xs (k + 1) - Tb.g xs k := by omega
    rw [show Tb.g xs k + (Tb.g xs (k + 1) - Tb.g xs k) = Tb.g xs (k + 1) from by omega, Tb.seg_hi ok hk]
    exact h2

end TabC
end Go.Proofs.YtodilljomjhohaaDoor

/- The small functions of package synth: its methods, at, back, within. -/
namespace Go.Proofs.YtodilljomjhohaaDoor
namespace Ew
open Go.RowKit TabC Lk

/-- An engine's block (type 27). -/
theorem one_e (w : World) (e : Eg) : Hv w (w.alloc (eo e)) [(w.heap.size, eo e)] := (Hv.nil w).made (eo e)

abbrev tob (t : Tv) : Obj := .cells (tc t) 25 (0, 0)
theorem info_t : (Tryd.prog.info? 25).map (·.size) = some 2 := by kernel_rfl
/-- A result that is a table, in a cell. -/
theorem res_t {fn : Func} {p : Tmp} (h : fn.results = #[.cell p 25]) (tmps : Array Value) (w : World) (g : Nat) (t : Tv) (hp : tmps.getD p undef = .pointer (some ⟨g, 0, none⟩)) (hP : w.heap[g]? = some (tob t)) :
    (results fn tmps).run Tryd.prog w = .ok (.agg (tc t)) w := by
  have hp' : tmps[p]?.getD undef = .pointer (some ⟨g, 0, none⟩) := by simpa using hp
  simp [results, h, hp', asAddr, run_loadVar_row (P := Tryd.prog) w g 25 25 (tc t) (0, 0) _ hP Tryd.underlying25 rfl info_t]

/-- And that of the program's own engine (type 75). -/
theorem one_s (w : World) (e : Eg) : Hv w (w.alloc (so e)) [(w.heap.size, so e)] := (Hv.nil w).made (so e)
theorem two_s (w : World) (e : Eg) (t : Tv) : Hv w ((w.alloc (so e)).alloc (tob t)) [(w.heap.size + 1, tob t), (w.heap.size, so e)] := by
  have := (one_s w e).made (tob t)
  rwa [World.size_alloc] at this

theorem m_fuel (e : Eg) (w : World) : Calls Tryd.prog 51 #[.agg (ec e)] w fun r w' => r = .returned (.agg (tc e.f)) ∧ Below w.heap.size w w' := by
  have HV := Lib.hid (one_s w e)
  have HW : Hid (Hv w ((w.alloc (so e)).alloc (tob e.f)) [(w.heap.size + 1, tob e.f), (w.heap.size, so e)]) := (two_s w e e.f)
  have c0 := Joins.cell_of_block HV.out.head 0
  have c1 := Joins.cell_of_block HV.out.head 1
  simp only [List.getElem?_toArray, List.getElem?_cons_zero, List.getElem?_cons_succ] at c0 c1
  go_enter Tryd.func51, Tryd.ntmps51
  go_wp2
  refine bodyPost_ret (res_t rfl _ _ _ _ rfl HW.out.head) rfl ?_
  exact ⟨rfl, HW.out.old⟩
theorem m_n2 (e : Eg) (w : World) : Calls Tryd.prog 52 #[.agg (ec e)] w fun r w' => r = .returned (.agg (tc e.p)) ∧ Below w.heap.size w w' := by
  have HV := Lib.hid (one_s w e)
  have HW : Hid (Hv w ((w.alloc (so e)).alloc (tob e.p)) [(w.heap.size + 1, tob e.p), (w.heap.size, so e)]) := (two_s w e e.p)
  have c0 := Joins.cell_of_block HV.out.head 2
  have c1 := Joins.cell_of_block HV.out.head 3
  simp only [List.getElem?_toArray, List.getElem?_cons_zero, List.getElem?_cons_succ] at c0 c1
  go_enter Tryd.func52, Tryd.ntmps52
  go_wp2
  refine bodyPost_ret (res_t rfl _ _ _ _ rfl HW.out.head) rfl ?_
  exact ⟨rfl, HW.out.old⟩
theorem m_n1 (e : Eg) (w : World) : Calls Tryd.prog 53 #[.agg (ec e)] w fun r w' => r = .returned (.agg (tc e.q)) ∧ Below w.heap.size w w' := by
  have HV := Lib.hid (one_s w e)
  have HW : Hid (Hv w ((w.alloc (so e)).alloc (tob e.q)) [(w.heap.size + 1, tob e.q), (w.heap.size, so e)]) := (two_s w e e.q)
  have c0 := Joins.cell_of_block HV.out.head 4
  have c1 := Joins.cell_of_block HV.out.head 5
  simp only [List.getElem?_toArray, List.getElem?_cons_zero, List.getElem?_cons_succ] at c0 c1
  go_enter Tryd.func53, Tryd.ntmps53
  go_wp2
  refine bodyPost_ret (res_t rfl _ _ _ _ rfl HW.out.head) rfl ?_
  exact ⟨rfl, HW.out.old⟩
theorem m_heat (e : Eg) (w : World) : Calls Tryd.prog 54 #[.agg (ec e)] w fun r w' => r = .returned (.agg (tc e.h)) ∧ Below w.heap.size w w' := by
  have HV := Lib.hid (one_s w e)
  have HW : Hid (Hv w ((w.alloc (so e)).alloc (tob e.h)) [(w.heap.size + 1, tob e.h), (w.heap.size, so e)]) := (two_s w e e.h)
  have c0 := Joins.cell_of_block HV.out.head 6
  have c1 := Joins.cell_of_block HV.out.head 7
  simp only [List.getElem?_toArray, List.getElem?_cons_zero, List.getElem?_cons_succ] at c0 c1
  go_enter Tryd.func54, Tryd.ntmps54
  go_wp2
  refine bodyPost_ret (res_t rfl _ _ _ _ rfl HW.out.head) rfl ?_
  exact ⟨rfl, HW.out.old⟩

def InTo (lo hi : Int) (l : List Int) (k : Nat) : Prop := ∀ j, j < k → Em.within (Tb.g l j) lo hi = true
theorem in_all {lo hi : Int} {l : List Int} (h : InTo lo hi l l.length) : (l.all fun n => Em.within n lo hi) = true :=
  List.all_eq_true.2 fun n hn => by obtain ⟨k, hk, rfl⟩ := Tb.mem_g hn; exact h k hk
theorem in_no {lo hi : Int} {l : List Int} {k : Nat} (hk : k < l.length) (h : Em.within (Tb.g l k) lo hi = false) : (l.all fun n => Em.within n lo hi) = false :=
  List.all_eq_false.2 ⟨_, Tb.g_mem hk, by simp [h]⟩
theorem within_c (lo hi : Int) (A : Option Addr) (c : Nat) (l : List Int) (w : World) (hl : l.length ≤ 9223372036854775807) (hA : Lk.IntsAt w .i64 A l) :
    Calls Tryd.prog 55 #[.int .i64 lo, .int .i64 hi, .slice A l.length c] w fun r w' => r = .returned (.bool (l.all fun n => Em.within n lo hi)) ∧ w = w' := by
  have HA := Lib.hid hA
  clear hA
  go_enter Tryd.func55, Tryd.ntmps55
  go_wp2_with fail
  go_loop [11] (fun i => ∃ k : Nat, k ≤ l.length ∧ i = .int .i64 k ∧ InTo lo hi l k) (fun i => l.length - (intOf i).toNat)
  case atStart => exact ⟨0, Nat.zero_le _, rfl, fun j hj => by omega⟩
  case round =>
    obtain ⟨k, hk, rfl, hin⟩ := hrel
    have HN := Lib.hid hin
    clear hin
    by_cases hlt : k < l.length
    · obtain ⟨b, off, rfl, hc⟩ := cellG HA.out hlt
      have HG := Lib.hid (fun h => in_no (lo := lo) (hi := hi) hlt h)
      have HP : Hid (Em.within (Tb.g l k) lo hi = true → InTo lo hi l (k + 1)) := fun h j hj => by
        by_cases e : j = k
        · rw [e]; exact h
        · exact HN.out j (by omega)
      generalize Tb.g l k = v at hc HG HP
      by_cases h1 : v < lo
      · have EF : Hid (Em.within v lo hi = false) := by show _ = _; simp [Em.within]; omega
        go_wp2_with fail
        go_ret
        exact ⟨ret_bool (HG.out EF.out).symm, rfl⟩
      · by_cases h2 : hi < v
        · have EF : Hid (Em.within v lo hi = false) := by show _ = _; simp [Em.within]; omega
          have d1 : decide (v < lo) = false := by simp; omega
          have d2 : decide (hi < v) = true := by simp; omega
          go_wp2_with fail
          go_ret
          exact ⟨ret_bool (HG.out EF.out).symm, rfl⟩
        · have EF : Hid (Em.within v lo hi = true) := by show _ = _; simp [Em.within]; omega
          have d1 : decide (v < lo) = false := by simp; omega
          have d2 : decide (hi < v) = false := by simp; omega
          go_wp2_with fail
          go_round
          case rel => exact ⟨k + 1, by omega, by go_num, HP.out EF.out⟩
          case measure => simp [intOf]; omega
    · go_wp2_with fail
      go_ret
      exact ⟨ret_bool (in_all (by rw [show l.length = k from by omega]; exact HN.out)).symm, rfl⟩

end Ew
end Go.Proofs.YtodilljomjhohaaDoor

/- synth.rising, of the four tables of an engine. -/
namespace Go.Proofs.YtodilljomjhohaaDoor
namespace Ew
open Go.RowKit TabC Lk

def tabB (e : Eg) : Nat → Bool
  | 0 => Tb.rsB e.f.xs e.f.ys
  | 1 => Tb.rsB e.p.xs e.p.ys
  | 2 => Tb.rsB e.q.xs e.q.ys
  | _ => Tb.rsB e.h.xs e.h.ys
def RiseTo (e : Eg) (k : Nat) : Prop := ∀ j, j < k → tabB e j = true
theorem RiseTo.next {e : Eg} {k : Nat} (h : RiseTo e k) (hk : tabB e k = true) : RiseTo e (k + 1) := fun j hj => by
  by_cases c : j = k
  · rw [c]; exact hk
  · exact h j (by omega)
theorem tabs_yes {e : Eg} (h : RiseTo e 4) : Em.tabs (en e) = true := by
  have h0 := h 0 (by decide)
  have h1 := h 1 (by decide)
  have h2 := h 2 (by decide)
  have h3 := h 3 (by decide)
  simp only [tabB] at h0 h1 h2 h3
  simp [Em.tabs, en, h0, h1, h2, h3]
theorem tabs_no {e : Eg} {k : Nat} (hk : k < 4) (h : tabB e k = false) : Em.tabs (en e) = false := by
  obtain rfl | rfl | rfl | rfl : k = 0 ∨ k = 1 ∨ k = 2 ∨ k = 3 := by omega
  all_goals simp only [tabB] at h; simp [Em.tabs, en, h]
/-- The four parts, in a block. -/
abbrev pa : Array Value := #[.func (.func 51) #[] #[], .func (.func 52) #[] #[], .func (.func 53) #[] #[], .func (.func 54) #[] #[]]
abbrev po : Obj := .cells pa 83 (0, 0)
theorem two_p (w : World) (g : Nat) (e : Eg) (hP : w.heap[g]? = some po) : Hv w (w.alloc (eo e)) [(w.heap.size, eo e), (g, po)] := ((Hv.nil w).add (g, po) hP).made (eo e)

set_option maxRecDepth 100000 in
set_option maxHeartbeats 4000000 in
theorem rising_all (e : Eg) (g : Nat) (w : World) (hE : EngIn w e) (hP : w.heap[g]? = some po) : Calls Tryd.prog 50 #[.agg (ec e), .slice (some ⟨g, 0, none⟩) 4 4] w fun r w' => r = .returned (.bool (Em.tabs (en e))) ∧ Below w.heap.size w w' := by
  have HV := Lib.hid (two_p w g e hP)
  have HE := Lib.hid hE
  clear hE hP
  go_enter Tryd.func50, Tryd.ntmps50
  go_wp2_with fail
  go_loopw [9] (fun i wr => ∃ k : Nat, k ≤ 4 ∧ i = .int .i64 k ∧ RiseTo e k ∧ Hv w wr [(w.heap.size, eo e), (g, po)]) (fun i _ => 4 - (intOf i).toNat)
  case atStart => exact ⟨0, by decide, rfl, (fun j hj => by omega), HV.out⟩
  case round =>
    clear HV
    obtain ⟨k, hk, rfl, hr, hv⟩ := hrel
    have HV := Lib.hid hv
    have HR := Lib.hid hr
    clear hv hr
    obtain rfl | rfl | rfl | rfl | rfl : k = 0 ∨ k = 1 ∨ k = 2 ∨ k = 3 ∨ k = 4 := by omega
    · have c0 := Joins.cell_of_block HV.out.h2 0
      simp only [List.getElem?_toArray, List.getElem?_cons_zero] at c0
      have EB : Hid (tabB e 0 = Tb.rsB e.f.xs e.f.ys) := rfl
      generalize Tb.rsB e.f.xs e.f.ys = bb at EB
      have CR : Hid (∀ W, TabIn W e.f.A e.f.B e.f.xs e.f.ys → Calls Tryd.prog 58 #[.agg #[.slice e.f.A e.f.xs.length e.f.ca, .slice e.f.B e.f.ys.length e.f.cb]] W fun r w' => r = .returned (.bool bb) ∧ Below W.heap.size W w') := fun W h => by
        have := rising_c e.f.A e.f.B e.f.ca e.f.cb e.f.xs e.f.ys W h
        rwa [show Tb.rsB e.f.xs e.f.ys = bb from EB.out] at this
      cases bb
      · go_wp2_with (first | (refine lde rfl _ rfl _ _ rfl HV.out.head ?_) | (go_at_call 51; (with_reducible refine (m_fuel e _).mono ?_); rintro r W ⟨rfl, hb⟩; replace HV := Lib.hid (HV.out.grow hb); clear hb c0) | (go_at_call 58; (with_reducible refine (CR.out _ (HE.out.f.below HV.out.old)).mono ?_); rintro r W ⟨rfl, hb⟩; replace HV := Lib.hid (HV.out.grow hb); clear hb) | fail)
        go_ret
        exact ⟨ret_bool (tabs_no (by decide) EB.out).symm, HV.out.old⟩
      · go_wp2_with (first | (refine lde rfl _ rfl _ _ rfl HV.out.head ?_) | (go_at_call 51; (with_reducible refine (m_fuel e _).mono ?_); rintro r W ⟨rfl, hb⟩; replace HV := Lib.hid (HV.out.grow hb); clear hb c0) | (go_at_call 58; (with_reducible refine (CR.out _ (HE.out.f.below HV.out.old)).mono ?_); rintro r W ⟨rfl, hb⟩; replace HV := Lib.hid (HV.out.grow hb); clear hb) | fail)
        go_roundw
        case rel => exact ⟨1, by omega, by go_num, HR.out.next EB.out, HV.out⟩
        case measure => simp [intOf]
    · have c0 := Joins.cell_of_block HV.out.h2 1
      simp only [List.getElem?_toArray, List.getElem?_cons_zero, List.getElem?_cons_succ] at c0
      have EB : Hid (tabB e 1 = Tb.rsB e.p.xs e.p.ys) := rfl
      generalize Tb.rsB e.p.xs e.p.ys = bb at EB
      have CR : Hid (∀ W, TabIn W e.p.A e.p.B e.p.xs e.p.ys → Calls Tryd.prog 58 #[.agg #[.slice e.p.A e.p.xs.length e.p.ca, .slice e.p.B e.p.ys.length e.p.cb]] W fun r w' => r = .returned (.bool bb) ∧ Below W.heap.size W w') := fun W h => by
        have := rising_c e.p.A e.p.B e.p.ca e.p.cb e.p.xs e.p.ys W h
        rwa [show Tb.rsB e.p.xs e.p.ys = bb from EB.out] at this
      cases bb
      · go_wp2_with (first | (refine lde rfl _ rfl _ _ rfl HV.out.head ?_) | (go_at_call 52; (with_reducible refine (m_n2 e _).mono ?_); rintro r W ⟨rfl, hb⟩; replace HV := Lib.hid (HV.out.grow hb); clear hb c0) | (go_at_call 58; (with_reducible refine (CR.out _ (HE.out.p.below HV.out.old)).mono ?_); rintro r W ⟨rfl, hb⟩; replace HV := Lib.hid (HV.out.grow hb); clear hb) | fail)
        go_ret
        exact ⟨ret_bool (tabs_no (by decide) EB.out).symm, HV.out.old⟩
      · go_wp2_with (first | (refine lde rfl _ rfl _ _ rfl HV.out.head ?_) | (go_at_call 52; (with_reducible refine (m_n2 e _).mono ?_); rintro r W ⟨rfl, hb⟩; replace HV := Lib.hid (HV.out.grow hb); clear hb c0) | (go_at_call 58; (with_reducible refine (CR.out _ (HE.out.p.below HV.out.old)).mono ?_); rintro r W ⟨rfl, hb⟩; replace HV := Lib.hid (HV.out.grow hb); clear hb) | fail)
        go_roundw
        case rel => exact ⟨2, by omega, by go_num, HR.out.next EB.out, HV.out⟩
        case measure => simp [intOf]
    · have c0 := Joins.cell_of_block HV.out.h2 2
      simp only [List.getElem?_toArray, List.getElem?_cons_zero, List.getElem?_cons_succ] at c0
      have EB : Hid (tabB e 2 = Tb.rsB e.q.xs e.q.ys) := rfl
      generalize Tb.rsB e.q.xs e.q.ys = bb at EB
      have CR : Hid (∀ W, TabIn W e.q.A e.q.B e.q.xs e.q.ys → Calls Tryd.prog 58 #[.agg #[.slice e.q.A e.q.xs.length e.q.ca, .slice e.q.B e.q.ys.length e.q.cb]] W fun r w' => r = .returned (.bool bb) ∧ Below W.heap.size W w') := fun W h => by
        have := rising_c e.q.A e.q.B e.q.ca e.q.cb e.q.xs e.q.ys W h
        rwa [show Tb.rsB e.q.xs e.q.ys = bb from EB.out] at this
      cases bb
      · go_wp2_with (first | (refine lde rfl _ rfl _ _ rfl HV.out.head ?_) | (go_at_call 53; (with_reducible refine (m_n1 e _).mono ?_); rintro r W ⟨rfl, hb⟩; replace HV := Lib.hid (HV.out.grow hb); clear hb c0) | (go_at_call 58; (with_reducible refine (CR.out _ (HE.out.q.below HV.out.old)).mono ?_); rintro r W ⟨rfl, hb⟩; replace HV := Lib.hid (HV.out.grow hb); clear hb) | fail)
        go_ret
        exact ⟨ret_bool (tabs_no (by decide) EB.out).symm, HV.out.old⟩
      · go_wp2_with (first | (refine lde rfl _ rfl _ _ rfl HV.out.head ?_) | (go_at_call 53; (with_reducible refine (m_n1 e _).mono ?_); rintro r W ⟨rfl, hb⟩; replace HV := Lib.hid (HV.out.grow hb); clear hb c0) | (go_at_call 58; (with_reducible refine (CR.out _ (HE.out.q.below HV.out.old)).mono ?_); rintro r W ⟨rfl, hb⟩; replace HV := Lib.hid (HV.out.grow hb); clear hb) | fail)
        go_roundw
        case rel => exact ⟨3, by omega, by go_num, HR.out.next EB.out, HV.out⟩
        case measure => simp [intOf]
    · have c0 := Joins.cell_of_block HV.out.h2 3
      simp only [List.getElem?_toArray, List.getElem?_cons_zero, List.getElem?_cons_succ] at c0
      have EB : Hid (tabB e 3 = Tb.rsB e.h.xs e.h.ys) := rfl
      generalize Tb.rsB e.h.xs e.h.ys = bb at EB
      have CR : Hid (∀ W, TabIn W e.h.A e.h.B e.h.xs e.h.ys → Calls Tryd.prog 58 #[.agg #[.slice e.h.A e.h.xs.length e.h.ca, .slice e.h.B e.h.ys.length e.h.cb]] W fun r w' => r = .returned (.bool bb) ∧ Below W.heap.size W w') := fun W h => by
        have := rising_c e.h.A e.h.B e.h.ca e.h.cb e.h.xs e.h.ys W h
        rwa [show Tb.rsB e.h.xs e.h.ys = bb from EB.out] at this
      cases bb
      · go_wp2_with (first | (refine lde rfl _ rfl _ _ rfl HV.out.head ?_) | (go_at_call 54; (with_reducible refine (m_heat e _).mono ?_); rintro r W ⟨rfl, hb⟩; replace HV := Lib.hid (HV.out.grow hb); clear hb c0) | (go_at_call 58; (with_reducible refine (CR.out _ (HE.out.h.below HV.out.old)).mono ?_); rintro r W ⟨rfl, hb⟩; replace HV := Lib.hid (HV.out.grow hb); clear hb) | fail)
        go_ret
        exact ⟨ret_bool (tabs_no (by decide) EB.out).symm, HV.out.old⟩
      · go_wp2_with (first | (refine lde rfl _ rfl _ _ rfl HV.out.head ?_) | (go_at_call 54; (with_reducible refine (m_heat e _).mono ?_); rintro r W ⟨rfl, hb⟩; replace HV := Lib.hid (HV.out.grow hb); clear hb c0) | (go_at_call 58; (with_reducible refine (CR.out _ (HE.out.h.below HV.out.old)).mono ?_); rintro r W ⟨rfl, hb⟩; replace HV := Lib.hid (HV.out.grow hb); clear hb) | fail)
        go_roundw
        case rel => exact ⟨4, by omega, by go_num, HR.out.next EB.out, HV.out⟩
        case measure => simp [intOf]
    · go_wp2_with fail
      go_ret
      exact ⟨ret_bool (tabs_yes HR.out).symm, HV.out.old⟩

end Ew
end Go.Proofs.YtodilljomjhohaaDoor

/- An engine's cells, in its block; slices of integers that a call makes. -/
namespace Go.Proofs.YtodilljomjhohaaDoor
namespace Ew
open Go.RowKit TabC Lk

/-- The cells of an engine's block (type 27). -/
abbrev EFld (V : World) (b : Nat) (e : Eg) : Prop :=
  V.cell? ⟨b, 0, none⟩ = some (.slice e.f.A e.f.xs.length e.f.ca) ∧ V.cell? ⟨b, 1, none⟩ = some (.slice e.f.B e.f.ys.length e.f.cb) ∧ V.cell? ⟨b, 2, none⟩ = some (.slice e.p.A e.p.xs.length e.p.ca) ∧ V.cell? ⟨b, 3, none⟩ = some (.slice e.p.B e.p.ys.length e.p.cb) ∧
  V.cell? ⟨b, 4, none⟩ = some (.slice e.q.A e.q.xs.length e.q.ca) ∧ V.cell? ⟨b, 5, none⟩ = some (.slice e.q.B e.q.ys.length e.q.cb) ∧ V.cell? ⟨b, 6, none⟩ = some (.slice e.h.A e.h.xs.length e.h.ca) ∧ V.cell? ⟨b, 7, none⟩ = some (.slice e.h.B e.h.ys.length e.h.cb) ∧
  V.cell? ⟨b, 8, none⟩ = some (.int .i64 e.lag2) ∧ V.cell? ⟨b, 9, none⟩ = some (.int .i64 e.lag1) ∧ V.cell? ⟨b, 10, none⟩ = some (.int .i64 e.lagE) ∧ V.cell? ⟨b, 11, none⟩ = some (.int .i64 e.slew) ∧
  V.cell? ⟨b, 12, none⟩ = some (.int .i64 e.starter) ∧ V.cell? ⟨b, 13, none⟩ = some (.int .i64 e.light) ∧ V.cell? ⟨b, 14, none⟩ = some (.int .i64 e.lean) ∧ V.cell? ⟨b, 15, none⟩ = some (.int .i64 e.disturb)
theorem efld {V : World} {b : Nat} {e : Eg} (h : V.heap[b]? = some (eo e)) : EFld V b e :=
  ⟨Joins.cell_of_block h 0, Joins.cell_of_block h 1, Joins.cell_of_block h 2, Joins.cell_of_block h 3, Joins.cell_of_block h 4, Joins.cell_of_block h 5, Joins.cell_of_block h 6, Joins.cell_of_block h 7,
   Joins.cell_of_block h 8, Joins.cell_of_block h 9, Joins.cell_of_block h 10, Joins.cell_of_block h 11, Joins.cell_of_block h 12, Joins.cell_of_block h 13, Joins.cell_of_block h 14, Joins.cell_of_block h 15⟩

/-- A row of integers of the call's own. -/
abbrev ro (l : List Int) : Obj := .cells (l.map (fun v => Value.int .i64 v)).toArray 3 (0, 0)
theorem ints_row {W : World} {n : Nat} {l : List Int} (h : W.heap[n]? = some (ro l)) : Lk.IntsAt W .i64 (some ⟨n, 0, none⟩) l := by
  intro i hi
  refine ⟨n, 0, rfl, ?_⟩
  have := Joins.cell_of_block h i
  rw [show (0 : Nat) + i = i from by omega, this]
  simp [hi]

theorem within1 (lo hi a : Int) (g : Nat) (W : World) (h : W.heap[g]? = some (ro [a])) : Calls Tryd.prog 55 #[.int .i64 lo, .int .i64 hi, .slice (some ⟨g, 0, none⟩) 1 1] W fun r w' => r = .returned (.bool (Em.within a lo hi)) ∧ W = w' := by
  have := within_c lo hi (some ⟨g, 0, none⟩) 1 [a] W (by simp) (ints_row h)
  simpa using this
theorem within2 (lo hi a b : Int) (g : Nat) (W : World) (h : W.heap[g]? = some (ro [a, b])) : Calls Tryd.prog 55 #[.int .i64 lo, .int .i64 hi, .slice (some ⟨g, 0, none⟩) 2 2] W fun r w' => r = .returned (.bool (Em.within a lo hi && Em.within b lo hi)) ∧ W = w' := by
  have := within_c lo hi (some ⟨g, 0, none⟩) 2 [a, b] W (by simp) (ints_row h)
  simpa using this
theorem within3 (lo hi a b c : Int) (g : Nat) (W : World) (h : W.heap[g]? = some (ro [a, b, c])) : Calls Tryd.prog 55 #[.int .i64 lo, .int .i64 hi, .slice (some ⟨g, 0, none⟩) 3 3] W fun r w' => r = .returned (.bool (Em.within a lo hi && Em.within b lo hi && Em.within c lo hi)) ∧ W = w' := by
  have := within_c lo hi (some ⟨g, 0, none⟩) 3 [a, b, c] W (by simp) (ints_row h)
  simpa [Bool.and_assoc] using this

theorem fw_v {t : Tv} {b : Bool} (h : fewB t.xs t.ys = b) (W : World) : Calls Tryd.prog 21 #[.agg #[.slice t.A t.xs.length t.ca, .slice t.B t.ys.length t.cb]] W fun r w' => r = .returned (.bool b) ∧ Below W.heap.size W w' := h ▸ few_c t.A t.B t.ca t.cb t.xs t.ys W

end Ew
end Go.Proofs.YtodilljomjhohaaDoor

/- Plain arithmetic of fixed numbers: what the functions of package fix, and the document's answers beside them, come to. No program is named here. -/
namespace Fx

def sat (x : Int) : Int := if x < -2147483648 then -2147483648 else if 2147483647 < x then 2147483647 else x
def bound (x lo hi : Int) : Int := if hi < lo then lo else if x < lo then lo else if hi < x then hi else x
def add (a b : Int) : Int := sat (sat a + sat b)
def sub (a b : Int) : Int := sat (sat a - sat b)
def mul (a b s : Int) : Int := sat ((sat a * sat b) / 2 ^ (bound s 0 62).toNat)
def divq (a b : Int) : Int := if sat b = 0 then 0 else sat ((sat a).tdiv (sat b))
def dive (b : Int) : Int := if sat b = 0 then 10 else 0
def clamp (x lo hi : Int) : Int := bound (sat x) (sat lo) (sat hi)
def slew (x y n : Int) : Int :=
  if bound n 0 2147483647 < sat y - sat x then add (sat x) (bound n 0 2147483647)
  else if sat y - sat x < -(bound n 0 2147483647) then sub (sat x) (bound n 0 2147483647) else sat y

def sum (l : List Int) : Int := l.foldl add 0

theorem sum_take (l : List Int) (k : Nat) (h : k < l.length) : sum (l.take (k + 1)) = add (sum (l.take k)) (l.getD k 0) := by
  unfold sum
  rw [List.take_succ_eq_append_getElem h, List.foldl_append]
  simp [List.getD_eq_getElem?_getD, h]
theorem sat_ge (x : Int) : -2147483648 ≤ sat x := by unfold sat; (repeat' split) <;> omega
theorem sat_le (x : Int) : sat x ≤ 2147483647 := by unfold sat; (repeat' split) <;> omega
theorem sat_id (x : Int) (h1 : -2147483648 ≤ x) (h2 : x ≤ 2147483647) : sat x = x := by unfold sat; (repeat' split) <;> omega
theorem sat_sat (x : Int) : sat (sat x) = sat x := sat_id _ (sat_ge x) (sat_le x)
theorem bound_sat (x : Int) : bound x (-2147483648) 2147483647 = sat x := by unfold bound sat; (repeat' split) <;> omega
theorem bound_ge (x lo hi : Int) : lo ≤ bound x lo hi := by unfold bound; (repeat' split) <;> omega
theorem bound_le (x lo hi : Int) (h : lo ≤ hi) : bound x lo hi ≤ hi := by unfold bound; (repeat' split) <;> omega

theorem mul_abs_le {a b A B : Int} (h1 : -A ≤ a) (h2 : a ≤ A) (h3 : -B ≤ b) (h4 : b ≤ B) : -(A * B) ≤ a * b ∧ a * b ≤ A * B := by
  have hA : 0 ≤ A := by omega
  have p1 : 0 ≤ (A - a) * (B - b) := Int.mul_nonneg (by omega) (by omega)
  have p2 : 0 ≤ (A + a) * (B + b) := Int.mul_nonneg (by omega) (by omega)
  have p3 : 0 ≤ (A - a) * (B + b) := Int.mul_nonneg (by omega) (by omega)
  have p4 : 0 ≤ (A + a) * (B - b) := Int.mul_nonneg (by omega) (by omega)
  simp only [Int.sub_mul, Int.add_mul, Int.mul_sub, Int.mul_add] at p1 p2 p3 p4
  constructor <;> omega

theorem prod_bd (a b : Int) : -4611686018427387904 ≤ sat a * sat b ∧ sat a * sat b ≤ 4611686018427387904 := by
  have h := mul_abs_le (A := 2147483648) (B := 2147483648) (sat_ge a) (by have := sat_le a; omega) (sat_ge b) (by have := sat_le b; omega)
  omega

theorem tdiv_bd (a b : Int) (ha : -2147483648 ≤ a) (hb : a ≤ 2147483648) : -2147483648 ≤ a.tdiv b ∧ a.tdiv b ≤ 2147483648 := by
  have h := Int.natAbs_tdiv_le_natAbs a b
  omega

theorem sat_in (x : Int) : -2147483648 ≤ sat x ∧ sat x ≤ 2147483647 := ⟨sat_ge x, sat_le x⟩
theorem divq_in (a b : Int) : -2147483648 ≤ divq a b ∧ divq a b ≤ 2147483647 := by
  unfold divq
  split
  · omega
  · exact sat_in _
theorem bound_in (x lo hi : Int) (h1 : -2147483648 ≤ x ∧ x ≤ 2147483647) (h2 : -2147483648 ≤ lo ∧ lo ≤ 2147483647) (h3 : -2147483648 ≤ hi ∧ hi ≤ 2147483647) :
    -2147483648 ≤ bound x lo hi ∧ bound x lo hi ≤ 2147483647 := by unfold bound; (repeat' split) <;> omega
theorem clamp_in (x lo hi : Int) : -2147483648 ≤ clamp x lo hi ∧ clamp x lo hi ≤ 2147483647 := bound_in _ _ _ (sat_in _) (sat_in _) (sat_in _)
theorem slew_in (x y n : Int) : -2147483648 ≤ slew x y n ∧ slew x y n ≤ 2147483647 := by
  unfold slew
  (repeat' split) <;> exact sat_in _
theorem sat_zero (x : Int) : sat x = 0 ↔ x = 0 := by unfold sat; (repeat' split) <;> omega
theorem slew_ref (x y n : Int) : slew x y n = (if (if sat n < 0 then 0 else sat n) < sat y - sat x then add x (if sat n < 0 then 0 else sat n)
    else if (if sat n < 0 then 0 else sat n) < -(sat y - sat x) then sub x (if sat n < 0 then 0 else sat n) else sat y) := by
  have e : bound n 0 2147483647 = if sat n < 0 then 0 else sat n := by unfold bound sat; (repeat' split) <;> omega
  unfold slew add sub
  rw [e]
  simp only [sat_sat]
  (repeat' split) <;> first | rfl | omega

/-- Halving, the greatest not above, as the document's answer does it. -/
theorem half_odd (p : Int) (h : p.tmod 2 ≠ 0) : (p - 1).tdiv 2 = p / 2 := by
  rw [Int.tmod_eq_emod] at h
  rw [Int.tdiv_eq_ediv]
  have hs : Int.sign 2 = 1 := rfl
  rw [hs]
  split <;> split at h <;> omega
theorem half_even (p : Int) (h : p.tmod 2 = 0) : p.tdiv 2 = p / 2 := by
  rw [Int.tmod_eq_emod] at h
  rw [Int.tdiv_eq_ediv]
  have hs : Int.sign 2 = 1 := rfl
  rw [hs]
  split at h <;> split <;> omega
theorem pow_half (P : Int) (k : Nat) : P / 2 ^ (k + 1) = P / 2 ^ k / 2 := by
  rw [Int.pow_succ, Int.ediv_ediv_of_nonneg (Int.pow_nonneg (by decide))]
theorem pow_bd (P : Int) (k : Nat) (B : Int) (h1 : -B ≤ P) (h2 : P ≤ B) : -B ≤ P / 2 ^ k ∧ P / 2 ^ k ≤ B := by
  induction k with
  | zero => simp; omega
  | succ k ih => rw [pow_half]; omega

theorem sat_mono {x y : Int} (h : x ≤ y) : sat x ≤ sat y := by unfold sat; (repeat' split) <;> omega
theorem add_mono {x y : Int} (z : Int) (h : x ≤ y) : add x z ≤ add y z := by
  have := sat_mono h
  exact sat_mono (by omega)
theorem add_comm (x y : Int) : add x y = add y x := by unfold add; rw [Int.add_comm]
theorem mul_comm (x y s : Int) : mul x y s = mul y x s := by unfold mul; rw [Int.mul_comm]
theorem sub_add {x y : Int} (hx : -2147483648 ≤ x ∧ x ≤ 2147483647) (hy : -2147483648 ≤ y ∧ y ≤ 2147483647) (h1 : -2147483648 ≤ x - y) (h2 : x - y ≤ 2147483647) : add (sub x y) y = x := by
  unfold add sub
  simp only [sat_id x hx.1 hx.2, sat_id y hy.1 hy.2]
  rw [sat_id (x - y) h1 h2, sat_id (x - y) h1 h2, sat_id (x - y + y) (by omega) (by omega)]
  omega
theorem mul_mono3 {x y z : Int} (h : x ≤ y) (hz : 0 ≤ z) : mul x z 3 ≤ mul y z 3 := by
  have h1 := sat_mono h
  have h2 := sat_mono hz
  have h0 : sat 0 = 0 := by decide
  have hm : sat x * sat z ≤ sat y * sat z := Int.mul_le_mul_of_nonneg_right h1 (by omega)
  have hb : (bound 3 0 62).toNat = 3 := by decide
  unfold mul
  rw [hb]
  exact sat_mono (Int.ediv_le_ediv (by decide) hm)
theorem mul_16 {x : Int} (hx : -2147483648 ≤ x ∧ x ≤ 2147483647) : mul x 65536 16 = x := by
  have hb : (bound 16 0 62).toNat = 16 := by decide
  have hs : sat 65536 = 65536 := by decide
  unfold mul
  rw [hb, hs, sat_id x hx.1 hx.2]
  have : (2 : Int) ^ 16 = 65536 := by decide
  rw [this, Int.mul_ediv_cancel _ (by decide)]
  exact sat_id x hx.1 hx.2

theorem slew_up {x y n : Int} (hx : -2147483648 ≤ x ∧ x ≤ 2147483647) (hy : -2147483648 ≤ y ∧ y ≤ 2147483647) (hn : 0 ≤ n ∧ n ≤ 2147483647) (h : n < y - x) : slew x y n = x + n := by
  have hb : bound n 0 2147483647 = n := by unfold bound; (repeat' split) <;> omega
  unfold slew add
  rw [sat_id x hx.1 hx.2, sat_id y hy.1 hy.2, hb, if_pos h, sat_id x hx.1 hx.2, sat_id n (by omega) (by omega), sat_id _ (by omega) (by omega)]
theorem slew_down {x y n : Int} (hx : -2147483648 ≤ x ∧ x ≤ 2147483647) (hy : -2147483648 ≤ y ∧ y ≤ 2147483647) (hn : 0 ≤ n ∧ n ≤ 2147483647) (h : n < x - y) : slew x y n = x - n := by
  have hb : bound n 0 2147483647 = n := by unfold bound; (repeat' split) <;> omega
  unfold slew sub
  rw [sat_id x hx.1 hx.2, sat_id y hy.1 hy.2, hb, if_neg (by omega), if_pos (by omega), sat_id x hx.1 hx.2, sat_id n (by omega) (by omega), sat_id _ (by omega) (by omega)]
theorem slew_there {x y n : Int} (hx : -2147483648 ≤ x ∧ x ≤ 2147483647) (hy : -2147483648 ≤ y ∧ y ≤ 2147483647) (hn : 0 ≤ n ∧ n ≤ 2147483647) (h1 : y - x ≤ n) (h2 : x - y ≤ n) : slew x y n = y := by
  have hb : bound n 0 2147483647 = n := by unfold bound; (repeat' split) <;> omega
  unfold slew
  rw [sat_id x hx.1 hx.2, sat_id y hy.1 hy.2, hb, if_neg (by omega), if_neg (by omega)]
theorem slew_still {x y n : Int} (hx : -2147483648 ≤ x ∧ x ≤ 2147483647) (hy : -2147483648 ≤ y ∧ y ≤ 2147483647) (hn : n ≤ 0) : slew x y n = x := by
  have hb : bound n 0 2147483647 = 0 := by unfold bound; (repeat' split) <;> omega
  unfold slew add sub
  rw [sat_id x hx.1 hx.2, sat_id y hy.1 hy.2, hb, sat_id x hx.1 hx.2, sat_id 0 (by omega) (by omega)]
  (repeat' split) <;> first | omega | (rw [sat_id _ (by omega) (by omega)]; omega)

theorem tmod_small (x : Int) {y : Int} (h : y ≠ 0) : (x.tmod y).natAbs < y.natAbs := by
  rw [Int.natAbs_tmod]
  exact Nat.mod_lt _ (by omega)
theorem tmod_sign (x y : Int) : (0 ≤ x → 0 ≤ x.tmod y) ∧ (x ≤ 0 → x.tmod y ≤ 0) := by
  refine ⟨Int.tmod_nonneg y, fun h => ?_⟩
  have := Int.tmod_nonneg (a := -x) y (by omega)
  rw [Int.neg_tmod] at this
  omega

/-- The quotient of two fixed numbers, and what is left. -/
theorem divq_left {x y : Int} (hx : -2147483648 ≤ x ∧ x ≤ 2147483647) (hy : -2147483648 ≤ y ∧ y ≤ 2147483647) (h0 : y ≠ 0) (h1 : ¬ (x = -2147483648 ∧ y = -1)) :
    x - divq x y * y = x.tmod y := by
  have hq : -2147483648 ≤ x.tdiv y ∧ x.tdiv y ≤ 2147483647 := by
    have h := tdiv_bd x y hx.1 (by omega)
    refine ⟨h.1, ?_⟩
    rcases (by omega : 2147483647 < x.tdiv y ∨ x.tdiv y ≤ 2147483647) with hlt | hge
    · exfalso
      have e : x.tdiv y = 2147483648 := by omega
      have hm := Int.mul_tdiv_add_tmod x y
      rw [e] at hm
      have hl := Int.natAbs_tdiv_le_natAbs x y
      have hx' : x = -2147483648 := by omega
      have hr1 : y * 2147483648 + x.tmod y = x := hm
      have hr2 := tmod_small x h0
      apply h1
      refine ⟨hx', ?_⟩
      omega
    · exact hge
  have e : divq x y = x.tdiv y := by
    unfold divq
    rw [sat_id y hy.1 hy.2, if_neg h0, sat_id x hx.1 hx.2, sat_id _ hq.1 hq.2]
  rw [e]
  have := Int.mul_tdiv_add_tmod x y
  rw [Int.mul_comm] at this
  omega

end Fx

/- Laws as three tables' lists and six numbers; what is asked, allowed, and where a valve goes. No program is named here. -/
namespace Sd
open Tb Em

structure Ls where
  ax : List Int
  ay : List Int
  dx : List Int
  dy : List Int
  sx : List Int
  sy : List Int
  red1 : Int
  red2 : Int
  redE : Int
  margin : Int
  idle : Int
  patience : Int
def tabs (l : Ls) : Bool := rsB l.ax l.ay && rsB l.dx l.dy && rsB l.sx l.sy
def nums (l : Ls) : Bool := within l.margin 1 1048576 && within l.idle 1 1048576 && within l.patience 1 10000
def reds (l : Ls) : Bool := within l.red1 l.margin 1048576 && within l.red2 l.margin 1048576 && within l.redE l.margin 1048576
def okB (l : Ls) : Bool := tabs l && nums l && reds l
def err (l : Ls) : Int := if okB l = true then 0 else 140
def ask (e : En) (lever : Int) : Int := if Em.okB e = true then atv e.fx e.fy (Fx.clamp lever 0 1000) else 0
def alw (l : Ls) (n2 fuel : Int) : Int := Fx.clamp fuel (atv l.dx l.dy n2) (atv l.ax l.ay n2)
def allow (l : Ls) (n2 fuel : Int) : Int := if okB l = true then alw l n2 fuel else 0
def next (e : En) (l : Ls) (n2 valve fuel : Int) : Int := if (Em.okB e && okB l) = true then Fx.slew valve (alw l n2 fuel) e.slew else 0

structure Ok (l : Ls) : Prop where
  a : Ri l.ax l.ay
  d : Ri l.dx l.dy
  s : Ri l.sx l.sy
  margin : 1 ≤ l.margin ∧ l.margin ≤ 1048576
  idle : 1 ≤ l.idle ∧ l.idle ≤ 1048576
  patience : 1 ≤ l.patience ∧ l.patience ≤ 10000
  red1 : l.margin ≤ l.red1 ∧ l.red1 ≤ 1048576
  red2 : l.margin ≤ l.red2 ∧ l.red2 ≤ 1048576
  redE : l.margin ≤ l.redE ∧ l.redE ≤ 1048576
theorem ok_of {l : Ls} (h : okB l = true) : Ok l := by
  simp only [okB, tabs, nums, reds, Bool.and_eq_true, ri_iff, within, decide_eq_true_eq] at h
  obtain ⟨⟨⟨⟨a, b⟩, c⟩, ⟨⟨d, e⟩, f⟩⟩, ⟨⟨g, h⟩, i⟩⟩ := h
  exact ⟨a, b, c, d, e, f, g, h, i⟩
/-- A table that may be has fixed numbers. -/
theorem atv_ri {xs ys : List Int} (h : Ri xs ys) (x : Int) : atv xs ys x = atO xs ys x := by
  rw [atv, if_pos ((ok_iff _ _).2 h.ok)]
theorem atv_bd {xs ys : List Int} (h : Ri xs ys) (x : Int) : 0 ≤ atv xs ys x ∧ atv xs ys x ≤ 1048576 := by
  rw [atv_ri h]; exact at_bd h.ok x
theorem atv_mono {xs ys : List Int} (h : Ri xs ys) {a b : Int} (hab : a ≤ b) : atv xs ys a ≤ atv xs ys b := by
  rw [atv_ri h, atv_ri h]; exact at_mono h.ok h.up hab

theorem alw_eq {l : Ls} (h : Ok l) (n f : Int) : alw l n f = if atv l.ax l.ay n < atv l.dx l.dy n then atv l.dx l.dy n else if f < atv l.dx l.dy n then atv l.dx l.dy n else if atv l.ax l.ay n < f then atv l.ax l.ay n else f := by
  have h1 := atv_bd h.d n
  have h2 := atv_bd h.a n
  unfold alw Fx.clamp
  rw [Fx.sat_id (atv l.dx l.dy n) (by omega) (by omega), Fx.sat_id (atv l.ax l.ay n) (by omega) (by omega)]
  unfold Fx.bound Fx.sat
  (repeat' split) <;> omega
theorem alw_bd {l : Ls} (h : Ok l) (n f : Int) : 0 ≤ alw l n f ∧ alw l n f ≤ 1048576 := by
  have h1 := atv_bd h.d n
  have h2 := atv_bd h.a n
  rw [alw_eq h]
  (repeat' split) <;> omega
theorem alw_in {l : Ls} (h : Ok l) (n f : Int) (hc : ¬ atv l.ax l.ay n < atv l.dx l.dy n) : atv l.dx l.dy n ≤ alw l n f ∧ alw l n f ≤ atv l.ax l.ay n := by
  rw [alw_eq h, if_neg hc]
  (repeat' split) <;> omega
theorem alw_fuel {l : Ls} (h : Ok l) (n : Int) {a b : Int} (hab : a ≤ b) : alw l n a ≤ alw l n b := by
  rw [alw_eq h, alw_eq h]
  (repeat' split) <;> omega
theorem alw_n2 {l : Ls} (h : Ok l) {n m : Int} (hnm : n ≤ m) (f : Int) (hc : ¬ atv l.ax l.ay n < atv l.dx l.dy n) (hc' : ¬ atv l.ax l.ay m < atv l.dx l.dy m) : alw l n f ≤ alw l m f := by
  have h1 := atv_mono h.d hnm
  have h2 := atv_mono h.a hnm
  rw [alw_eq h, alw_eq h, if_neg hc, if_neg hc']
  (repeat' split) <;> omega
theorem allow_fuel (l : Ls) (n : Int) {a b : Int} (hab : a ≤ b) : allow l n a ≤ allow l n b := by
  unfold allow
  split
  · rename_i h; exact alw_fuel (ok_of h) n hab
  · exact Int.le_refl _
theorem ask_mono (e : En) {a b : Int} (hab : a ≤ b) : ask e a ≤ ask e b := by
  unfold ask
  split
  · rename_i h
    refine atv_mono (Em.ok_of h).f ?_
    unfold Fx.clamp Fx.bound
    have := Fx.sat_mono hab
    (repeat' split) <;> omega
  · exact Int.le_refl _

/-- One frame of a valve, of numbers in their ends. -/
theorem slew_is {v a s : Int} (hv : 0 ≤ v ∧ v ≤ 1048576) (ha : 0 ≤ a ∧ a ≤ 1048576) (hs : 1 ≤ s ∧ s ≤ 1048576) : Fx.slew v a s = if s < a - v then v + s else if s < v - a then v - s else a := by
  split
  · exact Fx.slew_up (by omega) (by omega) (by omega) (by omega)
  · split
    · exact Fx.slew_down (by omega) (by omega) (by omega) (by omega)
    · exact Fx.slew_there (by omega) (by omega) (by omega) (by omega) (by omega)
end Sd

/- Laws that came in, and their box; the closures that ask of them. -/
namespace Go.Proofs.YtodilljomjhohaaDoor
namespace Hw
open Go.RowKit TabC Lk Ew

/-- Laws as they lie: three tables and six numbers. -/
structure Lg where
  a : Tv
  d : Tv
  s : Tv
  red1 : Int
  red2 : Int
  redE : Int
  margin : Int
  idle : Int
  patience : Int
def la (l : Lg) : Sd.Ls := ⟨l.a.xs, l.a.ys, l.d.xs, l.d.ys, l.s.xs, l.s.ys, l.red1, l.red2, l.redE, l.margin, l.idle, l.patience⟩
abbrev lc (l : Lg) : Array Value := #[.slice l.a.A l.a.xs.length l.a.ca, .slice l.a.B l.a.ys.length l.a.cb, .slice l.d.A l.d.xs.length l.d.ca, .slice l.d.B l.d.ys.length l.d.cb, .slice l.s.A l.s.xs.length l.s.ca, .slice l.s.B l.s.ys.length l.s.cb, .int .i64 l.red1, .int .i64 l.red2, .int .i64 l.redE, .int .i64 l.margin, .int .i64 l.idle, .int .i64 l.patience]
abbrev lo (l : Lg) : Obj := .cells (lc l) 29 (0, 0)
theorem info_l : (Tryd.prog.info? 29).map (·.size) = some 12 := by kernel_rfl
theorem lc_one (l : Lg) : (lc l).all (·.oneCell') = true := by simp [lc, Value.oneCell']
/-- The tables of laws can be read. -/
structure LawIn (W : World) (l : Lg) : Prop where
  a : TabIn W l.a.A l.a.B l.a.xs l.a.ys
  d : TabIn W l.d.A l.d.B l.d.xs l.d.ys
  s : TabIn W l.s.A l.s.B l.s.xs l.s.ys
theorem LawIn.below {W W' : World} {l : Lg} (h : LawIn W l) (hb : Below W.heap.size W W') : LawIn W' l := ⟨h.a.below hb, h.d.below hb, h.s.below hb⟩
theorem one_l (w : World) (l : Lg) : Hv w (w.alloc (lo l)) [(w.heap.size, lo l)] := (Hv.nil w).made (lo l)
/-- The cells of a laws' block. -/
abbrev LFld (V : World) (b : Nat) (l : Lg) : Prop :=
  V.cell? ⟨b, 0, none⟩ = some (.slice l.a.A l.a.xs.length l.a.ca) ∧ V.cell? ⟨b, 1, none⟩ = some (.slice l.a.B l.a.ys.length l.a.cb) ∧ V.cell? ⟨b, 2, none⟩ = some (.slice l.d.A l.d.xs.length l.d.ca) ∧ V.cell? ⟨b, 3, none⟩ = some (.slice l.d.B l.d.ys.length l.d.cb) ∧
  V.cell? ⟨b, 4, none⟩ = some (.slice l.s.A l.s.xs.length l.s.ca) ∧ V.cell? ⟨b, 5, none⟩ = some (.slice l.s.B l.s.ys.length l.s.cb) ∧
  V.cell? ⟨b, 6, none⟩ = some (.int .i64 l.red1) ∧ V.cell? ⟨b, 7, none⟩ = some (.int .i64 l.red2) ∧ V.cell? ⟨b, 8, none⟩ = some (.int .i64 l.redE) ∧ V.cell? ⟨b, 9, none⟩ = some (.int .i64 l.margin) ∧
  V.cell? ⟨b, 10, none⟩ = some (.int .i64 l.idle) ∧ V.cell? ⟨b, 11, none⟩ = some (.int .i64 l.patience)
theorem lfld {V : World} {b : Nat} {l : Lg} (h : V.heap[b]? = some (lo l)) : LFld V b l :=
  ⟨Joins.cell_of_block h 0, Joins.cell_of_block h 1, Joins.cell_of_block h 2, Joins.cell_of_block h 3, Joins.cell_of_block h 4, Joins.cell_of_block h 5, Joins.cell_of_block h 6, Joins.cell_of_block h 7,
   Joins.cell_of_block h 8, Joins.cell_of_block h 9, Joins.cell_of_block h 10, Joins.cell_of_block h 11⟩

section
variable {ops : Array Oper} {rest : List Oper} {op : Oper} {a : Act} {w : World} {Q : Exit → Act → World → Prop}
/-- Laws, loaded and stored as a whole. -/
theorem ldl (hw : Region.wanted op (yielded ops a.tmps) = true) (x : Operand) (ho : op.op = .load 29 x)
    (b : Nat) (l : Lg) (hx : a.eval x = .pointer (some ⟨b, 0, none⟩)) (hP : w.heap[b]? = some (lo l))
    (c : wpList Tryd.prog ops Q rest (a.put op.dst (.agg (lc l))) w) : wpList Tryd.prog ops Q (op :: rest) a w :=
  Lk.wanted hw fun _ hK => wp_load_row 29 x ho b hx 29 (lc l) (0, 0) _ hP Tryd.underlying29 rfl info_l (hK _ _ c)
theorem stl (hgd : op.guard = none) (x y : Operand) (ho : op.op = .store 29 x y) (hd : op.dst = none)
    (g : Nat) (q p : Lg) (hx : a.eval x = .pointer (some ⟨g, 0, none⟩)) (hy : a.eval y = .agg (lc p)) (hP : w.heap[g]? = some (lo q))
    (h : ∀ w', w'.heap[g]? = some (lo p) → Off g w w' → wpList Tryd.prog ops Q rest a w') : wpList Tryd.prog ops Q (op :: rest) a w := by
  refine wpList_plain hgd fun _ hK => wp_store_row 29 x y ho g (lc p) hx hy 29 (lc q) hP info_l rfl (lc_one p) (hK _ _ ?_)
  rw [hd]
  exact h _ (setRow_heap w g (lc q) (lc p) 29 (0, 0) hP) (Off.row w g _)
end

/-- A closure that asks whether a table rises; and one that asks whether a number lies between two. -/
abbrev fr (g : Nat) : Value := .func (.func 57) #[] #[.pointer (some ⟨g, 0, none⟩)]
abbrev fi (x y z : Nat) : Value := .func (.func 60) #[] #[.pointer (some ⟨x, 0, none⟩), .pointer (some ⟨y, 0, none⟩), .pointer (some ⟨z, 0, none⟩)]
abbrev nob (n : Int) : Obj := .cells #[.int .i64 n] 3 (0, 0)

theorem mk_r (t : Tv) (W : World) : Calls Tryd.prog 56 #[.agg (tc t)] W fun r w' => r = .returned (fr W.heap.size) ∧ w' = W.alloc (tob t) := by
  go_enter Tryd.func56, Tryd.ntmps56
  go_wp2
  go_ret
  exact ⟨rfl, rfl⟩

theorem mk_i (x y z : Int) (W : World) : Calls Tryd.prog 59 #[.int .i64 x, .int .i64 y, .int .i64 z] W fun r w' => r = .returned (fi W.heap.size (W.heap.size + 1) (W.heap.size + 1 + 1)) ∧ w' = ((W.alloc (nob x)).alloc (nob y)).alloc (nob z) := by
  go_enter Tryd.func59, Tryd.ntmps59
  go_wp2
  go_ret
  exact ⟨rfl, rfl⟩

theorem ask_r (g : Nat) (t : Tv) (W : World) (hg : W.heap[g]? = some (tob t)) (hT : TabIn W t.A t.B t.xs t.ys) : Calls Tryd.prog 57 #[.pointer (some ⟨g, 0, none⟩)] W fun r w' => r = .returned (.bool (Tb.rsB t.xs t.ys)) ∧ Below W.heap.size W w' := by
  have c0 := Joins.cell_of_block hg 0
  have c1 := Joins.cell_of_block hg 1
  simp only [List.getElem?_toArray, List.getElem?_cons_zero, List.getElem?_cons_succ] at c0 c1
  have HT := Lib.hid hT
  clear hT hg
  go_enter Tryd.func57, Tryd.ntmps57
  go_wp2_with (first | (go_at_call 58; (with_reducible refine (rising_c _ _ _ _ _ _ _ HT.out).mono ?_); rintro r W' ⟨rfl, hb⟩) | fail)
  go_ret
  exact ⟨rfl, hb⟩

theorem ask_i (x y z : Nat) (lo n hi : Int) (W : World) (h0 : W.cell? ⟨x, 0, none⟩ = some (.int .i64 lo)) (h1 : W.cell? ⟨y, 0, none⟩ = some (.int .i64 n)) (h2 : W.cell? ⟨z, 0, none⟩ = some (.int .i64 hi)) : Calls Tryd.prog 60 #[.pointer (some ⟨x, 0, none⟩), .pointer (some ⟨y, 0, none⟩), .pointer (some ⟨z, 0, none⟩)] W fun r w' => r = .returned (.bool (Em.within n lo hi)) ∧ Below W.heap.size W w' := by
  by_cases h : lo ≤ n
  · have E : Hid (decide (n ≤ hi) = Em.within n lo hi) := by show _ = _; simp [Em.within, h]
    go_enter Tryd.func60, Tryd.ntmps60
    go_wp2
    go_ret
    exact ⟨ret_bool E.out, Below.refl _ _⟩
  · have E : Hid (false = Em.within n lo hi) := by show _ = _; simp [Em.within, h]
    go_enter Tryd.func60, Tryd.ntmps60
    go_wp2
    go_ret
    exact ⟨ret_bool E.out, Below.refl _ _⟩

end Hw
end Go.Proofs.YtodilljomjhohaaDoor

/- Few of laws; the statements' own laws. -/
namespace Go.Proofs.YtodilljomjhohaaDoor
namespace Hw
open Go.RowKit TabC Lk Ew

def fewL (l : Lg) : Bool := fewB l.a.xs l.a.ys && fewB l.d.xs l.d.ys && fewB l.s.xs l.s.ys

set_option maxRecDepth 100000 in
set_option maxHeartbeats 4000000 in
theorem few_l (l : Lg) (w : World) : Calls Tryd.prog 10 #[.agg (lc l)] w fun r w' => r = .returned (.bool (fewL l)) ∧ Below w.heap.size w w' := by
  have HV := Lib.hid (one_l w l)
  obtain ⟨c0, c1, c2, c3, c4, c5, _⟩ := lfld HV.out.head
  obtain ⟨b1, h1⟩ : ∃ b, fewB l.a.xs l.a.ys = b := ⟨_, rfl⟩
  obtain ⟨b2, h2⟩ : ∃ b, fewB l.d.xs l.d.ys = b := ⟨_, rfl⟩
  obtain ⟨b3, h3⟩ : ∃ b, fewB l.s.xs l.s.ys = b := ⟨_, rfl⟩
  rw [show fewL l = (b1 && b2 && b3) from by simp only [fewL, h1, h2, h3]]
  have C1 := Lib.hid (fw_v h1)
  have C2 := Lib.hid (fw_v h2)
  have C3 := Lib.hid (fw_v h3)
  clear h1 h2 h3
  go_enter Tryd.func10, Tryd.ntmps10
  go_wp2_with (first | (go_at_call 21; (first | (with_reducible refine (C1.out _).mono ?_) | (with_reducible refine (C2.out _).mono ?_) | (with_reducible refine (C3.out _).mono ?_)); rintro r W ⟨rfl, hb⟩; replace HV := Lib.hid (HV.out.grow hb); clear hb c0 c1 c2 c3 c4 c5; obtain ⟨c0, c1, c2, c3, c4, c5, _⟩ := lfld HV.out.head) | fail)
  all_goals
    go_ret
    exact ⟨ret_bool (by simp [*]), HV.out.old⟩
theorem fewl_v {l : Lg} {b : Bool} (h : fewL l = b) (W : World) : Calls Tryd.prog 10 #[.agg (lc l)] W fun r w' => r = .returned (.bool b) ∧ Below W.heap.size W w' := h ▸ few_l l W

/-- The statements' own laws; their lists lie in the blocks behind N. -/
def M0 : Sd.Ls := ⟨[0, 10000], [300, 1000], [0, 10000], [0, 600], [0, 10000], [220, 260], 9000, 11000, 1000, 50, 1800, 200⟩
def L0 (N : Nat) : Lg := ⟨⟨some ⟨N + 1, 0, none⟩, some ⟨N + 1 + 1, 0, none⟩, 2, 2, [0, 10000], [300, 1000]⟩, ⟨some ⟨N + 1 + 1 + 1, 0, none⟩, some ⟨N + 1 + 1 + 1 + 1, 0, none⟩, 2, 2, [0, 10000], [0, 600]⟩, ⟨some ⟨N + 1 + 1 + 1 + 1 + 1, 0, none⟩, some ⟨N + 1 + 1 + 1 + 1 + 1 + 1, 0, none⟩, 2, 2, [0, 10000], [220, 260]⟩, 9000, 11000, 1000, 50, 1800, 200⟩
theorem madeL (w : World) : LawIn (((((((w.alloc (lo (L0 w.heap.size))).alloc (ro [0, 10000])).alloc (ro [300, 1000])).alloc (ro [0, 10000])).alloc (ro [0, 600])).alloc (ro [0, 10000])).alloc (ro [220, 260])) (L0 w.heap.size) ∧ Below w.heap.size w (((((((w.alloc (lo (L0 w.heap.size))).alloc (ro [0, 10000])).alloc (ro [300, 1000])).alloc (ro [0, 10000])).alloc (ro [0, 600])).alloc (ro [0, 10000])).alloc (ro [220, 260])) ∧ (((((((w.alloc (lo (L0 w.heap.size))).alloc (ro [0, 10000])).alloc (ro [300, 1000])).alloc (ro [0, 10000])).alloc (ro [0, 600])).alloc (ro [0, 10000])).alloc (ro [220, 260])).heap[w.heap.size]? = some (lo (L0 w.heap.size)) := by
  have h := (((((((Hv.nil w).made (lo (L0 w.heap.size))).made (ro [0, 10000])).made (ro [300, 1000])).made (ro [0, 10000])).made (ro [0, 600])).made (ro [0, 10000])).made (ro [220, 260])
  simp only [World.size_alloc] at h
  have g : ∀ (n : Nat) (l : List Int), (n, ro l) ∈ _ → Lk.IntsAt _ .i64 (some ⟨n, 0, none⟩) l := fun n l hm => ints_row (h.has (n, ro l) hm)
  refine ⟨⟨⟨by show 2 ≤ _; decide, by show 2 ≤ _; decide, ?_, ?_⟩, ⟨by show 2 ≤ _; decide, by show 2 ≤ _; decide, ?_, ?_⟩, ⟨by show 2 ≤ _; decide, by show 2 ≤ _; decide, ?_, ?_⟩⟩, h.old, h.has (w.heap.size, _) (by simp)⟩
  all_goals exact g _ _ (by simp [L0])

/-- A result that is laws, in a cell. -/
theorem res_l {fn : Func} {p : Tmp} (h : fn.results = #[.cell p 29]) (tmps : Array Value) (w : World) (g : Nat) (l : Lg) (hp : tmps.getD p undef = .pointer (some ⟨g, 0, none⟩)) (hP : w.heap[g]? = some (lo l)) :
    (results fn tmps).run Tryd.prog w = .ok (.agg (lc l)) w := by
  have hp' : tmps[p]?.getD undef = .pointer (some ⟨g, 0, none⟩) := by simpa using hp
  simp [results, h, hp', asAddr, run_loadVar_row (P := Tryd.prog) w g 29 29 (lc l) (0, 0) _ hP Tryd.underlying29 rfl info_l]

set_option maxHeartbeats 4000000 in
theorem laws_c (w : World) : Calls Tryd.prog 20 #[] w fun r w' => ∃ l, la l = M0 ∧ r = .returned (.agg (lc l)) ∧ LawIn w' l ∧ Below w.heap.size w w' := by
  have HM := Lib.hid (madeL w)
  go_enter Tryd.func20, Tryd.ntmps20
  go_wp2_with fail
  refine bodyPost_ret (res_l rfl _ _ _ (L0 w.heap.size) rfl HM.out.2.2) rfl ?_
  exact ⟨L0 w.heap.size, rfl, rfl, HM.out.1, HM.out.2.1⟩

end Hw
end Go.Proofs.YtodilljomjhohaaDoor

/- General, over any program: a region that draws its order, gone through in the order of its text: each operation has one value in every world that meets S, or is left out, or is the only one that may come. -/
namespace Go.Proofs.YtodilljomjhohaaDoor
namespace Lk
open Go

section
variable {P : Program} {ops : Array Oper} {Q : Exit → Act → World → Prop} {md : Region.Mode} {S : World → Prop}

/-- The operations in order; 'true': it is the only one that may come up. -/
def wpMix (P : Program) (ops : Array Oper) (Q : Exit → Act → World → Prop) (S : World → Prop) : List Oper → List Bool → Act → World → Prop
  | o :: rest, false :: fs, a, w => ∃ v, YieldsIf P ops S o v a ∧ wpMix P ops Q S rest fs (a.put o.dst v) w
  | o :: rest, true :: fs, a, w => (Region.wanted o (yielded ops a.tmps) = true ∧ o.wp P a w (fun a' w' => S w' ∧ wpMix P ops Q S rest fs a' w') Q) ∨ (Region.wanted o (yielded ops a.tmps) = false ∧ wpMix P ops Q S rest fs (a.put o.dst undef) w)
  | _, _, a, w => Q .normal a w
def mixB (md : Region.Mode) (ops : Array Oper) : List Bool → Nat → Array Bool → Bool
  | [], _, listed => (Region.ready md ops listed).isEmpty
  | false :: fs, k, listed => (Region.ready md ops listed).contains k && Region.free md ops listed k && mixB md ops fs (k + 1) (listed.setIfInBounds k true)
  | true :: fs, k, listed => decide (Region.ready md ops listed = [k]) && mixB md ops fs (k + 1) (listed.setIfInBounds k true)

theorem anyH_mix (hsel : Region.noSelect ops = true) (hQ : ∀ c (o : Option Tmp) v a w, Q (.panic c) (a.put o v) w → Q (.panic c) a w) :
    ∀ (fs : List Bool) (l : List Oper) (k : Nat) (listed : Array Bool) (a : Act) (w : World), l.length = fs.length → (∀ j, l[j]? = ops[k + j]?) → S w → mixB md ops fs k listed = true → wpMix P ops Q S l fs a w → wpAnyH P md ops Q S fs.length listed a w
  | [], [], _, _, _, _, _, _, _, hB, h => ⟨by simpa [mixB] using hB, by simpa [wpMix] using h⟩
  | f :: fs, [], _, _, _, _, hl, _, _, _, _ => by simp at hl
  | [], _ :: _, _, _, _, _, hl, _, _, _, _ => by simp at hl
  | false :: fs, o :: l, k, listed, a, w, hl, hk, hS, hB, h => by
    have h0 : ops[k]? = some o := by simpa using (hk 0).symm
    simp only [wpMix] at h
    obtain ⟨v, hy, hK⟩ := h
    simp only [mixB, Bool.and_eq_true] at hB
    obtain ⟨⟨hr, hf⟩, hB'⟩ := hB
    exact wpAnyH_take h0 hsel hf hr (fun c a w => hQ c o.dst v a w) hy hS (anyH_mix hsel hQ fs l (k + 1) _ _ w (by simpa using hl) (fun j => by have := hk (j + 1); simpa [Nat.add_assoc, Nat.add_comm 1 j] using this) hS hB' hK)
  | true :: fs, o :: l, k, listed, a, w, hl, hk, hS, hB, h => by
    have h0 : ops[k]? = some o := by simpa using (hk 0).symm
    simp only [wpMix] at h
    simp only [mixB, Bool.and_eq_true, decide_eq_true_eq] at hB
    refine wpAnyH_all (rs := [k]) hB.1 (by simp) fun i hi => ?_
    have hik : i = k := by simpa using hi
    subst hik
    have hw : wpOp P ops Q i (fun a' w' => S w' ∧ wpMix P ops Q S l fs a' w') a w := by
      unfold wpOp
      rcases h with ⟨h1, h2⟩ | ⟨h1, h2⟩
      · simp only [h0, h1, if_true]
        exact .inl h2
      · simp only [h0, h1]
        exact ⟨hS, h2⟩
    exact wpOp_mono (fun a' w' h' => ⟨h'.1, anyH_mix hsel hQ fs l (i + 1) _ a' w' (by simpa using hl) (fun j => by have := hk (j + 1); simpa [Nat.add_assoc, Nat.add_comm 1 j] using this) h'.1 hB.2 h'.2⟩) hw

/-- The operations of a function's region. -/
def regOf (n : Nat) : Code → List (Array Oper)
  | .region id ops _ => if id == n then [ops] else []
  | .seq a b => regOf n a ++ regOf n b
  | .cond _ a b => regOf n a ++ regOf n b
  | .block _ b => regOf n b
  | .loop b => regOf n b
  | .scope b => regOf n b
  | .rangeFunc _ _ a b => regOf n a ++ regOf n b
  | _ => []
def opsOf (f : Func) (n : Nat) : Array Oper := ((f.body.map (regOf n)).getD []).headD #[]
def mixedB (ops : Array Oper) (fs : List Bool) : Bool := decide (fs.length = ops.size) && Region.noSelect ops && mixB .any ops fs 0 (Array.replicate ops.size false)

/-- The law: the order is shown beforehand, of the operations as the function's text has them. -/
theorem wp_region_mix {id : Nat} {a : Act} {w : World} {ops' : Array Oper} {l : List Oper} {fs : List Bool} (hB : mixedB ops' fs = true) (S : World → Prop) (hm : P.follows .mixedOrders = true) (he : ops' = l.toArray)
    (hQ : ∀ c (o : Option Tmp) v a w, Q (.panic c) (a.put o v) w → Q (.panic c) a w) (hS : S w.drew)
    (h : wpMix P l.toArray Q S l fs a w.drew) : (Code.region id l.toArray true).wp P Q a w := by
  subst he
  simp only [mixedB, Bool.and_eq_true, decide_eq_true_eq] at hB
  obtain ⟨⟨hn, hsel⟩, hB⟩ := hB
  refine wp_region_held_drew (S := S) hm hS fun _ => ?_
  have H := anyH_mix (P := P) (md := .any) hsel hQ fs l 0 (Array.replicate l.toArray.size false) a _ (by simpa using hn.symm) (fun j => by simp) hS hB h
  rw [hn] at H
  exact H

variable {o : Oper} {rest : List Oper} {fs : List Bool} {a : Act} {w : World}
theorem mix_take (v : Value) (hw : Region.wanted o (yielded ops a.tmps) = true) (h : ∀ w, S w → (execOp a.eval o).run P w = .ok (.value v) w)
    (c : wpMix P ops Q S rest fs (a.put o.dst v) w) : wpMix P ops Q S (o :: rest) (false :: fs) a w := by
  simp only [wpMix]
  exact ⟨v, .inl ⟨hw, h⟩, c⟩
theorem mix_skip (hw : Region.wanted o (yielded ops a.tmps) = false)
    (c : wpMix P ops Q S rest fs (a.put o.dst undef) w) : wpMix P ops Q S (o :: rest) (false :: fs) a w := by
  simp only [wpMix]
  exact ⟨undef, .inr ⟨hw, rfl⟩, c⟩
theorem mix_skip' (hw : Region.wanted o (yielded ops a.tmps) = false)
    (c : wpMix P ops Q S rest fs (a.put o.dst undef) w) : wpMix P ops Q S (o :: rest) (true :: fs) a w := by
  simp only [wpMix]
  exact .inr ⟨hw, c⟩
theorem mix_step (hw : Region.wanted o (yielded ops a.tmps) = true)
    (h : ∀ K : Act → World → Prop, Shut (∀ a' w', S w' → wpMix P ops Q S rest fs a' w' → K a' w') → o.wp P a w K Q) : wpMix P ops Q S (o :: rest) (true :: fs) a w := by
  simp only [wpMix]
  exact .inl ⟨hw, h _ fun _ _ h1 h2 => ⟨h1, h2⟩⟩
theorem mix_nil (h : Q .normal a w) : wpMix P ops Q S [] fs a w := by
  cases fs <;> simpa [wpMix] using h
end
end Lk
end Go.Proofs.YtodilljomjhohaaDoor
