/- Plain arithmetic of tables: what the functions of package table, and the document's answers beside them, come to. No program is named here. -/
namespace Tb

/-- The number at a place of a list. -/
def g (l : List Int) (k : Nat) : Int := l.getD k 0

structure Ok (xs ys : List Int) : Prop where
  two : 2 ≤ xs.length
  most : xs.length ≤ 16
  same : ys.length = xs.length
  xb : ∀ k, k < xs.length → 0 ≤ g xs k ∧ g xs k ≤ 1048576
  yb : ∀ k, k < xs.length → 0 ≤ g ys k ∧ g ys k ≤ 1048576
  up : ∀ k, k + 1 < xs.length → g xs k < g xs (k + 1)

def out (x : Int) : Bool := decide (x < 0) || decide (1048576 < x)
def upB (xs : List Int) : Bool := (List.range (xs.length - 1)).all fun k => decide (g xs k < g xs (k + 1))
def okB (xs ys : List Int) : Bool := (decide (2 ≤ xs.length) && decide (xs.length ≤ 16) && decide (ys.length = xs.length)) && !xs.any out && !ys.any out && upB xs
def err (xs ys : List Int) : Int := if okB xs ys = true then 0 else 20
def riB (ys : List Int) : Bool := (List.range (ys.length - 1)).all fun k => decide (g ys k ≤ g ys (k + 1))
def rsB (xs ys : List Int) : Bool := okB xs ys && riB ys

def seg (xs ys : List Int) (k : Nat) (x : Int) : Int := g ys k + (x - g xs k) * (g ys (k + 1) - g ys k) / (g xs (k + 1) - g xs k)
def loc (xs : List Int) (x : Int) : Nat := (List.range (xs.length - 1)).findIdx fun k => decide (x < g xs (k + 1))
def atO (xs ys : List Int) (x : Int) : Int := if loc xs x = xs.length - 1 then g ys (xs.length - 1) else seg xs ys (loc xs x) (max x (g xs (loc xs x)))
def atv (xs ys : List Int) (x : Int) : Int := if okB xs ys = true then atO xs ys x else 0

def mx (l : List Int) : Int := l.foldl max 0
def pk (xs ys : List Int) : Int := if okB xs ys = true then mx ys else 0

def cl (d w : Int) : Int := -((-d) / w)
def stp (xs ys : List Int) (k : Nat) : Int := cl (max (g ys (k + 1) - g ys k) (g ys k - g ys (k + 1))) (g xs (k + 1) - g xs k)
def stU (xs ys : List Int) (m : Nat) : Int := mx ((List.range m).map (stp xs ys))
def st (xs ys : List Int) : Int := if okB xs ys = true then stU xs ys (xs.length - 1) else 0

def wid (xs : List Int) : Nat := (g xs (xs.length - 1) - g xs 0).toNat
def bkO (xs ys : List Int) (y : Int) : Int := g xs 0 + ((List.range (wid xs)).findIdx fun i => decide (y ≤ atO xs ys (g xs 0 + (i : Nat))) : Nat)
def bk (xs ys : List Int) (y : Int) : Int := if okB xs ys = true then bkO xs ys y else 0

/-! ### lists -/

theorem g_mem {l : List Int} {k : Nat} (h : k < l.length) : g l k ∈ l := by
  unfold g; rw [List.getD_eq_getElem?_getD, List.getElem?_eq_getElem h]; exact List.getElem_mem h
theorem mem_g {l : List Int} {v : Int} (h : v ∈ l) : ∃ k, k < l.length ∧ g l k = v := by
  obtain ⟨k, hk, e⟩ := List.getElem_of_mem h
  exact ⟨k, hk, by unfold g; rw [List.getD_eq_getElem?_getD, List.getElem?_eq_getElem hk]; exact e⟩
theorem any_out (l : List Int) : l.any out = false ↔ ∀ k, k < l.length → 0 ≤ g l k ∧ g l k ≤ 1048576 := by
  rw [List.any_eq_false]
  constructor
  · intro h k hk
    have := h _ (g_mem hk)
    simp [out] at this; omega
  · intro h v hv
    obtain ⟨k, hk, rfl⟩ := mem_g hv
    have := h k hk
    simp [out]; omega
theorem any_take (l : List Int) (k : Nat) (h : k < l.length) : (l.take (k + 1)).any out = ((l.take k).any out || out (g l k)) := by
  rw [List.take_succ_eq_append_getElem h, List.any_append]
  simp [g, h]
theorem upB_iff (xs : List Int) : upB xs = true ↔ ∀ k, k + 1 < xs.length → g xs k < g xs (k + 1) := by
  simp only [upB, List.all_eq_true, List.mem_range, decide_eq_true_eq]
  constructor <;> intro h k hk <;> exact h k (by omega)
theorem riB_iff (ys : List Int) : riB ys = true ↔ ∀ k, k + 1 < ys.length → g ys k ≤ g ys (k + 1) := by
  simp only [riB, List.all_eq_true, List.mem_range, decide_eq_true_eq]
  constructor <;> intro h k hk <;> exact h k (by omega)
theorem ok_iff (xs ys : List Int) : okB xs ys = true ↔ Ok xs ys := by
  simp only [okB, Bool.and_eq_true, decide_eq_true_eq, Bool.not_eq_true', any_out, upB_iff]
  constructor
  · rintro ⟨⟨⟨⟨⟨a, b⟩, c⟩, d⟩, e⟩, f⟩
    exact ⟨a, b, c, d, fun k hk => e k (by omega), f⟩
  · rintro ⟨a, b, c, d, e, f⟩
    exact ⟨⟨⟨⟨⟨a, b⟩, c⟩, d⟩, fun k hk => e k (by omega)⟩, f⟩
theorem ok_false (xs ys : List Int) : okB xs ys = false ↔ ¬ Ok xs ys := by
  rw [← ok_iff]; simp

theorem foldl_max_ge (l : List Int) : ∀ a : Int, a ≤ l.foldl max a := by
  induction l with
  | nil => intro a; exact Int.le_refl _
  | cons v l ih => intro a; exact Int.le_trans (by omega) (ih (max a v))
theorem foldl_max_mem (l : List Int) : ∀ a : Int, ∀ v ∈ l, v ≤ l.foldl max a := by
  induction l with
  | nil => intro a v h; cases h
  | cons u l ih =>
    intro a v h
    rcases List.mem_cons.1 h with rfl | h
    · exact Int.le_trans (by omega) (foldl_max_ge l (max a v))
    · exact ih _ v h
theorem foldl_max_is (l : List Int) : ∀ a : Int, l.foldl max a = a ∨ l.foldl max a ∈ l := by
  induction l with
  | nil => intro a; exact .inl rfl
  | cons u l ih =>
    intro a
    rcases ih (max a u) with h | h
    · rw [List.foldl_cons, h]
      by_cases c : u ≤ a
      · left; omega
      · right; rw [Int.max_eq_right (by omega)]; exact List.mem_cons_self
    · right; exact List.mem_cons_of_mem _ h
theorem mx_nonneg (l : List Int) : 0 ≤ mx l := foldl_max_ge l 0
theorem mx_ge {l : List Int} {v : Int} (h : v ∈ l) : v ≤ mx l := foldl_max_mem l 0 v h
theorem mx_is (l : List Int) : mx l = 0 ∨ mx l ∈ l := foldl_max_is l 0
theorem mx_eq {l : List Int} {m : Int} (h0 : 0 ≤ m) (h1 : ∀ v ∈ l, v ≤ m) (h2 : m = 0 ∨ m ∈ l) : mx l = m := by
  have a := mx_nonneg l
  rcases mx_is l with h | h
  · rcases h2 with e | e
    · omega
    · have := mx_ge e; omega
  · have := h1 _ h
    rcases h2 with e | e
    · omega
    · have := mx_ge e; omega
theorem mx_take (l : List Int) (k : Nat) (h : k < l.length) : mx (l.take (k + 1)) = max (mx (l.take k)) (g l k) := by
  unfold mx
  rw [List.take_succ_eq_append_getElem h, List.foldl_append]
  simp [g, h]
theorem stU_succ (xs ys : List Int) (m : Nat) : stU xs ys (m + 1) = max (stU xs ys m) (stp xs ys m) := by
  simp [stU, mx, List.range_succ]
theorem stU_zero (xs ys : List Int) : stU xs ys 0 = 0 := rfl

/-! ### where a place lies -/

theorem find_range {p : Nat → Bool} {n : Nat} : (List.range n).findIdx p ≤ n ∧ (∀ j, j < (List.range n).findIdx p → p j = false) ∧ ((List.range n).findIdx p < n → p ((List.range n).findIdx p) = true) := by
  refine ⟨by simpa using List.findIdx_le_length (xs := List.range n) (p := p), ?_, ?_⟩
  · intro j hj
    have hl := List.findIdx_le_length (xs := List.range n) (p := p)
    have := List.not_of_lt_findIdx hj
    simpa using this
  · intro h
    have := List.findIdx_getElem (xs := List.range n) (p := p) (w := by simpa using h)
    simpa using this
theorem find_unique {p : Nat → Bool} {n k : Nat} (h1 : k ≤ n) (h2 : ∀ j, j < k → p j = false) (h3 : k < n → p k = true) : (List.range n).findIdx p = k := by
  obtain ⟨a, b, c⟩ := find_range (p := p) (n := n)
  rcases Nat.lt_trichotomy ((List.range n).findIdx p) k with h | h | h
  · have := h2 _ h; rw [c (by omega)] at this; cases this
  · exact h
  · have := b _ h; rw [h3 (by omega)] at this; cases this

theorem loc_le (xs : List Int) (x : Int) : loc xs x ≤ xs.length - 1 := find_range.1
theorem loc_before (xs : List Int) (x : Int) {j : Nat} (h : j < loc xs x) : g xs (j + 1) ≤ x := by
  have := (find_range (p := fun k => decide (x < g xs (k + 1))) (n := xs.length - 1)).2.1 j h
  simpa using this
theorem loc_at (xs : List Int) (x : Int) (h : loc xs x < xs.length - 1) : x < g xs (loc xs x + 1) := by
  have := (find_range (p := fun k => decide (x < g xs (k + 1))) (n := xs.length - 1)).2.2 h
  exact of_decide_eq_true this
theorem loc_unique (xs : List Int) (x : Int) {k : Nat} (h1 : k ≤ xs.length - 1) (h2 : ∀ j, j < k → g xs (j + 1) ≤ x) (h3 : k < xs.length - 1 → x < g xs (k + 1)) : loc xs x = k :=
  find_unique h1 (fun j hj => by have := h2 j hj; simpa using this) (fun h => by have := h3 h; simpa using this)

theorem up_lt {xs ys : List Int} (h : Ok xs ys) : ∀ {j k : Nat}, j < k → k < xs.length → g xs j < g xs k := by
  intro j k hjk hk
  induction k with
  | zero => omega
  | succ k ih =>
    have := h.up k hk
    by_cases e : j = k
    · subst e; exact this
    · have := ih (by omega) (by omega); omega
theorem up_le {xs ys : List Int} (h : Ok xs ys) {j k : Nat} (hjk : j ≤ k) (hk : k < xs.length) : g xs j ≤ g xs k := by
  by_cases e : j = k
  · subst e; exact Int.le_refl _
  · have := up_lt h (show j < k by omega) hk; omega

theorem seg_lo {xs ys : List Int} (k : Nat) : seg xs ys k (g xs k) = g ys k := by
  unfold seg; rw [Int.sub_self, Int.zero_mul, Int.zero_ediv]; omega
theorem seg_hi {xs ys : List Int} (h : Ok xs ys) {k : Nat} (hk : k + 1 < xs.length) : seg xs ys k (g xs (k + 1)) = g ys (k + 1) := by
  have := h.up k hk
  unfold seg
  rw [Int.mul_ediv_cancel_left _ (by omega)]; omega

theorem at_seg {xs ys : List Int} (h : Ok xs ys) {k : Nat} (hk : k + 1 < xs.length) {x : Int} (h1 : g xs k ≤ x) (h2 : x ≤ g xs (k + 1)) : atO xs ys x = seg xs ys k x := by
  unfold atO
  by_cases e : x = g xs (k + 1)
  · have hl : loc xs x = k + 1 := loc_unique xs x (by omega) (fun j hj => by rw [e]; exact up_le h (by omega) hk) (fun hh => by rw [e]; exact h.up _ (by omega))
    rw [hl]
    by_cases c : k + 1 = xs.length - 1
    · rw [if_pos c, e, seg_hi h hk, c]
    · rw [if_neg c, e, Int.max_self, seg_lo, seg_hi h hk]
  · have hl : loc xs x = k := loc_unique xs x (by omega) (fun j hj => Int.le_trans (up_le h (by omega) (by omega)) h1) (fun hh => by omega)
    rw [hl, if_neg (by omega), Int.max_eq_left h1]
theorem at_lo {xs ys : List Int} (h : Ok xs ys) {x : Int} (h1 : x ≤ g xs 0) : atO xs ys x = g ys 0 := by
  have h2 := h.two
  have hu := h.up 0 (by omega)
  unfold atO
  have hl : loc xs x = 0 := loc_unique xs x (by omega) (fun j hj => by omega) (fun hh => by omega)
  rw [hl, if_neg (by omega), Int.max_eq_right h1, seg_lo]
theorem at_hi {xs ys : List Int} (h : Ok xs ys) {x : Int} (h1 : g xs (xs.length - 1) ≤ x) : atO xs ys x = g ys (xs.length - 1) := by
  have h2 := h.two
  unfold atO
  have hl : loc xs x = xs.length - 1 := loc_unique xs x (by omega) (fun j hj => Int.le_trans (up_le h (by omega) (by omega)) h1) (fun hh => by omega)
  rw [hl, if_pos rfl]
theorem at_point {xs ys : List Int} (h : Ok xs ys) {k : Nat} (hk : k < xs.length) : atO xs ys (g xs k) = g ys k := by
  have h2 := h.two
  by_cases c : k + 1 < xs.length
  · rw [at_seg h c (Int.le_refl _) (by have := h.up k c; omega), seg_lo]
  · have e : k = xs.length - 1 := by omega
    subst e; exact at_hi h (Int.le_refl _)
/-- Each place is ahead of the first one, behind the last one, or between two. -/
theorem place {xs ys : List Int} (h : Ok xs ys) (x : Int) : x ≤ g xs 0 ∨ g xs (xs.length - 1) ≤ x ∨ ∃ k, k + 1 < xs.length ∧ g xs k ≤ x ∧ x < g xs (k + 1) := by
  have h2 := h.two
  by_cases a : x ≤ g xs 0
  · exact .inl a
  · right
    by_cases c : loc xs x < xs.length - 1
    · right
      refine ⟨loc xs x, by omega, ?_, loc_at xs x c⟩
      by_cases z : loc xs x = 0
      · rw [z]; omega
      · have := loc_before xs x (j := loc xs x - 1) (by omega)
        rwa [show loc xs x - 1 + 1 = loc xs x from by omega] at this
    · left
      have e : loc xs x = xs.length - 1 := by have := loc_le xs x; omega
      have := loc_before xs x (j := xs.length - 2) (by omega)
      rwa [show xs.length - 2 + 1 = xs.length - 1 from by omega] at this

/-! ### quotients -/

theorem div_between {t w d : Int} (hw : 0 < w) (h0 : 0 ≤ t) (h1 : t ≤ w) : min 0 d ≤ t * d / w ∧ t * d / w ≤ max 0 d := by
  rcases Int.le_total 0 d with hd | hd
  · rw [Int.min_eq_left hd, Int.max_eq_right hd]
    refine ⟨Int.ediv_nonneg (Int.mul_nonneg h0 hd) (by omega), ?_⟩
    have : t * d ≤ d * w := by rw [Int.mul_comm d w]; exact Int.mul_le_mul_of_nonneg_right h1 hd
    exact Int.le_of_lt_add_one (Int.ediv_lt_of_lt_mul hw (by rw [Int.add_mul]; omega))
  · rw [Int.min_eq_right hd, Int.max_eq_left hd]
    have a : d * w ≤ t * d := by rw [Int.mul_comm d w]; exact Int.mul_le_mul_of_nonpos_right h1 hd
    have b : t * d ≤ 0 := Int.mul_nonpos_of_nonneg_of_nonpos h0 hd
    exact ⟨Int.le_ediv_of_mul_le hw a, Int.le_of_lt_add_one (Int.ediv_lt_of_lt_mul hw (by omega))⟩

theorem seg_between {xs ys : List Int} (h : Ok xs ys) {k : Nat} (hk : k + 1 < xs.length) {x : Int} (h1 : g xs k ≤ x) (h2 : x ≤ g xs (k + 1)) :
    min (g ys k) (g ys (k + 1)) ≤ seg xs ys k x ∧ seg xs ys k x ≤ max (g ys k) (g ys (k + 1)) := by
  have hu := h.up k hk
  have := div_between (t := x - g xs k) (w := g xs (k + 1) - g xs k) (d := g ys (k + 1) - g ys k) (by omega) (by omega) (by omega)
  unfold seg
  omega
/-- What is between, told of the table itself. -/
theorem at_between {xs ys : List Int} (h : Ok xs ys) {k : Nat} (hk : k + 1 < xs.length) {x : Int} (h1 : g xs k ≤ x) (h2 : x ≤ g xs (k + 1)) :
    min (g ys k) (g ys (k + 1)) ≤ atO xs ys x ∧ atO xs ys x ≤ max (g ys k) (g ys (k + 1)) := by
  rw [at_seg h hk h1 h2]; exact seg_between h hk h1 h2
theorem at_nonneg {xs ys : List Int} (h : Ok xs ys) (x : Int) : 0 ≤ atO xs ys x := by
  have h2 := h.two
  rcases place h x with a | a | ⟨k, hk, a, b⟩
  · rw [at_lo h a]; exact (h.yb 0 (by omega)).1
  · rw [at_hi h a]; exact (h.yb _ (by omega)).1
  · have := at_between h hk a (by omega)
    have y1 := h.yb k (by omega)
    have y2 := h.yb (k + 1) (by omega)
    omega
theorem y_le_mx {xs ys : List Int} (h : Ok xs ys) {k : Nat} (hk : k < xs.length) : g ys k ≤ mx ys := mx_ge (g_mem (by rw [h.same]; exact hk))
theorem at_le_mx {xs ys : List Int} (h : Ok xs ys) (x : Int) : atO xs ys x ≤ mx ys := by
  have h2 := h.two
  rcases place h x with a | a | ⟨k, hk, a, b⟩
  · rw [at_lo h a]; exact y_le_mx h (by omega)
  · rw [at_hi h a]; exact y_le_mx h (by omega)
  · have := at_between h hk a (by omega)
    have y1 := y_le_mx h (k := k) (by omega)
    have y2 := y_le_mx h (k := k + 1) (by omega)
    omega
theorem mx_point {xs ys : List Int} (h : Ok xs ys) : ∃ k, k < xs.length ∧ g ys k = mx ys := by
  have h2 := h.two
  rcases mx_is ys with e | e
  · have a := h.yb 0 (by omega)
    have b := y_le_mx h (k := 0) (by omega)
    exact ⟨0, by omega, by omega⟩
  · obtain ⟨k, hk, e⟩ := mem_g e
    exact ⟨k, by rw [← h.same]; exact hk, e⟩
theorem mx_bd {xs ys : List Int} (h : Ok xs ys) : 0 ≤ mx ys ∧ mx ys ≤ 1048576 := by
  obtain ⟨k, hk, e⟩ := mx_point h
  rw [← e]; exact h.yb k hk
theorem at_bd {xs ys : List Int} (h : Ok xs ys) (x : Int) : 0 ≤ atO xs ys x ∧ atO xs ys x ≤ 1048576 := ⟨at_nonneg h x, Int.le_trans (at_le_mx h x) (mx_bd h).2⟩

/-- A quotient raised, by what it is. -/
theorem cl_spec {d w : Int} (hw : 0 < w) : d ≤ w * cl d w ∧ w * cl d w < d + w := by
  unfold cl
  have a := Int.mul_ediv_add_emod (-d) w
  have b := Int.emod_nonneg (-d) (show w ≠ 0 by omega)
  have c := Int.emod_lt_of_pos (-d) hw
  rw [Int.mul_neg]
  omega
theorem cl_nonneg {d w : Int} (hw : 0 < w) (hd : 0 ≤ d) : 0 ≤ cl d w := by
  unfold cl
  have : (-d) / w < 1 := Int.ediv_lt_of_lt_mul hw (by omega)
  omega
theorem cl_ref {d w : Int} (hw : 0 < w) : (d + w - 1) / w = cl d w := by
  obtain ⟨a, b⟩ := cl_spec (d := d) hw
  have e1 : (d + w - 1) / w < cl d w + 1 := Int.ediv_lt_of_lt_mul hw (by rw [Int.add_mul, Int.mul_comm (cl d w) w]; omega)
  have e2 : cl d w ≤ (d + w - 1) / w := Int.le_ediv_of_mul_le hw (by rw [Int.mul_comm (cl d w) w]; omega)
  omega
theorem cl_le {d w : Int} (hw : 0 < w) (hd : 0 ≤ d) : cl d w ≤ d := by
  obtain ⟨a, b⟩ := cl_spec (d := d) hw
  have n := cl_nonneg hw hd
  by_cases c : cl d w ≤ d
  · exact c
  · have : w * (d + 1) ≤ w * cl d w := Int.mul_le_mul_of_nonneg_left (by omega) (by omega)
    have e : d * 1 ≤ d * w := Int.mul_le_mul_of_nonneg_left (by omega) hd
    rw [Int.mul_add, Int.mul_comm w d] at this
    omega

/-- Two quotients side by side. -/
theorem div_step {a d w : Int} (hw : 0 < w) : (a + d) / w - a / w ≤ cl (max d (-d)) w ∧ a / w - (a + d) / w ≤ cl (max d (-d)) w := by
  obtain ⟨p, q⟩ := cl_spec (d := max d (-d)) hw
  generalize cl (max d (-d)) w = c at *
  have e1 := Int.mul_ediv_add_emod a w
  have e2 := Int.emod_nonneg a (show w ≠ 0 by omega)
  have e3 := Int.emod_lt_of_pos a hw
  have f : (a + d) / w < a / w + c + 1 := Int.ediv_lt_of_lt_mul hw (by rw [Int.add_mul, Int.add_mul, Int.mul_comm (a / w) w, Int.mul_comm c w]; omega)
  have f2 : a / w - c ≤ (a + d) / w := Int.le_ediv_of_mul_le hw (by rw [Int.sub_mul, Int.mul_comm (a / w) w, Int.mul_comm c w]; omega)
  omega
theorem seg_step {xs ys : List Int} (h : Ok xs ys) {k : Nat} (hk : k + 1 < xs.length) (x : Int) :
    seg xs ys k (x + 1) - seg xs ys k x ≤ stp xs ys k ∧ seg xs ys k x - seg xs ys k (x + 1) ≤ stp xs ys k := by
  have hu := h.up k hk
  have := div_step (a := (x - g xs k) * (g ys (k + 1) - g ys k)) (d := g ys (k + 1) - g ys k) (w := g xs (k + 1) - g xs k) (by omega)
  unfold seg stp
  rw [show x + 1 - g xs k = (x - g xs k) + 1 from by omega, Int.add_mul, Int.one_mul]
  rw [show -(g ys (k + 1) - g ys k) = g ys k - g ys (k + 1) from by omega] at this
  omega
theorem stp_nonneg {xs ys : List Int} (h : Ok xs ys) {k : Nat} (hk : k + 1 < xs.length) : 0 ≤ stp xs ys k := by
  have hu := h.up k hk
  exact cl_nonneg (by omega) (by omega)
theorem stp_bd {xs ys : List Int} (h : Ok xs ys) {k : Nat} (hk : k + 1 < xs.length) : 0 ≤ stp xs ys k ∧ stp xs ys k ≤ 1048576 := by
  have hu := h.up k hk
  have y1 := h.yb k (by omega)
  have y2 := h.yb (k + 1) (by omega)
  exact ⟨stp_nonneg h hk, Int.le_trans (cl_le (by omega) (by omega)) (by omega)⟩
theorem stU_ge (xs ys : List Int) {m k : Nat} (hk : k < m) : stp xs ys k ≤ stU xs ys m := mx_ge (List.mem_map.2 ⟨k, List.mem_range.2 hk, rfl⟩)
theorem stU_nonneg (xs ys : List Int) (m : Nat) : 0 ≤ stU xs ys m := mx_nonneg _
theorem stU_bd {xs ys : List Int} (h : Ok xs ys) : ∀ m, m + 1 ≤ xs.length → 0 ≤ stU xs ys m ∧ stU xs ys m ≤ 1048576 := by
  intro m hm
  refine ⟨stU_nonneg _ _ _, ?_⟩
  induction m with
  | zero => rw [stU_zero]; omega
  | succ m ih => rw [stU_succ]; have := ih (by omega); have := stp_bd h (k := m) (by omega); omega
theorem stU_is (xs ys : List Int) (m : Nat) : stU xs ys m = 0 ∨ ∃ k, k < m ∧ stp xs ys k = stU xs ys m := by
  rcases mx_is ((List.range m).map (stp xs ys)) with e | e
  · exact .inl e
  · obtain ⟨k, hk, e⟩ := List.mem_map.1 e
    exact .inr ⟨k, List.mem_range.1 hk, e⟩

/-- Two numbers side by side. -/
theorem at_step {xs ys : List Int} (h : Ok xs ys) (x : Int) : atO xs ys (x + 1) - atO xs ys x ≤ stU xs ys (xs.length - 1) ∧ atO xs ys x - atO xs ys (x + 1) ≤ stU xs ys (xs.length - 1) := by
  have h2 := h.two
  have hn := stU_nonneg xs ys (xs.length - 1)
  rcases place h x with a | a | ⟨k, hk, a, b⟩
  · by_cases c : x + 1 ≤ g xs 0
    · rw [at_lo h a, at_lo h c]; omega
    · have hu := h.up 0 (by omega)
      rw [at_seg h (k := 0) (by omega) (x := x) (by omega) (by omega), at_seg h (k := 0) (by omega) (x := x + 1) (by omega) (by omega)]
      have s := seg_step h (k := 0) (by omega) x
      have := stU_ge xs ys (m := xs.length - 1) (k := 0) (by omega)
      omega
  · rw [at_hi h a, at_hi h (show g xs (xs.length - 1) ≤ x + 1 by omega)]; omega
  · rw [at_seg h hk (x := x) a (by omega), at_seg h hk (x := x + 1) (by omega) (by omega)]
    have s := seg_step h hk x
    have := stU_ge xs ys (m := xs.length - 1) (k := k) (by omega)
    omega

/-! ### tables that rise -/

theorem seg_mono {xs ys : List Int} (h : Ok xs ys) {k : Nat} (hk : k + 1 < xs.length) (hy : g ys k ≤ g ys (k + 1)) {a b : Int} (hab : a ≤ b) : seg xs ys k a ≤ seg xs ys k b := by
  have hu := h.up k hk
  unfold seg
  have : (a - g xs k) * (g ys (k + 1) - g ys k) ≤ (b - g xs k) * (g ys (k + 1) - g ys k) := Int.mul_le_mul_of_nonneg_right (by omega) (by omega)
  have := Int.ediv_le_ediv (c := g xs (k + 1) - g xs k) (by omega) this
  omega
theorem ri_le {ys : List Int} (h : riB ys = true) : ∀ {j k : Nat}, j ≤ k → k < ys.length → g ys j ≤ g ys k := by
  intro j k hjk hk
  rw [riB_iff] at h
  induction k with
  | zero => obtain rfl : j = 0 := by omega
            exact Int.le_refl _
  | succ k ih =>
    by_cases e : j = k + 1
    · subst e; exact Int.le_refl _
    · have := ih (by omega) (by omega); have := h k hk; omega
theorem at_mono {xs ys : List Int} (h : Ok xs ys) (hr : riB ys = true) {a b : Int} (hab : a ≤ b) : atO xs ys a ≤ atO xs ys b := by
  have h2 := h.two
  have hs := h.same
  rcases place h b with pb | pb | ⟨j, hj, b1, b2⟩
  · rw [at_lo h pb, at_lo h (Int.le_trans hab pb)]; exact Int.le_refl _
  · rw [at_hi h pb]
    rcases place h a with pa | pa | ⟨k, hk, a1, a2⟩
    · rw [at_lo h pa]; exact ri_le hr (by omega) (by omega)
    · rw [at_hi h pa]; exact Int.le_refl _
    · have := at_between h hk a1 (by omega)
      have := ri_le hr (j := k) (k := k + 1) (by omega) (by omega)
      have := ri_le hr (j := k + 1) (k := xs.length - 1) (by omega) (by omega)
      omega
  · have hb := at_between h hj b1 (by omega)
    have r1 := ri_le hr (j := j) (k := j + 1) (by omega) (by omega)
    rcases place h a with pa | pa | ⟨k, hk, a1, a2⟩
    · rw [at_lo h pa]
      have := ri_le hr (j := 0) (k := j) (by omega) (by omega)
      omega
    · have := up_le h (j := j + 1) (k := xs.length - 1) (by omega) (by omega); omega
    · have ha := at_between h hk a1 (by omega)
      have r2 := ri_le hr (j := k) (k := k + 1) (by omega) (by omega)
      rcases Nat.lt_trichotomy k j with c | c | c
      · have := ri_le hr (j := k + 1) (k := j) (by omega) (by omega)
        omega
      · subst c
        rw [at_seg h hk a1 (by omega), at_seg h hk b1 (by omega)]
        exact seg_mono h hk r2 hab
      · have := up_le h (j := j + 1) (k := k) (by omega) (by omega); omega
theorem mx_last {xs ys : List Int} (h : Ok xs ys) (hr : riB ys = true) : mx ys = g ys (ys.length - 1) := by
  have h2 := h.two
  have hs := h.same
  obtain ⟨k, hk, e⟩ := mx_point h
  have a := ri_le hr (j := k) (k := ys.length - 1) (by omega) (by omega)
  have b := y_le_mx h (k := ys.length - 1) (by omega)
  omega

/-! ### back -/

theorem wid_eq {xs ys : List Int} (h : Ok xs ys) : (wid xs : Int) = g xs (xs.length - 1) - g xs 0 := by
  have h2 := h.two
  have := up_le h (j := 0) (k := xs.length - 1) (by omega) (by omega)
  unfold wid; omega
theorem bk_spec {xs ys : List Int} (h : Ok xs ys) (y : Int) : g xs 0 ≤ bkO xs ys y ∧ bkO xs ys y ≤ g xs (xs.length - 1) ∧ (∀ q, g xs 0 ≤ q → q < bkO xs ys y → atO xs ys q < y) ∧ (bkO xs ys y < g xs (xs.length - 1) → y ≤ atO xs ys (bkO xs ys y)) := by
  have hw := wid_eq h
  obtain ⟨a, b, c⟩ := find_range (p := fun i => decide (y ≤ atO xs ys (g xs 0 + (i : Nat)))) (n := wid xs)
  unfold bkO
  refine ⟨by omega, by omega, ?_, ?_⟩
  · intro q q1 q2
    have := b (q - g xs 0).toNat (by omega)
    rw [show g xs 0 + (((q - g xs 0).toNat : Nat) : Int) = q from by omega] at this
    simpa using this
  · intro q
    have := c (by omega)
    simpa using this
theorem bk_unique {xs ys : List Int} (h : Ok xs ys) {y p : Int} (h1 : g xs 0 ≤ p) (h2 : p ≤ g xs (xs.length - 1)) (h3 : ∀ q, g xs 0 ≤ q → q < p → atO xs ys q < y) (h4 : p < g xs (xs.length - 1) → y ≤ atO xs ys p) : bkO xs ys y = p := by
  obtain ⟨a, b, c, d⟩ := bk_spec h y
  rcases Int.lt_trichotomy (bkO xs ys y) p with e | e | e
  · have := h3 _ a e; have := d (by omega); omega
  · exact e
  · have := c p h1 e; have := h4 (by omega); omega
theorem at_lt_prefix {xs ys : List Int} (h : Ok xs ys) {y : Int} {k : Nat} (hk : k < xs.length) (hy : ∀ j, j ≤ k → g ys j < y) {q : Int} (hq : q ≤ g xs k) : atO xs ys q < y := by
  rcases place h q with a | a | ⟨j, hj, a, b⟩
  · rw [at_lo h a]; exact hy 0 (by omega)
  · by_cases e : k = xs.length - 1
    · rw [at_hi h a, ← e]; exact hy k (Nat.le_refl _)
    · have := up_lt h (j := k) (k := xs.length - 1) (by omega) (by omega); omega
  · by_cases e : k ≤ j
    · have := up_le h (j := k) (k := j) e (by omega)
      have : q = g xs j := by omega
      by_cases e2 : k = j
      · subst e2; rw [this, at_point h hk]; exact hy k (Nat.le_refl _)
      · have := up_lt h (j := k) (k := j) (by omega) (by omega); omega
    · have := at_between h hj a (by omega)
      have := hy j (by omega)
      have := hy (j + 1) (by omega)
      omega
theorem bk_first {xs ys : List Int} (h : Ok xs ys) {y : Int} (h0 : y ≤ g ys 0) : bkO xs ys y = g xs 0 := by
  have h2 := h.two
  exact bk_unique h (Int.le_refl _) (up_le h (by omega) (by omega)) (fun q a b => by omega) (fun _ => by rw [at_lo h (Int.le_refl _)]; exact h0)
theorem bk_none {xs ys : List Int} (h : Ok xs ys) {y : Int} (h0 : ∀ j, j < xs.length → g ys j < y) : bkO xs ys y = g xs (xs.length - 1) := by
  have h2 := h.two
  exact bk_unique h (up_le h (by omega) (by omega)) (Int.le_refl _) (fun q _ b => at_lt_prefix h (k := xs.length - 1) (by omega) (fun j hj => h0 j (by omega)) (by omega)) (fun e => by omega)
theorem bk_seg {xs ys : List Int} (h : Ok xs ys) {y p : Int} {k : Nat} (hk : k + 1 < xs.length) (hy : ∀ j, j ≤ k → g ys j < y) (hy1 : y ≤ g ys (k + 1)) (p1 : g xs k < p) (p2 : p ≤ g xs (k + 1)) (s1 : seg xs ys k (p - 1) < y) (s2 : y ≤ seg xs ys k p) : bkO xs ys y = p := by
  have h2 := h.two
  have u0 := up_le h (j := 0) (k := k) (by omega) (by omega)
  have u1 := up_le h (j := k + 1) (k := xs.length - 1) (by omega) (by omega)
  refine bk_unique h (by omega) (by omega) ?_ (fun _ => by rw [at_seg h hk (by omega) p2]; exact s2)
  intro q q1 q2
  by_cases c : q ≤ g xs k
  · exact at_lt_prefix h (by omega) hy c
  · rw [at_seg h hk (by omega) (by omega)]
    have := seg_mono h hk (by have := hy k (Nat.le_refl _); omega) (a := q) (b := p - 1) (by omega)
    omega
/-- What is at the place that Back finds. -/
theorem bk_enough {xs ys : List Int} (h : Ok xs ys) (y : Int) : y ≤ atO xs ys (bkO xs ys y) ∨ (bkO xs ys y = g xs (xs.length - 1) ∧ mx ys < y) := by
  obtain ⟨a, b, c, d⟩ := bk_spec h y
  have h2 := h.two
  by_cases e : y ≤ atO xs ys (bkO xs ys y)
  · exact .inl e
  · right
    have hl : bkO xs ys y = g xs (xs.length - 1) := by
      by_cases f : bkO xs ys y < g xs (xs.length - 1)
      · exact absurd (d f) e
      · omega
    refine ⟨hl, ?_⟩
    obtain ⟨k, hk, e2⟩ := mx_point h
    have p := at_point h hk
    rcases Int.lt_or_le (g xs k) (bkO xs ys y) with f | f
    · have := c _ (up_le h (by omega) hk) f; omega
    · have u := up_le h (j := k) (k := xs.length - 1) (by omega) (by omega)
      have : g xs k = bkO xs ys y := by omega
      rw [this] at p; omega
theorem bk_mono {xs ys : List Int} (h : Ok xs ys) {a b : Int} (hab : a ≤ b) : bkO xs ys a ≤ bkO xs ys b := by
  obtain ⟨a1, a2, a3, a4⟩ := bk_spec h a
  obtain ⟨b1, b2, b3, b4⟩ := bk_spec h b
  rcases Int.lt_or_le (bkO xs ys b) (bkO xs ys a) with e | e
  · have := a3 _ b1 e; have := b4 (by omega); omega
  · exact e

end Tb
