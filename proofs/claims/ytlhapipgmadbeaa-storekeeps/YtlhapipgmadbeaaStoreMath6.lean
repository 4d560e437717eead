/- Plain arithmetic of stores: what StoreKeeps and StoreTwice ask of the document's rules. No program is named here. -/
import Derived.Test.YtlhapipgmadbeaaStoreMath5
namespace Sp
open Nv

theorem recs_count {P : Nat} {l : Nat → Pl} (hc : ∀ i, i < P → (l i).good = true → 1 ≤ (l i).code ∧ (l i).code ≤ 255) (q : R → Bool) : (recs P l).countP q = cnt P (fun i => holds P l i && q (rc (l i))) := by
  have key : ∀ n : Nat, ((List.range n).flatMap fun c : Nat => ((List.range P).filter fun i => holds P l i && decide ((l i).code = (c : Int) + 1)).map fun i => rc (l i)).countP q = cnt P (fun i => (holds P l i && q (rc (l i))) && decide (1 ≤ (l i).code ∧ (l i).code ≤ (n : Int))) := by
    intro n
    induction n with
    | zero =>
      have : cnt P (fun i => (holds P l i && q (rc (l i))) && decide (1 ≤ (l i).code ∧ (l i).code ≤ ((0 : Nat) : Int))) = cnt P (fun _ => false) := cnt_congr fun i _ => by
        have : ¬ (1 ≤ (l i).code ∧ (l i).code ≤ ((0 : Nat) : Int)) := by omega
        simp only [this]; simp
      rw [this]
      simp [cnt]
    | succ n ih =>
      rw [List.range_succ, List.flatMap_append, List.countP_append, ih, List.flatMap_cons, List.flatMap_nil, List.append_nil, List.countP_map, List.countP_filter]
      refine (cnt_or (fun i _ => ?_) (fun i _ => ?_)).symm
      · show _ = (((holds P l i && q (rc (l i))) && decide (1 ≤ (l i).code ∧ (l i).code ≤ (n : Int))) || (q (rc (l i)) && (holds P l i && decide ((l i).code = (n : Int) + 1))))
        cases holds P l i with
        | false => simp
        | true =>
          cases q (rc (l i)) with
          | false => rfl
          | true =>
            simp only [Bool.true_and]
            rw [← Bool.decide_or]
            exact decide_eq_decide.2 (by omega)
      · show (((holds P l i && q (rc (l i))) && decide (1 ≤ (l i).code ∧ (l i).code ≤ (n : Int))) && (q (rc (l i)) && (holds P l i && decide ((l i).code = (n : Int) + 1)))) = false
        cases holds P l i with
        | false => rfl
        | true =>
          cases q (rc (l i)) with
          | false => rfl
          | true =>
            simp only [Bool.true_and]
            rw [← Bool.decide_and]
            exact decide_eq_false (by omega)
  show ((List.range 255).flatMap _).countP q = _
  rw [key 255]
  refine cnt_congr fun i hi => ?_
  cases h : holds P l i with
  | false => rfl
  | true =>
    have := hc i hi (holds_good h)
    simp only [Bool.true_and]
    rw [decide_eq_true (by omega : 1 ≤ (l i).code ∧ (l i).code ≤ ((255 : Nat) : Int)), Bool.and_true]

/-- A store of a memory whose power never goes. -/
structure KI (n : Nat) (K : Int) (m : M) : Prop where
  len : m.ws.length = n
  gone : m.gone = false
  left : m.left < 0
  low : Low m K
theorem KI.start (n : Nat) : KI n 0 (Nv.new n) := ⟨by simp [Nv.new, zeros], rfl, by simp [Nv.new], low_zeros n⟩
theorem codes_pl (m : M) : ∀ i, i < rooms m → (pl m.ws i).good = true → 1 ≤ (pl m.ws i).code ∧ (pl m.ws i).code ≤ 255 := fun i _ h => pl_code m.ws i h
section
variable {n : Nat} {K : Int} {m : M} {r : R}
theorem told_rise (m : M) : (told m).Pairwise fun a b => a.code < b.code := by
  unfold told
  split
  · exact List.Pairwise.nil
  · exact recs_rise _ _
theorem KI.told_len (h : KI n K m) (h8 : 8 ≤ n) : (told m).length ≤ n / 4 - 1 := by
  rw [told_eq h.gone, recs_length (codes_pl m), rooms_eq h.len]
  exact holds_cnt (by omega) _
/-- Behind a record that was put. -/
theorem KI.put (h : KI n K m) (h8 : 8 ≤ n) (h0 : 0 ≤ K) (hK : K < 2147483647) (hr : okR r = true) :
    (Sp.put m r).1 = 0 ∧ KI n (K + 1) (Sp.put m r).2 ∧ Put (rooms m) (pl m.ws) (free m) (Sp.new m r) ∧ pl (Sp.put m r).2.ws = upd (pl m.ws) (free m) (Sp.new m r) ∧ rooms (Sp.put m r).2 = rooms m ∧ rc (Sp.new m r) = r := by
  have ht : top m < 2147483648 := by have := h.low.top h0; omega
  have h8m : 8 ≤ m.ws.length := by rw [h.len]; exact h8
  obtain ⟨p1, p2, p3⟩ := put_done h8m hr ht h.gone (.inl h.left)
  have n1 := new_ok (m := m) hr ht
  have hl : (Sp.put m r).2.ws.length = n := by rw [put_len, h.len]
  have er : rooms (Sp.put m r).2 = rooms m := by rw [rooms_eq hl, rooms_eq h.len]
  exact ⟨p1, ⟨hl, p3, put_left' r h.left, low_upd h.low er p2 (fun _ => by rw [n1.2.2]; have := h.low.top h0; omega)⟩, put_Put h8m hr ht, p2, er, n1.2.1⟩
/-- What StoreKeeps asks of it. -/
theorem KI.keeps (h : KI n K m) (h8 : 8 ≤ n) (h0 : 0 ≤ K) (hK : K < 2147483647) (hr : okR r = true) :
    (told m).length ≤ (told (Sp.put m r).2).length ∧ ((r.lat = true ∨ (told m).countP (fun x => x.lat) < n / 4 - 1) → r ∈ told (Sp.put m r).2) ∧
    (r.lat = true → (∃ y ∈ told (Sp.put m r).2, y.lat = false) → ∀ x ∈ told m, x.lat = true → x ∈ told (Sp.put m r).2 ∨ (r.code = x.code ∧ r ∈ told (Sp.put m r).2)) := by
  obtain ⟨_, hk, hP, he, hro, hrc⟩ := h.put h8 h0 hK hr
  have eP := rooms_eq h.len
  rw [told_eq hk.gone, told_eq h.gone, hro, he]
  have cl := codes_pl m
  have cu := hP.codes
  have hlat : (Sp.new m r).lat = r.lat := congrArg R.lat hrc
  have hcode : (Sp.new m r).code = r.code := congrArg R.code hrc
  have mem_a : holds (rooms m) (upd (pl m.ws) (free m) (Sp.new m r)) (free m) = true → r ∈ recs (rooms m) (upd (pl m.ws) (free m) (Sp.new m r)) := fun hh => (recs_mem cu r).2 ⟨free m, hP.lt, hh, by rw [upd_same, hrc]⟩
  refine ⟨?_, fun hx => mem_a (hP.there ?_), fun hl hn x hx hxl => ?_⟩
  · rw [recs_length cl, recs_length cu]; exact hP.cnt_ge
  · rcases hx with hx | hx
    · exact .inl (hlat.trans hx)
    · right
      rw [recs_count cl] at hx
      rw [eP]
      rw [eP] at hx
      exact hx
  · obtain ⟨y, hy, hyl⟩ := hn
    obtain ⟨j, hj, hjh, hjr⟩ := (recs_mem cu y).1 hy
    obtain ⟨i, hi, hih, hir⟩ := (recs_mem cl x).1 hx
    rcases hP.stays (hlat.trans hl) ⟨j, hj, hjh, by rw [← hjr] at hyl; exact hyl⟩ hi hih (by rw [← hir] at hxl; exact hxl) with ⟨k, hk1, hk2, hk3⟩ | ⟨hk1, hk2⟩
    · exact .inl ((recs_mem cu x).2 ⟨k, hk1, hk2, hk3.trans hir⟩)
    · right
      rw [hcode] at hk1
      exact ⟨by rw [← hir]; exact hk1.symm, mem_a hk2⟩

/-! ### twice -/
theorem code_asym (a b : R) : a.code < b.code → ¬ b.code < a.code := by omega
/-- Behind a record that was put where there is room: it, and those of other codes. -/
theorem KI.mem (h : KI n K m) (h8 : 8 ≤ n) (h0 : 0 ≤ K) (hK : K < 2147483647) (hr : okR r = true) (hroom : (told m).length + 1 < n / 4) (x : R) :
    x ∈ told (Sp.put m r).2 ↔ x = r ∨ (x ∈ told m ∧ x.code ≠ r.code) := by
  obtain ⟨_, hk, hP, he, hro, hrc⟩ := h.put h8 h0 hK hr
  have eP := rooms_eq h.len
  have hcode : (Sp.new m r).code = r.code := congrArg R.code hrc
  rw [told_eq h.gone, recs_length (codes_pl m)] at hroom
  rw [told_eq hk.gone, told_eq h.gone, hro, he, recs_mem hP.codes, recs_mem (codes_pl m)]
  have hh := hP.room (by rw [eP] at hroom ⊢; exact hroom)
  constructor
  · rintro ⟨i, hi, h1, h2⟩
    rw [hh i hi] at h1
    by_cases e : i = free m
    · subst e
      rw [upd_same, hrc] at h2
      exact .inl h2.symm
    · rw [if_neg e, Bool.and_eq_true, decide_eq_true_eq] at h1
      rw [upd_other _ _ e] at h2
      exact .inr ⟨⟨i, hi, h1.1, h2⟩, by rw [← h2]; rw [hcode] at h1; exact h1.2⟩
  · rintro (rfl | ⟨⟨i, hi, h1, h2⟩, h3⟩)
    · exact ⟨free m, hP.lt, by rw [hh _ hP.lt, if_pos rfl], by rw [upd_same, hrc]⟩
    · have hia : i ≠ free m := fun e => by subst e; rw [hP.free] at h1; cases h1
      refine ⟨i, hi, ?_, by rw [upd_other _ _ hia]; exact h2⟩
      rw [hh i hi, if_neg hia, h1, hcode]
      rw [← h2] at h3
      simpa [rc] using h3
/-- Codes of a list that rises, as a list that rises. -/
theorem codes_ext {a b : List R} (ha : a.Pairwise fun x y => x.code < y.code) (hb : b.Pairwise fun x y => x.code < y.code) (h : ∀ c, (∃ x ∈ a, x.code = c) ↔ ∃ x ∈ b, x.code = c) : a.length = b.length := by
  have : a.map R.code = b.map R.code := rise_ext (r := fun x y : Int => x < y) (fun _ _ h => by omega) (List.pairwise_map.2 ha) (List.pairwise_map.2 hb) (fun c => by simpa using h c)
  have := congrArg List.length this
  simpa using this
/-- No more than one record more. -/
theorem len_more {a b : List R} {c : Int} (ha : a.Pairwise fun x y => x.code < y.code) (hb : b.Pairwise fun x y => x.code < y.code) (h : ∀ x ∈ a, x.code = c ∨ ∃ y ∈ b, y.code = x.code) : a.length ≤ b.length + 1 := by
  -- the codes of a, but for c, are codes of b
  have key : ∀ (p q : List Int), p.Pairwise (· < ·) → q.Pairwise (· < ·) → (∀ x ∈ p, x ∈ q) → p.length ≤ q.length := by
    intro p q hp hq hx
    have : p.Sublist q := by
      induction q generalizing p with
      | nil =>
        cases p with
        | nil => exact List.Sublist.slnil
        | cons x p => have := hx x (by simp); cases this
      | cons y q ih =>
        rw [List.pairwise_cons] at hq
        cases p with
        | nil => exact List.nil_sublist _
        | cons x p =>
          rw [List.pairwise_cons] at hp
          have h1 := hx x (by simp)
          rw [List.mem_cons] at h1
          rcases h1 with e | h1
          · subst e
            refine List.Sublist.cons_cons _ (ih p hp.2 hq.2 fun z hz => ?_)
            have h2 := hx z (by simp [hz])
            rw [List.mem_cons] at h2
            rcases h2 with e | h2
            · subst e; have := hp.1 _ hz; omega
            · exact h2
          · refine List.Sublist.cons _ (ih (x :: p) (List.pairwise_cons.2 hp) hq.2 fun z hz => ?_)
            have h2 := hx z hz
            rw [List.mem_cons] at h2 hz
            rcases h2 with e | h2
            · subst e
              rcases hz with e | hz
              · subst e; exact h1
              · have := hp.1 _ hz; have := hq.1 _ h1; omega
            · exact h2
    exact this.length_le
  have p1 := List.pairwise_map (f := R.code) (R := fun x y : Int => x < y) |>.2 ha
  have p2 := List.pairwise_map (f := R.code) (R := fun x y : Int => x < y) |>.2 hb
  have p3 := List.Pairwise.filter (fun x => decide (x ≠ c)) p1
  have h4 := key _ _ p3 p2 fun x hx => by
    simp only [List.mem_filter, List.mem_map, decide_eq_true_eq] at hx ⊢
    obtain ⟨⟨y, hy, rfl⟩, hne⟩ := hx
    rcases h y hy with e | e
    · exact absurd e hne
    · exact e
  have h5 : (a.map R.code).length ≤ ((a.map R.code).filter fun x => decide (x ≠ c)).length + 1 := by
    have : ∀ p : List Int, p.Pairwise (· < ·) → p.length ≤ (p.filter fun x => decide (x ≠ c)).length + 1 := by
      intro p hp
      induction p with
      | nil => simp
      | cons x p ih =>
        rw [List.pairwise_cons] at hp
        by_cases e : x = c
        · subst e
          rw [List.filter_cons_of_neg (by simp), List.filter_eq_self.2 fun z hz => by have := hp.1 z hz; simp; omega]
          simp
        · rw [List.filter_cons_of_pos (by simp [e])]
          have := ih hp.2
          simp only [List.length_cons]; omega
    exact this _ p1
  simp only [List.length_map] at h4 h5
  omega
/-- What StoreTwice asks of it. -/
theorem KI.twice (h : KI n K m) (h8 : 8 ≤ n) (h0 : 0 ≤ K) (hK : K < 2147483000) (hr : okR r = true) {r' : R} (hr' : okR r' = true) (hc : r'.code = r.code) (hroom : (told m).length + 2 < n / 4) :
    told (Sp.put (Sp.put m r).2 r).2 = told (Sp.put m r).2 ∧ (told (Sp.put (Sp.put (Sp.put m r).2 r).2 r').2).length = (told (Sp.put m r).2).length ∧ r' ∈ told (Sp.put (Sp.put (Sp.put m r).2 r).2 r').2 ∧ (told (Sp.put m r).2).length ≤ (told m).length + 1 := by
  obtain ⟨_, k1, _⟩ := h.put h8 h0 (by omega) hr
  have m1 := h.mem h8 h0 (by omega) hr (by omega)
  have l1 : (told (Sp.put m r).2).length ≤ (told m).length + 1 := len_more (c := r.code) (told_rise _) (told_rise _) fun x hx => by
    rcases (m1 x).1 hx with e | ⟨e, _⟩
    · exact .inl (by rw [e])
    · exact .inr ⟨x, e, rfl⟩
  obtain ⟨_, k2, _⟩ := k1.put h8 (by omega) (by omega) hr
  have m2 := k1.mem h8 (by omega) (by omega) hr (by omega)
  have e2 : told (Sp.put (Sp.put m r).2 r).2 = told (Sp.put m r).2 := rise_ext code_asym (told_rise _) (told_rise _) fun x => by
    rw [m2, m1]
    constructor
    · rintro (e | ⟨e | e, e'⟩)
      · exact .inl e
      · exact .inl e
      · exact .inr e
    · rintro (e | e)
      · exact .inl e
      · exact .inr ⟨.inr e, e.2⟩
  have m3 := k2.mem (r := r') h8 (by omega) (by omega) hr' (by rw [e2]; omega)
  refine ⟨e2, ?_, (m3 r').2 (.inl rfl), l1⟩
  refine codes_ext (told_rise _) (told_rise _) fun c => ?_
  constructor
  · rintro ⟨x, hx, rfl⟩
    rcases (m3 x).1 hx with e | ⟨e, _⟩
    · exact ⟨r, (m1 r).2 (.inl rfl), by rw [e, hc]⟩
    · exact ⟨x, by rw [← e2]; exact e, rfl⟩
  · rintro ⟨x, hx, rfl⟩
    by_cases e : x.code = r'.code
    · exact ⟨r', (m3 r').2 (.inl rfl), e.symm⟩
    · exact ⟨x, (m3 x).2 (.inr ⟨by rw [e2]; exact hx, e⟩), rfl⟩

/-! ### clear -/
theorem apply_first (ws : List Int) : ∀ k, 4 * k ≤ ws.length → ∀ j, j < k → (apply ws ((List.range k).map fun i => (4 * i, (0 : Int)))).getD (4 * j) 0 = 0
  | 0, _, j, hj => by omega
  | k + 1, hk, j, hj => by
    have : apply ws ((List.range (k + 1)).map fun i => (4 * i, (0 : Int))) = (apply ws ((List.range k).map fun i => (4 * i, (0 : Int)))).set (4 * k) 0 := by
      unfold apply
      rw [List.range_succ, List.map_append, List.foldl_append]
      rfl
    rw [this, getD_set _ _ _ (by rw [apply_len]; omega)]
    by_cases e : j = k
    · subst e; simp
    · rw [if_neg (by omega)]; exact apply_first ws k (by omega) j (by omega)
theorem KI.clear (h : KI n K m) : (Sp.clear m).1 = 0 ∧ told (Sp.clear m).2 = [] := by
  have e : Sp.clear m = writes m ((List.range (rooms m)).map fun i => (4 * i, 0)) := by unfold Sp.clear; rw [if_neg (by simp [h.gone])]
  have hr : 4 * rooms m ≤ m.ws.length := by unfold rooms; omega
  obtain ⟨h1, h2, h3⟩ := writes_all ((List.range (rooms m)).map fun i => (4 * i, 0)) m h.gone (fun x hx => by
    simp only [List.mem_map, List.mem_range] at hx
    obtain ⟨i, hi, rfl⟩ := hx
    show 4 * i < _; omega) (.inl h.left)
  rw [e]
  refine ⟨h1, ?_⟩
  have hro : rooms (writes m ((List.range (rooms m)).map fun i => (4 * i, 0))).2 = rooms m := by unfold rooms; rw [writes_len]
  rw [told_eq h3, hro, h2]
  refine List.eq_nil_iff_forall_not_mem.2 fun x hx => ?_
  obtain ⟨i, hi, hh, _⟩ := (recs_mem (fun i _ hg => pl_code _ i hg) x).1 hx
  have hg := holds_good hh
  have := pl_num _ i hg
  have z : (pl (apply m.ws ((List.range (rooms m)).map fun i => (4 * i, (0 : Int)))) i).num = 0 := apply_first m.ws (rooms m) hr i hi
  omega
end
end Sp
