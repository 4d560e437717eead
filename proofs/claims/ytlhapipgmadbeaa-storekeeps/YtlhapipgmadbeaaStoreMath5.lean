/- Plain arithmetic of stores: what the statements of layer 12 ask of the document's rules. No program is named here. -/
import Derived.Test.YtlhapipgmadbeaaStoreMath4
namespace Sp
open Nv

theorem wput_ws_len (m : M) (i w : Int) : (wput m i w).ws.length = m.ws.length := wput_len m i w
theorem writes_len : ∀ (l : List (Nat × Int)) (m : M), (writes m l).2.ws.length = m.ws.length
  | [], m => rfl
  | (i, w) :: l, m => by
    unfold writes
    split
    · rw [writes_len l, wput_len]
    · exact wput_len m _ _
theorem put_len (m : M) (r : R) : (put m r).2.ws.length = m.ws.length := by
  unfold put
  (repeat' split) <;> first | rfl | exact writes_len _ _
theorem rooms_two {m : M} (h : 8 ≤ m.ws.length) : 2 ≤ rooms m := by unfold rooms; omega
theorem free_spec {m : M} (h : 8 ≤ m.ws.length) : free m < rooms m ∧ holds (rooms m) (pl m.ws) (free m) = false := by
  have := first_spec (holds_not (rooms_two h) (pl m.ws))
  exact ⟨this.1, this.2.1⟩
theorem five_in {m : M} (h : 8 ≤ m.ws.length) (r : R) (num : Int) : ∀ x ∈ five (free m) r num, x.1 < m.ws.length := by
  have := (free_spec h).1
  unfold rooms at this
  intro x hx
  simp only [five, List.mem_cons, List.not_mem_nil, or_false] at hx
  rcases hx with rfl | rfl | rfl | rfl | rfl <;> show _ < m.ws.length <;> simp only <;> omega
theorem top_nonneg (m : M) : 0 ≤ top m := most_nonneg _ _
/-- The new place. -/
def new (m : M) (r : R) : Pl := four (top m + 1) (second r) r.cnt (top m + 1)
theorem new_ok {m : M} {r : R} (h : okR r = true) (ht : top m < 2147483648) : (Sp.new m r).good = true ∧ rc (Sp.new m r) = r ∧ (Sp.new m r).num = top m + 1 := four_new h (by have := top_nonneg m; omega) (by omega)
theorem put_Put {m : M} {r : R} (h8 : 8 ≤ m.ws.length) (h : okR r = true) (ht : top m < 2147483648) : Put (rooms m) (pl m.ws) (free m) (Sp.new m r) := by
  obtain ⟨h1, h2, h3⟩ := new_ok (m := m) h ht
  obtain ⟨f1, f2⟩ := free_spec h8
  have hr := of_decide_eq_true h
  have hc := congrArg R.code h2
  refine ⟨rooms_two h8, f1, f2, h1, fun k hk hg => ?_, fun i _ hg => pl_code m.ws i hg, ?_⟩
  · rw [h3]; have := most_ge (pl m.ws) (rooms m) k hk hg; unfold top; omega
  · simp only [rc] at hc; rw [hc]; omega
theorem put_done {m : M} {r : R} (h8 : 8 ≤ m.ws.length) (h : okR r = true) (ht : top m < 2147483648) (hg : m.gone = false) (hl : m.left < 0 ∨ 5 ≤ m.left) :
    (put m r).1 = 0 ∧ pl (put m r).2.ws = upd (pl m.ws) (free m) (Sp.new m r) ∧ (put m r).2.gone = false := by
  have e : put m r = writes m (five (free m) r (top m + 1)) := by
    unfold put
    rw [if_neg (by simp [h]), if_neg (by simp [hg]), if_neg (by omega)]
  rw [e]
  obtain ⟨h1, h2, h3⟩ := writes_all (five (free m) r (top m + 1)) m hg (five_in h8 r _) (by simpa [five] using hl)
  refine ⟨h1, ?_, h3⟩
  rw [h2]
  funext i
  have := (free_spec h8).1
  exact pl_whole m.ws (free m) r (top m + 1) (by unfold rooms at this; omega) i
theorem put_cut {m : M} {r : R} (h8 : 8 ≤ m.ws.length) (h : okR r = true) (ht : top m < 2147483648) (hg : m.gone = false) {c : Nat} (hl : m.left = c) (hc : c < 5) :
    (put m r).1 = 110 ∧ (pl (put m r).2.ws = pl m.ws ∨ ∃ p : Pl, p.good = false ∧ pl (put m r).2.ws = upd (pl m.ws) (free m) p) := by
  have e : put m r = writes m (five (free m) r (top m + 1)) := by
    unfold put
    rw [if_neg (by simp [h]), if_neg (by simp [hg]), if_neg (by omega)]
  rw [e]
  obtain ⟨h1, h2⟩ := writes_cut (five (free m) r (top m + 1)) m c hg (five_in h8 r _) hl (by simpa [five] using hc)
  refine ⟨h1, ?_⟩
  rw [h2]
  by_cases h0 : c = 0
  · subst h0; exact .inl rfl
  · have := (free_spec h8).1
    obtain ⟨p, hp, he⟩ := pl_part m.ws (free m) r (top m + 1) (by unfold rooms at this; omega) c (by omega) (by omega)
    exact .inr ⟨p, hp, funext he⟩
theorem put_no {m : M} {r : R} (h : okR r = false) : put m r = (1, m) := by unfold put; rw [if_pos h]

/-- No good place has a number above K. -/
def Low (m : M) (K : Int) : Prop := ∀ i, i < rooms m → (pl m.ws i).good = true → (pl m.ws i).num ≤ K
theorem Low.top {m : M} {K : Int} (h : Low m K) (hK : 0 ≤ K) : top m ≤ K := most_le hK _ h
theorem low_zeros (n : Nat) : Low (Nv.new n) 0 := by
  intro i _ hg
  have := pl_num _ i hg
  have z : ∀ k, (Nv.new n).ws.getD k 0 = 0 := fun k => by
    simp only [Nv.new, zeros, List.getD_eq_getElem?_getD, List.getElem?_replicate]
    split <;> rfl
  have : (pl (Nv.new n).ws i).num = 0 := z _
  omega
theorem low_upd {m m' : M} {K : Int} {a : Nat} {p : Pl} (h : Low m K) (hr : rooms m' = rooms m) (he : pl m'.ws = upd (pl m.ws) a p) (hp : p.good = true → p.num ≤ K + 1) : Low m' (K + 1) := by
  intro i hi hg
  rw [he] at hg ⊢
  by_cases e : i = a
  · subst e; rw [upd_same] at hg ⊢; exact hp hg
  · rw [upd_other _ _ e] at hg ⊢; have := h i (hr ▸ hi) hg; omega

/-! ### writes, one by one -/
theorem writes_step : ∀ (L : List (Nat × Int)) (m : M) (k i : Nat) (w : Int), (writes m (L.take k)).1 = 0 → L[k]? = some (i, w) →
    (werr (writes m (L.take k)).2 i = 0 → writes m (L.take (k + 1)) = (0, wput (writes m (L.take k)).2 i w)) ∧
    (werr (writes m (L.take k)).2 i ≠ 0 → writes m L = (werr (writes m (L.take k)).2 i, wput (writes m (L.take k)).2 i w))
  | [], _, _, _, _, _, h => by simp at h
  | (j, x) :: L, m, 0, i, w, _, h => by
    simp only [List.getElem?_cons_zero, Option.some.injEq, Prod.mk.injEq] at h
    obtain ⟨rfl, rfl⟩ := h
    simp only [List.take_zero, List.take_succ_cons]
    constructor
    · intro e
      have e' : werr m j = 0 := e
      simp only [writes, e', if_true]
    · intro e
      have e' : werr m j ≠ 0 := e
      simp only [writes, if_neg e']
  | (j, x) :: L, m, k + 1, i, w, h0, h => by
    simp only [List.take_succ_cons] at h0 ⊢
    by_cases e : werr m j = 0
    · simp only [writes, e, if_true] at h0 ⊢
      exact writes_step L (wput m j x) k i w h0 (by simpa using h)
    · simp only [writes, if_neg e] at h0
      exact absurd h0 e
theorem wput_more (m : M) (i w : Int) : (wput m i w).left ≤ max m.left 0 ∧ m.many ≤ (wput m i w).many ∧ (wput m i w).many ≤ m.many + 1 := by
  unfold wput
  (repeat' split) <;> (try simp only) <;> omega
theorem writes_more : ∀ (L : List (Nat × Int)) (m : M), (writes m L).2.left ≤ max m.left 0 ∧ m.many ≤ (writes m L).2.many ∧ (writes m L).2.many ≤ m.many + L.length
  | [], m => by show m.left ≤ _ ∧ m.many ≤ m.many ∧ m.many ≤ _; simp; omega
  | (i, w) :: L, m => by
    have h1 := wput_more m i w
    simp only [List.length_cons]
    unfold writes
    split
    · have h2 := writes_more L (wput m i w)
      omega
    · simp only
      omega

/-! ### cuts -/
structure CI (n : Nat) (K : Int) (m o : M) : Prop where
  lm : m.ws.length = n
  lo : o.ws.length = n
  gm : m.gone = false
  go : o.gone = false
  ol : o.left < 0
  sim : Sim (n / 4) (pl m.ws) (pl o.ws)
  tm : Low m K
  to : Low o K
theorem CI.start (n : Nat) : CI n 0 (Nv.new n) (Nv.new n) := ⟨by simp [Nv.new, zeros], by simp [Nv.new, zeros], rfl, rfl, by simp [Nv.new], Sim.refl _ _, low_zeros n, low_zeros n⟩
theorem rooms_eq {m : M} {n : Nat} (h : m.ws.length = n) : rooms m = n / 4 := by unfold rooms; rw [h]
theorem CI.same {n : Nat} {K : Int} {m o : M} (h : CI n K m o) : told m = told o := by
  unfold Sp.told
  rw [h.gm, h.go, rooms_eq h.lm, rooms_eq h.lo]
  simp only [Bool.false_eq_true, if_false]
  exact h.sim.recs
theorem told_eq {m : M} (h : m.gone = false) : told m = recs (rooms m) (pl m.ws) := by unfold told; rw [if_neg (by simp [h])]
theorem put_left : ∀ (l : List (Nat × Int)) (m : M), m.left < 0 → (writes m l).2.left < 0
  | [], _, h => h
  | (i, w) :: l, m, h => by
    have : (wput m i w).left < 0 := by
      unfold wput
      (repeat' split) <;> first | exact h | (show m.left - 1 < 0; omega)
    unfold writes
    split
    · exact put_left l _ this
    · exact this
theorem put_left' {m : M} (r : R) (h : m.left < 0) : (put m r).2.left < 0 := by
  unfold put
  (repeat' split) <;> first | exact h | exact put_left _ _ h
/-- A record that is put while the power may go, and both stores behind it. -/
theorem CI.step {n : Nat} {K : Int} {m o : M} (h8 : 8 ≤ n) (h0 : 0 ≤ K) (hK : K < 2147483647) (h : CI n K m o) (c : Nat) (r : R) :
    ((put (arm m c) r).1 ≠ 0 → told (up (put (arm m c) r).2) = told m ∧ CI n (K + 1) (up (put (arm m c) r).2) o) ∧
    ((put (arm m c) r).1 = 0 → (put o r).1 = 0 ∧ CI n (K + 1) (up (put (arm m c) r).2) (put o r).2) := by
  have more : CI n (K + 1) m o := ⟨h.lm, h.lo, h.gm, h.go, h.ol, h.sim, fun i hi hg => by have := h.tm i hi hg; omega, fun i hi hg => by have := h.to i hi hg; omega⟩
  have ha : arm m c = { m with left := c } := by simp [arm, h.gm]; omega
  have hroom : rooms (arm m c) = rooms m := by rw [ha]; rfl
  have hfree : free (arm m c) = free m := by rw [ha]; rfl
  have htop : top (arm m c) = top m := by rw [ha]; rfl
  have hws : (arm m c).ws = m.ws := by rw [ha]
  cases hr : okR r with
  | false =>
    rw [put_no (m := arm m c) hr]
    refine ⟨fun _ => ⟨?_, ?_⟩, fun e => by cases e⟩
    · rw [told_eq (m := up (arm m c)) rfl, told_eq h.gm]
      show recs (rooms (arm m c)) (pl (arm m c).ws) = _
      rw [hroom, hws]
    · refine ⟨by show (arm m c).ws.length = n; rw [hws, h.lm], h.lo, rfl, h.go, h.ol, ?_, ?_, more.to⟩
      · show Sim _ (pl (arm m c).ws) _
        rw [hws]; exact h.sim
      · show Low (arm m c) _
        intro i hi hg
        rw [hws] at hg ⊢
        exact more.tm i (hroom ▸ hi) hg
  | true =>
    have h8m : 8 ≤ (arm m c).ws.length := by rw [hws, h.lm]; exact h8
    have h8o : 8 ≤ o.ws.length := by rw [h.lo]; exact h8
    have htm : top (arm m c) < 2147483648 := by rw [htop]; have := h.tm.top h0; omega
    have hto : top o < 2147483648 := by have := h.to.top h0; omega
    have hgm : (arm m c).gone = false := by rw [ha]; exact h.gm
    have hlen : (put (arm m c) r).2.ws.length = n := by rw [put_len, hws, h.lm]
    have f1 := free_spec h8m
    rw [hroom, hfree, hws] at f1
    have eP : rooms m = n / 4 := rooms_eq h.lm
    have eQ : rooms o = n / 4 := rooms_eq h.lo
    by_cases hc : c < 5
    · obtain ⟨p1, p2⟩ := put_cut h8m hr htm hgm (c := c) (by rw [ha]) hc
      rw [hfree, hws] at p2
      have key : Sim (n / 4) (pl (put (arm m c) r).2.ws) (pl o.ws) ∧ Low (up (put (arm m c) r).2) (K + 1) ∧ recs (n / 4) (pl (put (arm m c) r).2.ws) = recs (n / 4) (pl m.ws) := by
        rcases p2 with p2 | ⟨p, hp, p2⟩
        · refine ⟨by rw [p2]; exact h.sim, ?_, by rw [p2]⟩
          intro i hi hg
          have : (pl (put (arm m c) r).2.ws i).good = true := hg
          rw [p2] at this
          have hi' : i < rooms m := by have : i < rooms (up (put (arm m c) r).2) := hi; rw [rooms_eq (m := up (put (arm m c) r).2) hlen] at this; omega
          have := h.tm i hi' this
          show (pl (put (arm m c) r).2.ws i).num ≤ _
          rw [p2]; omega
        · rw [eP] at f1
          have s2 := Sim.bad (by omega) (Sim.refl (n / 4) (pl m.ws)) f1.1 f1.2 hp
          refine ⟨by rw [p2]; exact Sim.bad (by omega) h.sim f1.1 f1.2 hp, low_upd h.tm ((rooms_eq (m := up (put (arm m c) r).2) hlen).trans eP.symm) p2 (fun e => by rw [hp] at e; cases e), by rw [p2]; exact s2.recs⟩
      refine ⟨fun _ => ⟨?_, ?_⟩, fun e => by rw [p1] at e; cases e⟩
      · rw [told_eq (m := up (put (arm m c) r).2) rfl, told_eq h.gm]
        rw [rooms_eq (m := up (put (arm m c) r).2) hlen, eP]
        exact key.2.2
      · exact ⟨hlen, h.lo, rfl, h.go, h.ol, key.1, key.2.1, more.to⟩
    · obtain ⟨p1, p2, p3⟩ := put_done h8m hr htm hgm (.inr (by rw [ha]; show (5:Int) ≤ c; omega))
      obtain ⟨q1, q2, q3⟩ := put_done h8o hr hto h.go (.inl h.ol)
      refine ⟨fun e => absurd p1 e, fun _ => ⟨q1, ?_⟩⟩
      have P1 := put_Put h8m hr htm
      have P2 := put_Put h8o hr hto
      rw [hroom, hfree, hws, eP] at P1
      rw [eQ] at P2
      have hf : free o = free m := by unfold free; rw [eP, eQ]; exact (Sim.first (by omega) h.sim).symm
      rw [hf] at P2 q2
      rw [hfree, hws] at p2
      have n1 := new_ok (m := arm m c) hr htm
      have n2 := new_ok (m := o) hr hto
      refine ⟨hlen, by rw [put_len, h.lo], rfl, q3, put_left' r h.ol, ?_, ?_, ?_⟩
      · show Sim (n / 4) (pl (put (arm m c) r).2.ws) _
        rw [p2, q2]
        exact h.sim.put P1.lt P1.free P1.good P2.good (n1.2.1.trans n2.2.1.symm) P1.top P2.top
      · exact low_upd h.tm ((rooms_eq (m := up (put (arm m c) r).2) hlen).trans eP.symm) p2 (fun _ => by rw [n1.2.2, htop]; have := h.tm.top h0; omega)
      · exact low_upd h.to ((rooms_eq (m := (put o r).2) (by rw [put_len, h.lo])).trans eQ.symm) q2 (fun _ => by rw [n2.2.2]; have := h.to.top h0; omega)
end Sp
