/- The program's store: which places hold, as a map by code; the laws of that map at the walk's operations. -/
import Derived.Test.YtlhapipgmadbeaaStoreP2
import Derived.Maps.RangeWalk
import Derived.Maps.OwnSet
namespace Go.Proofs.Ytlhapipgmadbeaa
namespace Sq
open Go.RowKit Nv Nw Sp Lk
open Go.Maps (Keyed)

/-- What is so of each good place. -/
def Okp (l : Nat → Pl) : Prop := ∀ i, (l i).good = true → 1 ≤ (l i).num ∧ (l i).num ≤ 2147483648 ∧ 1 ≤ (l i).code ∧ (l i).code ≤ 255
theorem okp_pl (ws : List Int) : Okp (pl ws) := fun i h => ⟨(pl_num ws i h).1, (pl_num ws i h).2, (pl_code ws i h).1, (pl_code ws i h).2⟩
abbrev key (l : Nat → Pl) (i : Nat) : Lit := .int .i64 (l i).code
theorem key_wf {l : Nat → Pl} (hl : Okp l) {i : Nat} (hg : (l i).good = true) : (Lit.int .i64 (l i).code).wf = true := by
  have := hl i hg
  exact WalkArith.wf_i64 (by omega)
theorem law : Keyed Try.prog 3 := Maps.int_keyed Try.underlying3
theorem key_of {l : Nat → Pl} (hl : Okp l) {i : Nat} (hg : (l i).good = true) : keyOf Try.prog 3 (.int .i64 (l i).code) = some (key l i) := Maps.keyOf_int_mk Try.underlying3 (key_wf hl hg)
theorem key_inj {l : Nat → Pl} {i j : Nat} (h : key l i = key l j) : (l i).code = (l j).code := by injection h
theorem key_ne {l : Nat → Pl} {i j : Nat} (h : (l i).code ≠ (l j).code) : key l i ≠ key l j := fun e => h (key_inj e)

open Classical in
/-- How an element of the map reads: as the place that it is. -/
noncomputable def rdr (P : Nat) (l : Nat → Pl) (v : Value) : Option (DataW Unit × List MemPlace) :=
  if v = .agg (pcs 0 zero) then some (.lit (.bool false), []) else if h : ∃ i : Nat, i < P ∧ (l i).good = true ∧ v = .agg (pcs i (l i)) then some (.lit (.int .i64 (h.choose : Nat)), []) else none
theorem pcs_ne {l : Nat → Pl} (hl : Okp l) {i : Nat} (hg : (l i).good = true) : Value.agg (pcs i (l i)) ≠ .agg (pcs 0 zero) := by
  intro h
  have h2 : pcs i (l i) = pcs 0 zero := by injection h
  have h3 := congrArg (fun a : Array Value => a[1]?) h2
  simp [zero] at h3
  have := (hl i hg).1
  omega
theorem pcs_inj {p q : Pl} {i j : Nat} (h : Value.agg (pcs i p) = .agg (pcs j q)) : i = j := by
  have h2 : pcs i p = pcs j q := by injection h
  have h3 := congrArg (fun a : Array Value => a[0]?) h2
  simp at h3
  omega
theorem rdr_zero (P : Nat) (l : Nat → Pl) : rdr P l (.agg (pcs 0 zero)) = some (.lit (.bool false), []) := by unfold rdr; rw [if_pos rfl]
theorem rdr_mk {P : Nat} {l : Nat → Pl} (hl : Okp l) {i : Nat} (hi : i < P) (hg : (l i).good = true) : rdr P l (.agg (pcs i (l i))) = some (.lit (.int .i64 i), []) := by
  unfold rdr
  rw [if_neg (pcs_ne hl hg)]
  have h : ∃ j : Nat, j < P ∧ (l j).good = true ∧ Value.agg (pcs i (l i)) = .agg (pcs j (l j)) := ⟨i, hi, hg, rfl⟩
  rw [dif_pos h]
  have := h.choose_spec.2.2
  rw [← pcs_inj this]
theorem rdr_inv {P : Nat} {l : Nat → Pl} {v : Value} {y : DataW Unit × List MemPlace} (h : rdr P l v = some y) :
    (v = .agg (pcs 0 zero) ∧ y.1 = .lit (.bool false)) ∨ ∃ i : Nat, i < P ∧ (l i).good = true ∧ v = .agg (pcs i (l i)) ∧ y.1 = .lit (.int .i64 i) := by
  unfold rdr at h
  split at h
  · rename_i e
    injection h with h
    subst h
    exact .inl ⟨e, rfl⟩
  · split at h
    · rename_i e
      injection h with h
      subst h
      exact .inr ⟨_, e.choose_spec.1, e.choose_spec.2.1, e.choose_spec.2.2, rfl⟩
    · cases h

/-! ### which places hold, as the map has them -/
structure Hm (P : Nat) (l : Nat → Pl) (D : DataW Unit) (h : Nat → Bool) : Prop where
  ok : ∀ i, h i = true → i < P ∧ (l i).good = true
  uniq : ∀ i j, h i = true → h j = true → (l i).code = (l j).code → i = j
  has : ∀ kl, Maps.has D kl = true ↔ ∃ i, h i = true ∧ kl = key l i
  val : ∀ i z, h i = true → D.atKey (key l i) z = .lit (.int .i64 i)
  size : Maps.size D = cnt P h
  tidy : Maps.Tidy D
namespace Hm
variable {P : Nat} {l : Nat → Pl} {D : DataW Unit} {h : Nat → Bool}
theorem empty (P : Nat) (l : Nat → Pl) : Hm P l (.map []) (fun _ => false) :=
  ⟨fun _ h => (by cases h), fun _ _ h => (by cases h), fun kl => ⟨fun h => (by cases h), fun ⟨_, h, _⟩ => (by cases h)⟩, fun _ _ h => (by cases h), by simp [Maps.size, cnt], Maps.tidy_empty⟩
theorem hasNot (H : Hm P l D h) {kl : Lit} (hk : ∀ i, h i = true → kl ≠ key l i) : Maps.has D kl = false := by
  cases e : Maps.has D kl with
  | false => rfl
  | true =>
    obtain ⟨i, hi, he⟩ := (H.has kl).1 e
    exact absurd he (hk i hi)
theorem cnt_add {n x : Nat} {f : Nat → Bool} (hx : x < n) (hf : f x = false) : cnt n (fun i => decide (i = x) || f i) = cnt n f + 1 := by
  have := cnt_but (n := n) (h := fun i => decide (i = x) || f i) hx (by simp)
  rw [← this]
  congr 1
  refine cnt_congr fun i _ => ?_
  by_cases e : i = x
  · subst e; simp [hf]
  · simp [e]
/-- A place more: it takes the place of the one of its code. -/
theorem put (H : Hm P l D h) {x : Nat} (hx : x < P) (hg : (l x).good = true) (hn : h x = false) :
    Hm P l (D.put (key l x) (.lit (.int .i64 x))) (fun i => decide (i = x) || (h i && decide ((l i).code ≠ (l x).code))) := by
  have hk : WideAt.IsKeyLit (key l x) := trivial
  have hc : ∀ i, h i = true → i ≠ x := fun i hi e => by rw [e, hn] at hi; cases hi
  refine ⟨fun i hi => ?_, fun i j hi hj he => ?_, fun kl => ?_, fun i z hi => ?_, ?_, H.tidy.put hk _⟩
  · simp only [Bool.or_eq_true, decide_eq_true_eq, Bool.and_eq_true] at hi
    rcases hi with rfl | hi
    · exact ⟨hx, hg⟩
    · exact H.ok i hi.1
  · simp only [Bool.or_eq_true, decide_eq_true_eq, Bool.and_eq_true] at hi hj
    rcases hi with rfl | hi
    · rcases hj with rfl | hj
      · rfl
      · exact absurd he.symm hj.2
    · rcases hj with rfl | hj
      · exact absurd he hi.2
      · exact H.uniq i j hi.1 hj.1 he
  · by_cases e : kl = key l x
    · subst e
      rw [Maps.has_put_same H.tidy.isMap hk]
      exact ⟨fun _ => ⟨x, by simp, rfl⟩, fun _ => rfl⟩
    · rw [Maps.has_put_other e, H.has]
      constructor
      · rintro ⟨i, hi, rfl⟩
        exact ⟨i, by simp [hi]; exact .inr fun e2 => e (by rw [key, e2]), rfl⟩
      · rintro ⟨i, hi, rfl⟩
        simp only [Bool.or_eq_true, decide_eq_true_eq, Bool.and_eq_true] at hi
        rcases hi with rfl | hi
        · exact absurd rfl e
        · exact ⟨i, hi.1, rfl⟩
  · simp only [Bool.or_eq_true, decide_eq_true_eq, Bool.and_eq_true] at hi
    rcases hi with rfl | hi
    · exact Maps.atKey_put_same H.tidy.isMap hk _ _
    · rw [Maps.atKey_put_other (key_ne hi.2)]
      exact H.val i z hi.1
  · rw [Maps.size_put H.tidy, H.size]
    by_cases e : ∃ j, h j = true ∧ (l j).code = (l x).code
    · obtain ⟨j, hj, hjc⟩ := e
      have hh : Maps.has D (key l x) = true := (H.has _).2 ⟨j, hj, by unfold key; rw [hjc]⟩
      rw [if_pos hh]
      have h1 := cnt_but (H.ok j hj).1 hj
      have h2 : cnt P (fun i => decide (i = x) || (h i && decide (i ≠ j))) = cnt P (fun i => h i && decide (i ≠ j)) + 1 := cnt_add hx (by simp [hn])
      rw [← h1, ← h2]
      refine cnt_congr fun i _ => ?_
      by_cases ei : i = x
      · simp [ei]
      · by_cases hi : h i = true
        · have : decide ((l i).code ≠ (l x).code) = decide (i ≠ j) := decide_eq_decide.2 ⟨fun hne e => hne (by rw [e, hjc]), fun hne e => hne (H.uniq i j hi hj (e.trans hjc.symm))⟩
          rw [this]
        · simp [ei, hi]
    · have hh : Maps.has D (key l x) = false := H.hasNot fun i hi he => e ⟨i, hi, (key_inj he).symm⟩
      rw [if_neg (by simp [hh])]
      have h2 : cnt P (fun i => decide (i = x) || h i) = cnt P h + 1 := cnt_add hx hn
      rw [← h2]
      refine cnt_congr fun i _ => ?_
      by_cases ei : i = x
      · simp [ei]
      · by_cases hi : h i = true
        · have : (l i).code ≠ (l x).code := fun he => e ⟨i, hi, he⟩
          simp [ei, hi, this]
        · simp [ei, hi]
/-- One let go. -/
theorem del (H : Hm P l D h) {j : Nat} (hj : h j = true) : Hm P l (D.del (key l j)) (fun i => h i && decide (i ≠ j)) := by
  refine ⟨fun i hi => ?_, fun i k hi hk he => ?_, fun kl => ?_, fun i z hi => ?_, ?_, H.tidy.del _⟩
  · simp only [Bool.and_eq_true] at hi; exact H.ok i hi.1
  · simp only [Bool.and_eq_true] at hi hk; exact H.uniq i k hi.1 hk.1 he
  · by_cases e : kl = key l j
    · subst e
      rw [Maps.has_del_same]
      constructor
      · intro h; cases h
      · rintro ⟨i, hi, he⟩
        simp only [Bool.and_eq_true, decide_eq_true_eq] at hi
        exact absurd (H.uniq i j hi.1 hj (key_inj he).symm) hi.2
    · rw [Maps.has_del_other e, H.has]
      constructor
      · rintro ⟨i, hi, rfl⟩
        exact ⟨i, by simp [hi]; exact fun e2 => e (by rw [e2]), rfl⟩
      · rintro ⟨i, hi, rfl⟩
        simp only [Bool.and_eq_true] at hi
        exact ⟨i, hi.1, rfl⟩
  · simp only [Bool.and_eq_true, decide_eq_true_eq] at hi
    rw [Maps.atKey_del_other (fun e => hi.2 (H.uniq i j hi.1 hj (key_inj e)))]
    exact H.val i z hi.1
  · have h1 := Maps.size_del (k := key l j) H.tidy
    rw [if_pos ((H.has _).2 ⟨j, hj, rfl⟩), H.size] at h1
    have h2 := cnt_but (H.ok j hj).1 hj
    omega
theorem congr (H : Hm P l D h) {g : Nat → Bool} (e : ∀ i, g i = h i) : Hm P l D g := by
  have : g = h := funext e
  rw [this]; exact H
end Hm

/-! ### the map in memory, and the laws at the operations -/
/-- Block b is a map of at most n entries that has the places of h. -/
def Mh (W : World) (b n P : Nat) (l : Nat → Pl) (h : Nat → Bool) : Prop := ∃ D, W.ownsMap Try.prog 3 (rdr P l) b n D ∧ Hm P l D h
/-- .. that is ranged over by block r, those of met having been gone by. -/
def Rg (W : World) (b r n P : Nat) (l : Nat → Pl) (h met : Nat → Bool) : Prop :=
  ∃ D left c, W.ranges Try.prog 3 (rdr P l) b r n D left c ∧ Hm P l D h ∧ ∀ i, h i = true → met i = !left (key l i)
namespace Mh
variable {W W' : World} {b n P : Nat} {l : Nat → Pl} {h : Nat → Bool}
theorem made (W : World) (P : Nat) (l : Nat → Pl) : Mh (W.alloc (.map #[] 0)) W.heap.size 0 P l (fun _ => false) := ⟨_, World.ownsMap_made _ _ _ _, Hm.empty P l⟩
theorem lt (h' : Mh W b n P l h) : b < W.heap.size := by obtain ⟨D, h1, _⟩ := h'; exact h1.lt
theorem of_block (h' : Mh W b n P l h) (e : W'.heap[b]? = W.heap[b]?) : Mh W' b n P l h := by
  obtain ⟨D, ⟨es, clock, hb, r⟩, h2⟩ := h'
  exact ⟨D, ⟨es, clock, e.trans hb, r⟩, h2⟩
theorem grow (h' : Mh W b n P l h) (hb : Below W.heap.size W W') : Mh W' b n P l h := h'.of_block (hb.block b h'.lt)
theorem congr (h' : Mh W b n P l h) {g : Nat → Bool} (e : ∀ i, g i = h i) : Mh W b n P l g := by
  obtain ⟨D, h1, h2⟩ := h'
  exact ⟨D, h1, h2.congr e⟩
theorem ok (h' : Mh W b n P l h) {i : Nat} (hi : h i = true) : i < P ∧ (l i).good = true := by obtain ⟨D, _, h2⟩ := h'; exact h2.ok i hi
theorem uniq (h' : Mh W b n P l h) {i j : Nat} (hi : h i = true) (hj : h j = true) (e : (l i).code = (l j).code) : i = j := by obtain ⟨D, _, h2⟩ := h'; exact h2.uniq i j hi hj e
end Mh
namespace Rg
variable {W W' : World} {b r n P : Nat} {l : Nat → Pl} {h met : Nat → Bool}
theorem owns (h' : Rg W b r n P l h met) : Mh W b n P l h := by obtain ⟨D, lf, c, h1, h2, _⟩ := h'; exact ⟨D, h1.owns, h2⟩
theorem lt (h' : Rg W b r n P l h met) : r < W.heap.size := by obtain ⟨D, lf, c, h1, _⟩ := h'; exact h1.lt
theorem ne (h' : Rg W b r n P l h met) : r ≠ b := by obtain ⟨D, lf, c, h1, _⟩ := h'; exact h1.ne
theorem of_blocks (h' : Rg W b r n P l h met) (e1 : W'.heap[b]? = W.heap[b]?) (e2 : W'.heap[r]? = W.heap[r]?) : Rg W' b r n P l h met := by
  obtain ⟨D, lf, c, ⟨es, clock, since, seen, c0, hb, F, hs, hD, hr, rest⟩, h2⟩ := h'
  exact ⟨D, lf, c, ⟨es, clock, since, seen, c0, e1.trans hb, F, hs, hD, e2.trans hr, rest⟩, h2⟩
theorem grow (h' : Rg W b r n P l h met) (hb : Below W.heap.size W W') : Rg W' b r n P l h met := h'.of_blocks (hb.block b h'.owns.lt) (hb.block r h'.lt)
end Rg
theorem left_of {W W' : World} {b r : Nat} (e1 : W'.heap[b]? = W.heap[b]?) (e2 : W'.heap[r]? = W.heap[r]?) : W'.rangeLeft b r = W.rangeLeft b r := by unfold World.rangeLeft; rw [e1, e2]
theorem off_turned {w w' : World} {b : Nat} (h : w.mapTurned w' b) : Off b w w' := by
  obtain ⟨es, clock, es', clock', hb, rfl⟩ := h
  exact ⟨rfl, rfl, rfl, by simp [ChangeMaps.setBlock], fun i hi => ChangeMaps.heap_setBlock_other hb _ hi⟩
theorem zeroP (w : World) : (zeroValue 94).run Try.prog w = .ok (.agg (pcs 0 zero)) w := by kernel_rfl

section
variable {ops : Array Oper} {rest : List Oper} {o : Oper} {a : Act} {w : World} {Q : Exit → Act → World → Prop}
/-- 'p, ok := held[code]'. -/
theorem lookH (hg : o.guard = none) (m x : Operand) (hop : o.op = Op.lookup 80 m x true) (b n P : Nat) (l : Nat → Pl) (h : Nat → Bool) (hl : Okp l) (j : Nat) (hj : (l j).good = true)
    (hm : a.eval m = .map (some b)) (hown : Mh w b n P l h) (hx : a.eval x = .int .i64 (l j).code)
    (hK1 : ∀ i, h i = true → (l i).code = (l j).code → wpList Try.prog ops Q rest (a.put o.dst (.tuple #[.agg (pcs i (l i)), .bool true])) w)
    (hK2 : (∀ i, h i = true → (l i).code ≠ (l j).code) → wpList Try.prog ops Q rest (a.put o.dst (.tuple #[.agg (pcs 0 zero), .bool false])) w) : wpList Try.prog ops Q (o :: rest) a w := by
  obtain ⟨D, h1, H⟩ := hown
  refine wpList_lookup_own_ok w hg m x _ hop 3 94 law Try.underlying80 (rdr P l) (zeroP w) (.lit (.bool false)) [] (rdr_zero P l) b n D hm h1 _ (key l j) hx (key_of hl hj) fun v ps hv => ?_
  by_cases e : ∃ i, h i = true ∧ (l i).code = (l j).code
  · obtain ⟨i, hi, hc⟩ := e
    have ek : key l j = key l i := by unfold key; rw [hc]
    rw [ek] at hv ⊢
    rw [H.val i _ hi] at hv
    rw [(H.has _).2 ⟨i, hi, rfl⟩]
    rcases rdr_inv hv with ⟨_, h2⟩ | ⟨i', _, _, rfl, h2⟩
    · cases h2
    · have : i' = i := by injection h2 with h2; injection h2 with _ h2; omega
      subst this
      exact hK1 i' hi hc
  · have hn : Maps.has D (key l j) = false := H.hasNot fun i hi he => e ⟨i, hi, (key_inj he).symm⟩
    rw [Maps.atKey_of_not_has hn] at hv
    rw [hn]
    rcases rdr_inv hv with ⟨rfl, _⟩ | ⟨i', _, _, _, h2⟩
    · exact hK2 fun i hi hc => e ⟨i, hi, hc⟩
    · cases h2
/-- 'held[code] = p'. -/
theorem updH (hg : o.guard = none) (m x v : Operand) (hop : o.op = Op.mapUpdate 80 m x v) (b n P : Nat) (l : Nat → Pl) (h : Nat → Bool) (hl : Okp l) (j : Nat) (hjP : j < P) (hj : (l j).good = true) (hn : n ≤ 1000) (hnew : h j = false)
    (hm : a.eval m = .map (some b)) (hown : Mh w b n P l h) (hx : a.eval x = .int .i64 (l j).code) (hv : a.eval v = .agg (pcs j (l j)))
    (hK : ∀ w', Mh w' b (n + 1) P l (fun i => decide (i = j) || (h i && decide ((l i).code ≠ (l j).code))) → Off b w w' → wpList Try.prog ops Q rest (a.put o.dst undef) w') : wpList Try.prog ops Q (o :: rest) a w := by
  obtain ⟨D, h1, H⟩ := hown
  exact wpList_mapUpdate_in w hg m x v _ hop 3 94 law Try.underlying80 (rdr P l) b n D hm h1 (by unfold maxLen; omega) _ _ (key l j) hx hv (key_of hl hj) _ [] (rdr_mk hl hjP hj) fun w' h2 h3 => hK w' ⟨_, h2, H.put hjP hj hnew⟩ (off_turned h3)
/-- 'delete(held, code)'. -/
theorem delH (hg : o.guard = none) (m x : Operand) (hop : o.op = Op.call { callee := Callee.builtin Builtin.delete, args := #[m, x], argTypes := #[80, 3] }) (b n P : Nat) (l : Nat → Pl) (h : Nat → Bool) (hl : Okp l) (j : Nat) (hj : h j = true)
    (hm : a.eval m = .map (some b)) (hown : Mh w b n P l h) (hx : a.eval x = .int .i64 (l j).code)
    (hK : ∀ w', Mh w' b n P l (fun i => h i && decide (i ≠ j)) → Off b w w' → wpList Try.prog ops Q rest (a.put o.dst (.tuple #[])) w') : wpList Try.prog ops Q (o :: rest) a w := by
  obtain ⟨D, h1, H⟩ := hown
  exact wpList_delete_own w hg m x _ _ hop 94 law Try.underlying80 (rdr P l) b n D hm h1 _ (key l j) hx (key_of hl (H.ok j hj).2) fun w' h2 h3 => hK w' ⟨_, h2, H.del hj⟩ (off_turned h3)
/-- 'len(held)'. -/
theorem lenH (hg : o.guard = none) (m : Operand) (hop : o.op = Op.call { callee := Callee.builtin Builtin.len, args := #[m], argTypes := #[80] }) (b n P : Nat) (l : Nat → Pl) (h : Nat → Bool)
    (hm : a.eval m = .map (some b)) (hown : Mh w b n P l h)
    (hK : wpList Try.prog ops Q rest (a.put o.dst (.int .i64 (cnt P h))) w) : wpList Try.prog ops Q (o :: rest) a w := by
  obtain ⟨D, h1, H⟩ := hown
  exact wpList_len_own w hg m _ hop 3 94 Try.underlying80 (rdr P l) b n D hm h1 (by rw [H.size]; exact hK)
/-- 'range held'. -/
theorem rangeM (hg : o.guard = none) (m : Operand) (hop : o.op = Op.range 80 m) (b n P : Nat) (l : Nat → Pl) (h : Nat → Bool) (hm : a.eval m = .map (some b)) (hown : Mh w b n P l h)
    (hK : ∀ w', Rg w' b w.heap.size n P l h (fun _ => false) → Below w.heap.size w w' → w'.heap.size = w.heap.size + 1 → wpList Try.prog ops Q rest (a.put o.dst (.pointer (some ⟨w.heap.size, 0, none⟩))) w') : wpList Try.prog ops Q (o :: rest) a w := by
  obtain ⟨D, h1, H⟩ := hown
  refine wpList_range_own w hg m _ hop 3 94 law Try.underlying80 (rdr P l) b n D hm h1 fun w' h2 h3 h4 => hK w' ⟨D, _, _, h2, H, fun i hi => ?_⟩ ((Below.refl _ _).grown h3 (Nat.le_refl _) (fun k hk => by cases hk)) h4
  rw [(H.has _).2 ⟨i, hi, rfl⟩]; rfl
/-- The step. -/
theorem nextM (hg : o.guard = none) (it : Operand) (hop : o.op = Op.next it false) (b r n P : Nat) (l : Nat → Pl) (h met : Nat → Bool) (hit : a.eval it = .pointer (some ⟨r, 0, none⟩)) (hr : Rg w b r n P l h met)
    (hDone : (∀ i, h i = true → met i = true) → wpList Try.prog ops Q rest (a.put o.dst (.tuple #[.bool false])) w)
    (hMore : ∀ i w', h i = true → met i = false → Rg w' b r n P l h (fun j => met j || decide (j = i)) → w'.rangeLeft b r < w.rangeLeft b r → Off r w w' →
      (Instr.entry (.pointer (some ⟨r, 0, none⟩))).run Try.prog w' = .ok (.tuple #[.int .i64 (l i).code, .agg (pcs i (l i))]) w' → wpList Try.prog ops Q rest (a.put o.dst (.tuple #[.bool true, .int .i64 (l i).code, .agg (pcs i (l i))])) w') :
    wpList Try.prog ops Q (o :: rest) a w := by
  obtain ⟨D, lf, c, h1, H, hm⟩ := hr
  refine wpList_next_ranges w hg it hop 3 law (rdr P l) (Value.int .i64) (fun c : Int × Pl => .agg (pcs c.1 c.2)) (fun k kl hk => by obtain ⟨x, rfl, _⟩ := Maps.keyOf_int_inv Try.underlying3 hk; exact ⟨x, rfl⟩)
    (fun v y hv => by
      rcases rdr_inv hv with ⟨rfl, _⟩ | ⟨i, _, _, rfl, _⟩
      · exact ⟨(0, zero), rfl⟩
      · exact ⟨(i, l i), rfl⟩) b r n D lf c hit h1 (fun _ h0 => hDone fun i hi => by rw [hm i hi, h0]; rfl) ?_
  intro x q kl y w' c' hkey hlk hv hat hrg hlt hgr hsz hen
  obtain ⟨i, hi, rfl⟩ := (H.has kl).1 (Maps.has_true_of_atKey hat)
  obtain ⟨x', ex, ekl, _⟩ := Maps.keyOf_int_inv Try.underlying3 hkey
  have hx : x = (l i).code := ((Value.int.inj ex).2).trans ((Lit.int.inj ekl).2).symm
  subst hx
  have hy : y.1 = .lit (.int .i64 i) := by rw [← hat (.lit (.bool false)), H.val i _ hi]
  rcases rdr_inv hv with ⟨_, h2⟩ | ⟨i', _, _, e2, h2⟩
  · rw [hy] at h2; cases h2
  · have : i' = i := (Int.ofNat.inj (Lit.int.inj (DataW.lit.inj (hy.symm.trans h2))).2).symm
    subst this
    rw [e2] at hen ⊢
    have ho : Off r w w' := ⟨hgr.os, hgr.tape, hgr.output, hsz, fun k hk => by
      by_cases hlt : k < w.heap.size
      · exact hgr.block k hlt (fun e => hk (by injection e))
      · rw [Array.getElem?_eq_none (by omega), Array.getElem?_eq_none (by omega)]⟩
    refine hMore i' w' hi (by rw [hm i' hi, hlk]; rfl) ⟨D, _, _, hrg, H, fun j hj => ?_⟩ (by rw [hrg.left_eq, h1.left_eq]; exact hlt) ho hen
    show (met j || decide (j = i')) = _
    rw [hm j hj]
    by_cases e : j = i'
    · subst e
      rw [WideAt.sameKey_self (a := key l j) trivial]
      simp
    · have : (key l j).sameKey (key l i') = false := by
        cases hs : (key l j).sameKey (key l i') with
        | false => rfl
        | true => exact absurd (H.uniq j i' hj hi (key_inj (WideAt.sameKey_eq hs))) e
      rw [this]
      simp [e]
end
end Sq
end Go.Proofs.Ytlhapipgmadbeaa
