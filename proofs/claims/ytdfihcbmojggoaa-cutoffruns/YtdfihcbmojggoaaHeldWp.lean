/- General, over any program: a region that draws its order: the first operations of the text, if each yields one value in every world that meets a condition S, are taken first; those that are left come in one order alone; S is shown anew behind each but the last, that waits for all others. -/
import Derived.OrdersHeld
import Derived.StillTail
namespace Go.Proofs.Ytdfihcbmojggoaa
namespace Lk
open Go

section
variable {P : Program} {ops : Array Oper} {Q : Exit → Act → World → Prop} {md : Region.Mode} {S : World → Prop} {L : Nat}

def anyQ (P : Program) (md : Region.Mode) (ops : Array Oper) (Q : Exit → Act → World → Prop) (S : World → Prop) (L : Nat) : Nat → Array Bool → Act → World → Prop
  | 0, listed, a, w => Region.ready md ops listed = [] ∧ Q .normal a w
  | fuel + 1, listed, a, w =>
    (Region.ready md ops listed = [] → Q .normal a w) ∧
    ∀ i ∈ Region.ready md ops listed, wpOp P ops Q i (fun a' w' => (i = L ∨ S w') ∧ anyQ P md ops Q S L fuel (listed.setIfInBounds i true) a' w') a w

theorem any_of_q : ∀ (fuel : Nat) (listed : Array Bool) (a : Act) (w : World), anyQ P md ops Q S L fuel listed a w → wpAny P md ops Q fuel listed a w
  | 0, _, _, _, h => h
  | fuel + 1, _, _, _, h => ⟨h.1, fun i hi => wpOp_mono (fun a' w' h' => any_of_q fuel _ a' w' h'.2) (h.2 i hi)⟩

/-- L waits for all others. -/
def lastB (md : Region.Mode) (ops : Array Oper) (L : Nat) : Bool := (List.range ops.size).all fun i => decide (i = L) || Region.waitsFor md ops L i
theorem lastB_spec (h : lastB md ops L = true) {i : Nat} (hi : i < ops.size) (hne : i ≠ L) : Region.waitsFor md ops L i = true := by
  have := List.all_eq_true.1 h i (List.mem_range.2 hi)
  simp only [Bool.or_eq_true, decide_eq_true_eq] at this
  exact this.resolve_left hne

theorem anyQ_first (hL : lastB md ops L = true) {i : Nat} {oi : Oper} {v : Value} (hi : ops[i]? = some oi) (hiL : i ≠ L) (hsel : ∀ (j : Nat) (o : Oper) cs b, ops[j]? = some o → o.op ≠ .select cs b)
    (hQ : ∀ c a w, Q (.panic c) (a.put oi.dst v) w → Q (.panic c) a w) :
    ∀ (fuel : Nat) (listed : Array Bool) (a : Act) (w : World),
      (∀ j oj, ops[j]? = some oj → j ≠ i → listed.getD j true = false → (∀ e ∈ oj.after, Region.binds md e = true → e.on ≠ i) → oi.apart ops oj = true) →
      i ∈ Region.ready md ops listed → YieldsIf P ops S oi v a → S w →
      anyQ P md ops Q S L fuel (listed.setIfInBounds i true) (a.put oi.dst v) w → anyQ P md ops Q S L (fuel + 1) listed a w := by
  intro fuel
  induction fuel with
  | zero =>
    intro listed a w _ hr hy hS H
    refine ⟨fun h => (by rw [h] at hr; cases hr), fun j hj => ?_⟩
    by_cases hji : j = i
    · subst hji; exact hy.wpOp hi hS ⟨.inr hS, H⟩
    · have := ready_mono hj hji
      rw [H.1] at this
      cases this
  | succ fuel ih =>
    intro listed a w hfree hr hy hS H
    refine ⟨fun h => (by rw [h] at hr; cases hr), fun j hj => ?_⟩
    by_cases hji : j = i
    · subst hji; exact hy.wpOp hi hS ⟨.inr hS, H⟩
    · have h1 := H.2 j (ready_mono hj hji)
      obtain ⟨hjun, oj, hoj, hall⟩ := mem_ready.1 hj
      have hnot : ∀ e ∈ oj.after, Region.binds md e = true → e.on ≠ i := fun e he hb heq => by
        have h1 := hall e he hb
        rw [heq, getD_both (mem_ready.1 hr).1] at h1
        cases h1
      have hjL : j ≠ L := fun e => by
        obtain ⟨oL, ho, e1, he1, hb1, hon⟩ := Region.waitsFor_spec (lastB_spec hL (Array.getElem?_eq_some_iff.1 hi).1 hiL)
        rw [← e, hoj] at ho
        cases ho
        exact hnot e1 he1 hb1 hon
      have h2 := wpOp_putIf hoj (hfree j oj hoj hji hjun hnot) (fun cs b => hsel i oi cs b hi) (fun cs b => hsel j oj cs b hoj) hQ hy h1
      have hfree' : ∀ k ok, ops[k]? = some ok → k ≠ i → (listed.setIfInBounds j true).getD k true = false →
          (∀ e ∈ ok.after, Region.binds md e = true → e.on ≠ i) → oi.apart ops ok = true := fun k ok hk hki hun hno => by
        refine hfree k ok hk hki ?_ hno
        by_cases hjk : j = k
        · subst hjk; exact hjun
        · rw [getD_set_ne true hjk] at hun; exact hun
      refine wpOp_mono (fun a' w' h3 => ?_) h2
      have hS' := h3.2.1.resolve_left hjL
      refine ⟨.inr hS', ih (listed.setIfInBounds j true) a' w' hfree' (ready_mono hr (Ne.symm hji)) h3.1 hS' ?_⟩
      rw [Array.setIfInBounds_comm _ _ hji]
      exact h3.2.2

/-- The text's order: the first N operations, each with one value in every world that meets S. -/
def wpHeldQ (P : Program) (ops : Array Oper) (S : World → Prop) (Lq : Act → Prop) : List Oper → Act → Prop
  | [], a => Lq a
  | o :: rest, a => ∃ v, YieldsIf P ops S o v a ∧ wpHeldQ P ops S Lq rest (a.put o.dst v)
theorem wpHeldQ_step {Lq : Act → Prop} {o : Oper} {rest : List Oper} {a : Act} (v : Value) (hw : Region.wanted o (yielded ops a.tmps) = true) (h : ∀ w, S w → (execOp a.eval o).run P w = .ok (.value v) w)
    (k : wpHeldQ P ops S Lq rest (a.put o.dst v)) : wpHeldQ P ops S Lq (o :: rest) a := ⟨v, .inl ⟨hw, h⟩, k⟩
/-- Those that are left. -/
def wpSeqQ (P : Program) (ops : Array Oper) (Q : Exit → Act → World → Prop) (S : World → Prop) : List Oper → Act → World → Prop
  | [], a, w => Q .normal a w
  | o :: rest, a, w => Region.wanted o (yielded ops a.tmps) = true ∧ o.wp P a w (fun a' w' => (rest = [] ∨ S w') ∧ wpSeqQ P ops Q S rest a' w') Q
theorem wpSeqQ_step {o : Oper} {rest : List Oper} {a : Act} {w : World} (hw : Region.wanted o (yielded ops a.tmps) = true)
    (h : ∀ K : Act → World → Prop, (∀ a' w', (rest = [] ∨ S w') → wpSeqQ P ops Q S rest a' w' → K a' w') → o.wp P a w K Q) : wpSeqQ P ops Q S (o :: rest) a w :=
  ⟨hw, h _ fun _ _ h1 h2 => ⟨h1, h2⟩⟩
theorem wpSeqQ_nil {a : Act} {w : World} (h : Q .normal a w) : wpSeqQ P ops Q S [] a w := h

theorem anyQ_of_seq : ∀ (l : List Oper) (k : Nat) (listed : Array Bool) (a : Act) (w : World), (∀ j, l[j]? = ops[k + j]?) → k + l.length = L + 1 →
    Region.seqB md ops l.length k listed = true → wpSeqQ P ops Q S l a w → anyQ P md ops Q S L l.length listed a w
  | [], _, _, _, _, _, _, hB, h => ⟨by simpa [Region.seqB] using hB, h⟩
  | o :: l, k, listed, a, w, hl, hk, hB, h => by
    have h0 : ops[k]? = some o := by simpa using (hl 0).symm
    simp only [List.length_cons, Region.seqB, Bool.and_eq_true, decide_eq_true_eq] at hB hk
    refine ⟨fun h1 => (by rw [hB.1] at h1; cases h1), fun i hi => ?_⟩
    rw [hB.1] at hi
    have hik : i = k := by simpa using hi
    subst hik
    have hw : wpOp P ops Q i (fun a' w' => (l = [] ∨ S w') ∧ wpSeqQ P ops Q S l a' w') a w := by
      unfold wpOp
      simp only [h0, h.1, if_true]
      exact .inl h.2
    refine wpOp_mono (fun a' w' h' => ⟨?_, anyQ_of_seq l (i + 1) _ a' w' (fun j => by have := hl (j + 1); simpa [Nat.add_assoc, Nat.add_comm 1 j] using this) (by omega) hB.2 h'.2⟩) hw
    rcases h'.1 with e | e
    · left; rw [e] at hk; simp at hk; omega
    · exact .inr e

theorem anyQ_lex (hL : lastB md ops L = true) (hsel : Region.noSelect ops = true) (hQ : ∀ c (o : Option Tmp) v a w, Q (.panic c) (a.put o v) w → Q (.panic c) a w) {N : Nat} (tl : List Oper) (htl : ∀ j, tl[j]? = ops[N + j]?) (hN : N + tl.length = L + 1) (hNL : N ≤ L) {w : World} (hS : S w) :
    ∀ (l : List Oper) (k : Nat) (listed : Array Bool) (a : Act), (∀ j, j < l.length → l[j]? = ops[k + j]?) → k + l.length = N →
    Region.lexHead md ops tl.length l.length k listed = true → wpHeldQ P ops S (fun a' => wpSeqQ P ops Q S tl a' w) l a → anyQ P md ops Q S L (l.length + tl.length) listed a w
  | [], k, listed, a, _, hk, hB, h => by
    have : k = N := by simpa using hk
    subst this
    rw [List.length_nil, Nat.zero_add]
    exact anyQ_of_seq tl k listed a w htl hN (by simpa [Region.lexHead] using hB) h
  | o :: l, k, listed, a, hl, hk, hB, h => by
    have h0 : ops[k]? = some o := by simpa using (hl 0 (by simp)).symm
    simp only [List.length_cons, Region.lexHead, Bool.and_eq_true] at hB
    obtain ⟨⟨hr, hf⟩, hB'⟩ := hB
    obtain ⟨v, hy, hK⟩ := h
    have hkN : k < N := by simp only [List.length_cons] at hk; omega
    rw [List.length_cons, show l.length + 1 + tl.length = (l.length + tl.length) + 1 by omega]
    exact anyQ_first hL h0 (by omega) (Region.noSelect_spec hsel) (fun c a w => hQ c o.dst v a w) _ listed a w (Region.free_spec h0 hf) (by simpa using hr) hy hS
      (anyQ_lex hL hsel hQ tl htl hN hNL hS l (k + 1) _ _ (fun j hj => by have := hl (j + 1) (by simp; omega); simpa [Nat.add_assoc, Nat.add_comm 1 j] using this) (by simp only [List.length_cons] at hk; omega) hB' hK)

def wordB (ops : Array Oper) (N : Nat) : Bool := Region.noSelect ops && lastB .any ops (ops.size - 1) && decide (N < ops.size) && Region.lexHead .any ops (ops.size - N) N 0 (Array.replicate ops.size false)

/-- The law. -/
theorem wp_region_ord {id : Nat} {a : Act} {w : World} {l : List Oper} (N : Nat) (S : World → Prop) (hm : P.follows .mixedOrders = true) (hB : wordB l.toArray N = true)
    (hQ : ∀ c (o : Option Tmp) v a w, Q (.panic c) (a.put o v) w → Q (.panic c) a w) (hS : S w.drew)
    (h : wpHeldQ P l.toArray S (fun a' => wpSeqQ P l.toArray Q S (l.drop N) a' w.drew) (l.take N) a) : (Code.region id l.toArray true).wp P Q a w := by
  simp only [wordB, Bool.and_eq_true, decide_eq_true_eq] at hB
  obtain ⟨⟨⟨hsel, hL⟩, hn⟩, hlex⟩ := hB
  have hn' : N < l.length := by simpa using hn
  have htl : (l.take N).length = N := by simp; omega
  have hdl : (l.drop N).length = l.toArray.size - N := by simp
  refine wp_region_any hm (any_of_q (S := S) (L := l.toArray.size - 1) _ _ _ _ ?_)
  have H := anyQ_lex (md := .any) hL hsel hQ (N := N) (l.drop N) (fun j => by simp [List.getElem?_drop]) (by rw [hdl]; simp; omega) (by simp; omega) hS (l.take N) 0 (Array.replicate l.toArray.size false) a (fun j hj => by
    have hj' : j < N := by rw [htl] at hj; exact hj
    simp [hj']) (by simpa using htl) (by rw [htl, hdl]; exact hlex) h
  rw [htl, hdl, show N + (l.toArray.size - N) = l.toArray.size by simp; omega] at H
  exact H
end
end Lk
end Go.Proofs.Ytdfihcbmojggoaa
