/- General, over any program: a region that draws its order: the first operations of the text, each with one value in every world that meets a condition S, or left out, are taken first; those that are left come in one order alone, S shown anew behind each. -/
import Derived.Test.YtimflomgaknoaaaHeldWp
namespace Go.Proofs.Ytimflomgaknoaaa
namespace Lk
open Go

section
variable {P : Program} {ops : Array Oper} {Q : Exit → Act → World → Prop} {md : Region.Mode} {S : World → Prop}

/-- An operation that is left out: its guard is not met. -/
theorem wpHeldQ_skip {Lq : Act → Prop} {o : Oper} {rest : List Oper} {a : Act} (hw : Region.wanted o (yielded ops a.tmps) = false)
    (k : wpHeldQ P ops S Lq rest (a.put o.dst undef)) : wpHeldQ P ops S Lq (o :: rest) a := ⟨undef, .inr ⟨hw, rfl⟩, k⟩

/-- Those that are left. -/
def wpSeqH (P : Program) (ops : Array Oper) (Q : Exit → Act → World → Prop) (S : World → Prop) : List Oper → Act → World → Prop
  | [], a, w => Q .normal a w
  | o :: rest, a, w => Region.wanted o (yielded ops a.tmps) = true ∧ o.wp P a w (fun a' w' => S w' ∧ wpSeqH P ops Q S rest a' w') Q
theorem wpSeqH_step {o : Oper} {rest : List Oper} {a : Act} {w : World} (hw : Region.wanted o (yielded ops a.tmps) = true)
    (h : ∀ K : Act → World → Prop, (∀ a' w', S w' → wpSeqH P ops Q S rest a' w' → K a' w') → o.wp P a w K Q) : wpSeqH P ops Q S (o :: rest) a w :=
  ⟨hw, h _ fun _ _ h1 h2 => ⟨h1, h2⟩⟩
theorem wpSeqH_nil {a : Act} {w : World} (h : Q .normal a w) : wpSeqH P ops Q S [] a w := h

theorem anyH_of_seq : ∀ (l : List Oper) (k : Nat) (listed : Array Bool) (a : Act) (w : World), (∀ j, l[j]? = ops[k + j]?) →
    Region.seqB md ops l.length k listed = true → wpSeqH P ops Q S l a w → wpAnyH P md ops Q S l.length listed a w
  | [], _, _, _, _, _, hB, h => ⟨by simpa [Region.seqB] using hB, h⟩
  | o :: l, k, listed, a, w, hl, hB, h => by
    have h0 : ops[k]? = some o := by simpa using (hl 0).symm
    simp only [List.length_cons, Region.seqB, Bool.and_eq_true, decide_eq_true_eq] at hB
    refine ⟨fun h1 => (by rw [hB.1] at h1; cases h1), fun i hi => ?_⟩
    rw [hB.1] at hi
    have hik : i = k := by simpa using hi
    subst hik
    have hw : wpOp P ops Q i (fun a' w' => S w' ∧ wpSeqH P ops Q S l a' w') a w := by
      unfold wpOp
      simp only [h0, h.1, if_true]
      exact .inl h.2
    exact wpOp_mono (fun a' w' h' => ⟨h'.1, anyH_of_seq l (i + 1) _ a' w' (fun j => by have := hl (j + 1); simpa [Nat.add_assoc, Nat.add_comm 1 j] using this) hB.2 h'.2⟩) hw

theorem anyH_lex (hsel : Region.noSelect ops = true) (hQ : ∀ c (o : Option Tmp) v a w, Q (.panic c) (a.put o v) w → Q (.panic c) a w) {N : Nat} (tl : List Oper) (htl : ∀ j, tl[j]? = ops[N + j]?) {w : World} (hS : S w) :
    ∀ (l : List Oper) (k : Nat) (listed : Array Bool) (a : Act), (∀ j, j < l.length → l[j]? = ops[k + j]?) → k + l.length = N →
    Region.lexHead md ops tl.length l.length k listed = true → wpHeldQ P ops S (fun a' => wpSeqH P ops Q S tl a' w) l a → wpAnyH P md ops Q S (l.length + tl.length) listed a w
  | [], k, listed, a, _, hk, hB, h => by
    have : k = N := by simpa using hk
    subst this
    rw [List.length_nil, Nat.zero_add]
    exact anyH_of_seq tl k listed a w htl (by simpa [Region.lexHead] using hB) h
  | o :: l, k, listed, a, hl, hk, hB, h => by
    have h0 : ops[k]? = some o := by simpa using (hl 0 (by simp)).symm
    simp only [List.length_cons, Region.lexHead, Bool.and_eq_true] at hB
    obtain ⟨⟨hr, hf⟩, hB'⟩ := hB
    obtain ⟨v, hy, hK⟩ := h
    rw [List.length_cons, show l.length + 1 + tl.length = (l.length + tl.length) + 1 by omega]
    exact wpAnyH_take h0 hsel hf hr (fun c a w => hQ c o.dst v a w) hy hS
      (anyH_lex hsel hQ tl htl hS l (k + 1) _ _ (fun j hj => by have := hl (j + 1) (by simp; omega); simpa [Nat.add_assoc, Nat.add_comm 1 j] using this) (by simp only [List.length_cons] at hk; omega) hB' hK)

def lexB (ops : Array Oper) (N : Nat) : Bool := Region.noSelect ops && decide (N < ops.size) && Region.lexHead .any ops (ops.size - N) N 0 (Array.replicate ops.size false)

/-- The law. -/
theorem wp_region_lex {id : Nat} {a : Act} {w : World} {l : List Oper} (N : Nat) (S : World → Prop) (hm : P.follows .mixedOrders = true) (hB : lexB l.toArray N = true)
    (hQ : ∀ c (o : Option Tmp) v a w, Q (.panic c) (a.put o v) w → Q (.panic c) a w) (hS : S w.drew)
    (h : wpHeldQ P l.toArray S (fun a' => wpSeqH P l.toArray Q S (l.drop N) a' w.drew) (l.take N) a) : (Code.region id l.toArray true).wp P Q a w := by
  simp only [lexB, Bool.and_eq_true, decide_eq_true_eq] at hB
  obtain ⟨⟨hsel, hn⟩, hlex⟩ := hB
  have hn' : N < l.length := by simpa using hn
  have htl : (l.take N).length = N := by simp; omega
  have hdl : (l.drop N).length = l.toArray.size - N := by simp
  refine wp_region_any hm (wpAny_of_held (S := S) _ _ _ _ ?_)
  have H := anyH_lex (md := .any) hsel hQ (N := N) (l.drop N) (fun j => by simp [List.getElem?_drop]) hS (l.take N) 0 (Array.replicate l.toArray.size false) a (fun j hj => by
    have hj' : j < N := by rw [htl] at hj; exact hj
    simp [hj']) (by simpa using htl) (by rw [htl, hdl]; exact hlex) h
  rw [htl, hdl, show N + (l.toArray.size - N) = l.toArray.size by simp; omega] at H
  exact H
end
end Lk
end Go.Proofs.Ytimflomgaknoaaa
