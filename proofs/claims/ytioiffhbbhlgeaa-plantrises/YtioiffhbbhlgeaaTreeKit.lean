/- General, over any program: a region that draws its order, gone through as a tree: where two calls (or rows that are made) may come first, both ways are walked. -/
import Derived.Test.YtioiffhbbhlgeaaOrdKit
namespace Go.Proofs.Ytioiffhbbhlgeaa
namespace Lk
open Go

/-- An order with forks. -/
inductive Tr where
  | nil
  | one (k : Nat) (c : Bool) (r : Tr)
  | two (k j : Nat) (r s : Tr)
def Tr.len : Tr → Nat
  | .nil => 0
  | .one _ _ r => r.len + 1
  | .two _ _ r _ => r.len + 1
section
variable {P : Program} {Q : Exit → Act → World → Prop} {md : Region.Mode} {S : World → Prop} {o : Oper} {a : Act} {w : World}
def stpF (P : Program) (l : List Oper) (Q : Exit → Act → World → Prop) (S : World → Prop) (k : Nat) (F : Act → World → Prop) (a : Act) (w : World) : Prop :=
  ∃ o, nth l k = some o ∧ ((Region.wanted o (yielded l.toArray a.tmps) = true ∧ o.wp P a w (fun a' w' => S w' ∧ F a' w') Q) ∨ (Region.wanted o (yielded l.toArray a.tmps) = false ∧ F (a.put o.dst undef) w))
def wpTr (P : Program) (l : List Oper) (Q : Exit → Act → World → Prop) (S : World → Prop) : Tr → Act → World → Prop
  | .nil, a, w => Q .normal a w
  | .one k false r, a, w => ∃ o v, nth l k = some o ∧ YieldsIf P l.toArray S o v a ∧ wpTr P l Q S r (a.put o.dst v) w
  | .one k true r, a, w => stpF P l Q S k (wpTr P l Q S r) a w
  | .two k j r s, a, w => stpF P l Q S k (wpTr P l Q S r) a w ∧ stpF P l Q S j (wpTr P l Q S s) a w
def trB (md : Region.Mode) (ops : Array Oper) : Tr → Array Bool → Bool
  | .nil, listed => (Region.ready md ops listed).isEmpty
  | .one k false r, listed => (Region.ready md ops listed).contains k && Region.free md ops listed k && trB md ops r (listed.setIfInBounds k true)
  | .one k true r, listed => decide (Region.ready md ops listed = [k]) && trB md ops r (listed.setIfInBounds k true)
  | .two k j r s, listed => decide (Region.ready md ops listed = [k, j]) && decide (s.len = r.len) && (trB md ops r (listed.setIfInBounds k true) && trB md ops s (listed.setIfInBounds j true))
def treeB (ops : Array Oper) (t : Tr) : Bool := decide (t.len = ops.size) && Region.noSelect ops && trB .any ops t (Array.replicate ops.size false)
theorem stpF_op {l : List Oper} {k n : Nat} {F : Act → World → Prop} {listed : Array Bool} (hS : S w) (h : stpF P l Q S k F a w) (ih : ∀ a' w', S w' → F a' w' → wpAnyH P md l.toArray Q S n (listed.setIfInBounds k true) a' w') :
    wpOp P l.toArray Q k (fun a' w' => S w' ∧ wpAnyH P md l.toArray Q S n (listed.setIfInBounds k true) a' w') a w := by
  obtain ⟨o, h0, h⟩ := h
  have h0' : l.toArray[k]? = some o := by rw [← h0, nth_eq]; simp
  have hw : wpOp P l.toArray Q k (fun a' w' => S w' ∧ F a' w') a w := by
    unfold wpOp
    rcases h with ⟨h1, h2⟩ | ⟨h1, h2⟩
    · simp only [h0', h1, if_true]
      exact .inl h2
    · simp only [h0', h1]
      exact ⟨hS, h2⟩
  exact wpOp_mono (fun a' w' h' => ⟨h'.1, ih a' w' h'.1 h'.2⟩) hw
theorem anyH_tr {l : List Oper} (hsel : Region.noSelect l.toArray = true) (hQ : ∀ c (o : Option Tmp) v a w, Q (.panic c) (a.put o v) w → Q (.panic c) a w) :
    ∀ (t : Tr) (listed : Array Bool) (a : Act) (w : World), S w → trB md l.toArray t listed = true → wpTr P l Q S t a w → wpAnyH P md l.toArray Q S t.len listed a w
  | .nil, listed, a, w, _, hB, h => ⟨by simpa [trB] using hB, h⟩
  | .one k false r, listed, a, w, hS, hB, h => by
    obtain ⟨o, v, h0, hy, hK⟩ := h
    have h0' : l.toArray[k]? = some o := by rw [← h0, nth_eq]; simp
    simp only [trB, Bool.and_eq_true] at hB
    obtain ⟨⟨hr, hf⟩, hB'⟩ := hB
    exact wpAnyH_take h0' hsel hf hr (fun c a w => hQ c o.dst v a w) hy hS (anyH_tr hsel hQ r _ _ w hS hB' hK)
  | .one k true r, listed, a, w, hS, hB, h => by
    simp only [trB, Bool.and_eq_true, decide_eq_true_eq] at hB
    refine wpAnyH_all (rs := [k]) hB.1 (by simp) fun i hi => ?_
    have hik : i = k := by simpa using hi
    subst hik
    exact stpF_op hS h fun a' w' hS' hF => anyH_tr hsel hQ r _ a' w' hS' hB.2 hF
  | .two k j r s, listed, a, w, hS, hB, h => by
    simp only [trB, Bool.and_eq_true, decide_eq_true_eq] at hB
    obtain ⟨⟨hr, hn⟩, h1, h2⟩ := hB
    refine wpAnyH_all (rs := [k, j]) hr (by simp) fun i hi => ?_
    have hik : i = k ∨ i = j := by simpa using hi
    rcases hik with rfl | rfl
    · exact stpF_op hS h.1 fun a' w' hS' hF => anyH_tr hsel hQ r _ a' w' hS' h1 hF
    · refine stpF_op hS h.2 fun a' w' hS' hF => ?_
      have := anyH_tr hsel hQ s _ a' w' hS' h2 hF
      rwa [hn] at this
theorem wp_region_tree {id : Nat} {a : Act} {w : World} {ops' : Array Oper} {l : List Oper} {t : Tr} (hB : treeB ops' t = true) (S : World → Prop) (hm : P.follows .mixedOrders = true) (he : ops' = l.toArray)
    (hQ : ∀ c (o : Option Tmp) v a w, Q (.panic c) (a.put o v) w → Q (.panic c) a w) (hS : S w.drew)
    (h : wpTr P l Q S t a w.drew) : (Code.region id l.toArray true).wp P Q a w := by
  subst he
  simp only [treeB, Bool.and_eq_true, decide_eq_true_eq] at hB
  obtain ⟨⟨hn, hsel⟩, hB⟩ := hB
  refine wp_region_held_drew (S := S) hm hS fun _ => ?_
  have H := anyH_tr (P := P) (md := .any) hsel hQ t (Array.replicate l.toArray.size false) a _ hS hB h
  rw [hn] at H
  exact H
variable {l : List Oper} {k j : Nat} {r s : Tr}
theorem tr_take (v : Value) (ho : nth l k = some o) (hw : Region.wanted o (yielded l.toArray a.tmps) = true) (h : ∀ w, S w → (execOp a.eval o).run P w = .ok (.value v) w)
    (c : wpTr P l Q S r (a.put o.dst v) w) : wpTr P l Q S (.one k false r) a w := ⟨o, v, ho, .inl ⟨hw, h⟩, c⟩
theorem stp_step {F : Act → World → Prop} (ho : nth l k = some o) (hw : Region.wanted o (yielded l.toArray a.tmps) = true)
    (h : ∀ K : Act → World → Prop, Shut (∀ a' w', S w' → F a' w' → K a' w') → o.wp P a w K Q) : stpF P l Q S k F a w :=
  ⟨o, ho, .inl ⟨hw, h _ fun _ _ h1 h2 => ⟨h1, h2⟩⟩⟩
theorem tr_step (ho : nth l k = some o) (hw : Region.wanted o (yielded l.toArray a.tmps) = true)
    (h : ∀ K : Act → World → Prop, Shut (∀ a' w', S w' → wpTr P l Q S r a' w' → K a' w') → o.wp P a w K Q) : wpTr P l Q S (.one k true r) a w := stp_step ho hw h
theorem tr_two (h : stpF P l Q S k (wpTr P l Q S r) a w) (c : stpF P l Q S j (wpTr P l Q S s) a w) : wpTr P l Q S (.two k j r s) a w := ⟨h, c⟩
theorem tr_nil (h : Q .normal a w) : wpTr P l Q S .nil a w := h
end
end Lk
end Go.Proofs.Ytioiffhbbhlgeaa
