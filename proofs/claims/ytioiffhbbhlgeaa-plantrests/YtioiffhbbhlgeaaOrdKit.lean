/- General, over any program: a region that draws its order, gone through in an order that is given: each operation has one value in every world that meets S, or is left out, or is the only one that may come. -/
import Derived.Test.YtioiffhbbhlgeaaMixKit
namespace Go.Proofs.Ytioiffhbbhlgeaa
namespace Lk
open Go

section
variable {P : Program} {Q : Exit → Act → World → Prop} {md : Region.Mode} {S : World → Prop} {o : Oper} {a : Act} {w : World}
def nth : List Oper → Nat → Option Oper
  | [], _ => none
  | o :: _, 0 => some o
  | _ :: l, k + 1 => nth l k
theorem nth_eq : ∀ (l : List Oper) (k : Nat), nth l k = l[k]?
  | [], _ => by simp [nth]
  | _ :: _, 0 => by simp [nth]
  | _ :: l, k + 1 => by simp [nth, nth_eq l k]
def wpOrd (P : Program) (l : List Oper) (Q : Exit → Act → World → Prop) (S : World → Prop) : List (Nat × Bool) → Act → World → Prop
  | [], a, w => Q .normal a w
  | (k, false) :: r, a, w => ∃ o v, nth l k = some o ∧ YieldsIf P l.toArray S o v a ∧ wpOrd P l Q S r (a.put o.dst v) w
  | (k, true) :: r, a, w => ∃ o, nth l k = some o ∧ ((Region.wanted o (yielded l.toArray a.tmps) = true ∧ o.wp P a w (fun a' w' => S w' ∧ wpOrd P l Q S r a' w') Q) ∨ (Region.wanted o (yielded l.toArray a.tmps) = false ∧ wpOrd P l Q S r (a.put o.dst undef) w))
def ordB (md : Region.Mode) (ops : Array Oper) : List (Nat × Bool) → Array Bool → Bool
  | [], listed => (Region.ready md ops listed).isEmpty
  | (k, false) :: r, listed => (Region.ready md ops listed).contains k && Region.free md ops listed k && ordB md ops r (listed.setIfInBounds k true)
  | (k, true) :: r, listed => decide (Region.ready md ops listed = [k]) && ordB md ops r (listed.setIfInBounds k true)
def orderedB (ops : Array Oper) (fs : List (Nat × Bool)) : Bool := decide (fs.length = ops.size) && Region.noSelect ops && ordB .any ops fs (Array.replicate ops.size false)
theorem anyH_ord {l : List Oper} (hsel : Region.noSelect l.toArray = true) (hQ : ∀ c (o : Option Tmp) v a w, Q (.panic c) (a.put o v) w → Q (.panic c) a w) :
    ∀ (fs : List (Nat × Bool)) (listed : Array Bool) (a : Act) (w : World), S w → ordB md l.toArray fs listed = true → wpOrd P l Q S fs a w → wpAnyH P md l.toArray Q S fs.length listed a w
  | [], listed, a, w, _, hB, h => ⟨by simpa [ordB] using hB, h⟩
  | (k, false) :: r, listed, a, w, hS, hB, h => by
    obtain ⟨o, v, h0, hy, hK⟩ := h
    have h0' : l.toArray[k]? = some o := by rw [← h0, nth_eq]; simp
    simp only [ordB, Bool.and_eq_true] at hB
    obtain ⟨⟨hr, hf⟩, hB'⟩ := hB
    exact wpAnyH_take h0' hsel hf hr (fun c a w => hQ c o.dst v a w) hy hS (anyH_ord hsel hQ r _ _ w hS hB' hK)
  | (k, true) :: r, listed, a, w, hS, hB, h => by
    obtain ⟨o, h0, h⟩ := h
    have h0' : l.toArray[k]? = some o := by rw [← h0, nth_eq]; simp
    simp only [ordB, Bool.and_eq_true, decide_eq_true_eq] at hB
    refine wpAnyH_all (rs := [k]) hB.1 (by simp) fun i hi => ?_
    have hik : i = k := by simpa using hi
    subst hik
    have hw : wpOp P l.toArray Q i (fun a' w' => S w' ∧ wpOrd P l Q S r a' w') a w := by
      unfold wpOp
      rcases h with ⟨h1, h2⟩ | ⟨h1, h2⟩
      · simp only [h0', h1, if_true]
        exact .inl h2
      · simp only [h0', h1]
        exact ⟨hS, h2⟩
    exact wpOp_mono (fun a' w' h' => ⟨h'.1, anyH_ord hsel hQ r _ a' w' h'.1 hB.2 h'.2⟩) hw
theorem wp_region_ordered {id : Nat} {a : Act} {w : World} {ops' : Array Oper} {l : List Oper} {fs : List (Nat × Bool)} (hB : orderedB ops' fs = true) (S : World → Prop) (hm : P.follows .mixedOrders = true) (he : ops' = l.toArray)
    (hQ : ∀ c (o : Option Tmp) v a w, Q (.panic c) (a.put o v) w → Q (.panic c) a w) (hS : S w.drew)
    (h : wpOrd P l Q S fs a w.drew) : (Code.region id l.toArray true).wp P Q a w := by
  subst he
  simp only [orderedB, Bool.and_eq_true, decide_eq_true_eq] at hB
  obtain ⟨⟨hn, hsel⟩, hB⟩ := hB
  refine wp_region_held_drew (S := S) hm hS fun _ => ?_
  have H := anyH_ord (P := P) (md := .any) hsel hQ fs (Array.replicate l.toArray.size false) a _ hS hB h
  rw [hn] at H
  exact H
variable {l : List Oper} {k : Nat} {r : List (Nat × Bool)}
theorem ord_take (v : Value) (ho : nth l k = some o) (hw : Region.wanted o (yielded l.toArray a.tmps) = true) (h : ∀ w, S w → (execOp a.eval o).run P w = .ok (.value v) w)
    (c : wpOrd P l Q S r (a.put o.dst v) w) : wpOrd P l Q S ((k, false) :: r) a w := ⟨o, v, ho, .inl ⟨hw, h⟩, c⟩
theorem ord_skip (ho : nth l k = some o) (hw : Region.wanted o (yielded l.toArray a.tmps) = false)
    (c : wpOrd P l Q S r (a.put o.dst undef) w) : wpOrd P l Q S ((k, false) :: r) a w := ⟨o, undef, ho, .inr ⟨hw, rfl⟩, c⟩
theorem ord_skip' (ho : nth l k = some o) (hw : Region.wanted o (yielded l.toArray a.tmps) = false)
    (c : wpOrd P l Q S r (a.put o.dst undef) w) : wpOrd P l Q S ((k, true) :: r) a w := ⟨o, ho, .inr ⟨hw, c⟩⟩
theorem ord_step (ho : nth l k = some o) (hw : Region.wanted o (yielded l.toArray a.tmps) = true)
    (h : ∀ K : Act → World → Prop, Shut (∀ a' w', S w' → wpOrd P l Q S r a' w' → K a' w') → o.wp P a w K Q) : wpOrd P l Q S ((k, true) :: r) a w :=
  ⟨o, ho, .inl ⟨hw, h _ fun _ _ h1 h2 => ⟨h1, h2⟩⟩⟩
theorem ord_nil (h : Q .normal a w) : wpOrd P l Q S [] a w := h
end
end Lk
end Go.Proofs.Ytioiffhbbhlgeaa
