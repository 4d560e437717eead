/- General, over any program: a region that draws its order, gone through in the order of its text: each operation has one value in every world that meets S, or is left out, or is the only one that may come. -/
import Derived.OrdersHeld
import Derived.Deep.RegionHeld3
namespace Go.Proofs.Ytioiffhbbhlgeaa
namespace Lk
open Go

section
variable {P : Program} {ops : Array Oper} {Q : Exit → Act → World → Prop} {md : Region.Mode} {S : World → Prop}

/-- The operations in order; 'true': it is the only one that may come up. -/
def wpMix (P : Program) (ops : Array Oper) (Q : Exit → Act → World → Prop) (S : World → Prop) : List Oper → List Bool → Act → World → Prop
  | o :: rest, false :: fs, a, w => ∃ v, YieldsIf P ops S o v a ∧ wpMix P ops Q S rest fs (a.put o.dst v) w
  | o :: rest, true :: fs, a, w => (Region.wanted o (yielded ops a.tmps) = true ∧ o.wp P a w (fun a' w' => S w' ∧ wpMix P ops Q S rest fs a' w') Q) ∨ (Region.wanted o (yielded ops a.tmps) = false ∧ wpMix P ops Q S rest fs (a.put o.dst undef) w)
  | _, _, a, w => Q .normal a w
def mixB (md : Region.Mode) (ops : Array Oper) : List Bool → Nat → Array Bool → Bool
  | [], _, listed => (Region.ready md ops listed).isEmpty
  | false :: fs, k, listed => (Region.ready md ops listed).contains k && Region.free md ops listed k && mixB md ops fs (k + 1) (listed.setIfInBounds k true)
  | true :: fs, k, listed => decide (Region.ready md ops listed = [k]) && mixB md ops fs (k + 1) (listed.setIfInBounds k true)

theorem anyH_mix (hsel : Region.noSelect ops = true) (hQ : ∀ c (o : Option Tmp) v a w, Q (.panic c) (a.put o v) w → Q (.panic c) a w) :
    ∀ (fs : List Bool) (l : List Oper) (k : Nat) (listed : Array Bool) (a : Act) (w : World), l.length = fs.length → (∀ j, l[j]? = ops[k + j]?) → S w → mixB md ops fs k listed = true → wpMix P ops Q S l fs a w → wpAnyH P md ops Q S fs.length listed a w
  | [], [], _, _, _, _, _, _, _, hB, h => ⟨by simpa [mixB] using hB, by simpa [wpMix] using h⟩
  | f :: fs, [], _, _, _, _, hl, _, _, _, _ => by simp at hl
  | [], _ :: _, _, _, _, _, hl, _, _, _, _ => by simp at hl
  | false :: fs, o :: l, k, listed, a, w, hl, hk, hS, hB, h => by
    have h0 : ops[k]? = some o := by simpa using (hk 0).symm
    simp only [wpMix] at h
    obtain ⟨v, hy, hK⟩ := h
    simp only [mixB, Bool.and_eq_true] at hB
    obtain ⟨⟨hr, hf⟩, hB'⟩ := hB
    exact wpAnyH_take h0 hsel hf hr (fun c a w => hQ c o.dst v a w) hy hS (anyH_mix hsel hQ fs l (k + 1) _ _ w (by simpa using hl) (fun j => by have := hk (j + 1); simpa [Nat.add_assoc, Nat.add_comm 1 j] using this) hS hB' hK)
  | true :: fs, o :: l, k, listed, a, w, hl, hk, hS, hB, h => by
    have h0 : ops[k]? = some o := by simpa using (hk 0).symm
    simp only [wpMix] at h
    simp only [mixB, Bool.and_eq_true, decide_eq_true_eq] at hB
    refine wpAnyH_all (rs := [k]) hB.1 (by simp) fun i hi => ?_
    have hik : i = k := by simpa using hi
    subst hik
    have hw : wpOp P ops Q i (fun a' w' => S w' ∧ wpMix P ops Q S l fs a' w') a w := by
      unfold wpOp
      rcases h with ⟨h1, h2⟩ | ⟨h1, h2⟩
      · simp only [h0, h1, if_true]
        exact .inl h2
      · simp only [h0, h1]
        exact ⟨hS, h2⟩
    exact wpOp_mono (fun a' w' h' => ⟨h'.1, anyH_mix hsel hQ fs l (i + 1) _ a' w' (by simpa using hl) (fun j => by have := hk (j + 1); simpa [Nat.add_assoc, Nat.add_comm 1 j] using this) h'.1 hB.2 h'.2⟩) hw

/-- The operations of a function's region. -/
def regOf (n : Nat) : Code → List (Array Oper)
  | .region id ops _ => if id == n then [ops] else []
  | .seq a b => regOf n a ++ regOf n b
  | .cond _ a b => regOf n a ++ regOf n b
  | .block _ b => regOf n b
  | .loop b => regOf n b
  | .scope b => regOf n b
  | .rangeFunc _ _ a b => regOf n a ++ regOf n b
  | _ => []
def opsOf (f : Func) (n : Nat) : Array Oper := ((f.body.map (regOf n)).getD []).headD #[]
def mixedB (ops : Array Oper) (fs : List Bool) : Bool := decide (fs.length = ops.size) && Region.noSelect ops && mixB .any ops fs 0 (Array.replicate ops.size false)

/-- The law: the order is shown beforehand, of the operations as the function's text has them. -/
theorem wp_region_mix {id : Nat} {a : Act} {w : World} {ops' : Array Oper} {l : List Oper} {fs : List Bool} (hB : mixedB ops' fs = true) (S : World → Prop) (hm : P.follows .mixedOrders = true) (he : ops' = l.toArray)
    (hQ : ∀ c (o : Option Tmp) v a w, Q (.panic c) (a.put o v) w → Q (.panic c) a w) (hS : S w.drew)
    (h : wpMix P l.toArray Q S l fs a w.drew) : (Code.region id l.toArray true).wp P Q a w := by
  subst he
  simp only [mixedB, Bool.and_eq_true, decide_eq_true_eq] at hB
  obtain ⟨⟨hn, hsel⟩, hB⟩ := hB
  refine wp_region_held_drew (S := S) hm hS fun _ => ?_
  have H := anyH_mix (P := P) (md := .any) hsel hQ fs l 0 (Array.replicate l.toArray.size false) a _ (by simpa using hn.symm) (fun j => by simp) hS hB h
  rw [hn] at H
  exact H

variable {o : Oper} {rest : List Oper} {fs : List Bool} {a : Act} {w : World}
theorem mix_take (v : Value) (hw : Region.wanted o (yielded ops a.tmps) = true) (h : ∀ w, S w → (execOp a.eval o).run P w = .ok (.value v) w)
    (c : wpMix P ops Q S rest fs (a.put o.dst v) w) : wpMix P ops Q S (o :: rest) (false :: fs) a w := by
  simp only [wpMix]
  exact ⟨v, .inl ⟨hw, h⟩, c⟩
theorem mix_skip (hw : Region.wanted o (yielded ops a.tmps) = false)
    (c : wpMix P ops Q S rest fs (a.put o.dst undef) w) : wpMix P ops Q S (o :: rest) (false :: fs) a w := by
  simp only [wpMix]
  exact ⟨undef, .inr ⟨hw, rfl⟩, c⟩
theorem mix_skip' (hw : Region.wanted o (yielded ops a.tmps) = false)
    (c : wpMix P ops Q S rest fs (a.put o.dst undef) w) : wpMix P ops Q S (o :: rest) (true :: fs) a w := by
  simp only [wpMix]
  exact .inr ⟨hw, c⟩
theorem mix_step (hw : Region.wanted o (yielded ops a.tmps) = true)
    (h : ∀ K : Act → World → Prop, Shut (∀ a' w', S w' → wpMix P ops Q S rest fs a' w' → K a' w') → o.wp P a w K Q) : wpMix P ops Q S (o :: rest) (true :: fs) a w := by
  simp only [wpMix]
  exact .inl ⟨hw, h _ fun _ _ h1 h2 => ⟨h1, h2⟩⟩
theorem mix_nil (h : Q .normal a w) : wpMix P ops Q S [] fs a w := by
  cases fs <;> simpa [wpMix] using h
end
end Lk
end Go.Proofs.Ytioiffhbbhlgeaa
