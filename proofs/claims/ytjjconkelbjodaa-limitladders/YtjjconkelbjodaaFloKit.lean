/- General, over any program: a region that draws its order and makes ONE block at whatever place of it ('x := T{f(), g()}'): gone through in an order that is given, once for all places. What is known of the world is told by T, before and behind the making. -/
import Derived.Test.YtjjconkelbjodaaOrdKit
import Derived.Test.YtjjconkelbjodaaObjKit
namespace Go.Proofs.Ytjjconkelbjodaa
namespace Lk
open Go

section
variable {P : Program} {Q : Exit → Act → World → Prop} {md : Region.Mode} {S : World → Prop} {o : Oper} {a : Act} {w : World} {l : List Oper} {j dj : Nat} {ob : Obj} {tail : List (Nat × Bool)}

theorem put_self (a : Act) (d : Nat) : a.put (some d) (a.tmps.getD d undef) = a := by
  cases a with
  | mk tmps defers =>
    simp only [Act.put, Act.mk.injEq, and_true]
    apply Array.ext_getElem?
    intro i
    by_cases h : d = i
    · subst h
      rcases Nat.lt_or_ge d tmps.size with h | h
      · simp [h]
      · simp [Array.getElem?_eq_none h]; omega
    · rw [Array.getElem?_setIfInBounds_ne h]
theorem put_put (a : Act) (d : Nat) (x y : Value) : (a.put (some d) x).put (some d) y = a.put (some d) y := by
  simp [Act.put]

/-- What T must keep: it tells S, and goes on behind the making. -/
structure Flo (S : World → Prop) (ob : Obj) (T : Option Nat → World → Prop) : Prop where
  s : ∀ om W, T om W → S W
  al : ∀ W, T none W → T (some W.heap.size) (W.alloc ob)

def wpFlo (P : Program) (l : List Oper) (Q : Exit → Act → World → Prop) (S : World → Prop) (dj : Nat) (ob : Obj) (tail : List (Nat × Bool)) : List (Nat × Bool) → (Option Nat → World → Prop) → Act → Prop
  | [], T, a => ∀ m W, T (some m) W → wpOrd P l Q S tail (a.put (some dj) (.pointer (some ⟨m, 0, none⟩))) W
  | (k, false) :: r, T, a => ∃ o v, nth l k = some o ∧ o.dst ≠ some dj ∧ (∀ x, YieldsIf P l.toArray S o v (a.put (some dj) x)) ∧ wpFlo P l Q S dj ob tail r T (a.put o.dst v)
  | (k, true) :: r, T, a => ∃ (o : Oper) (v : Value) (T' : Option Nat → World → Prop), nth l k = some o ∧ o.dst ≠ some dj ∧ Flo S ob T' ∧
      (∀ om x W, T om W → Region.wanted o (yielded l.toArray (a.put (some dj) x).tmps) = true ∧ o.wp P (a.put (some dj) x) W (fun a' W' => a' = (a.put (some dj) x).put o.dst v ∧ T' om W') Q) ∧ wpFlo P l Q S dj ob tail r T' (a.put o.dst v)

def preB (md : Region.Mode) (ops : Array Oper) (j : Nat) (tail : List (Nat × Bool)) : List (Nat × Bool) → Array Bool → Bool
  | [], listed => decide (Region.ready md ops listed = [j]) && ordB md ops tail (listed.setIfInBounds j true)
  | (k, false) :: r, listed => (Region.ready md ops listed).contains k && Region.free md ops listed k && preB md ops j tail r (listed.setIfInBounds k true)
  | (k, true) :: r, listed => decide (Region.ready md ops listed = [k, j] ∨ Region.ready md ops listed = [j, k]) && ordB md ops ((k, true) :: r ++ tail) (listed.setIfInBounds j true) && preB md ops j tail r (listed.setIfInBounds k true)
def isAlloc (o : Oper) (dj : Nat) : Bool := o.guard.isNone && decide (o.dst = some dj) && match o.op with | .alloc _ => true | _ => false
def floatB (ops : Array Oper) (j dj : Nat) (fs tail : List (Nat × Bool)) : Bool :=
  decide (fs.length + 1 + tail.length = ops.size) && Region.noSelect ops && ((ops[j]?).map (isAlloc · dj)).getD false && preB .any ops j tail fs (Array.replicate ops.size false)

theorem dst_comm {o : Oper} (a : Act) (x v : Value) (h : o.dst ≠ some dj) : (a.put (some dj) x).put o.dst v = (a.put o.dst v).put (some dj) x :=
  Act.put_comm a x v (fun d hd he => h (by injection hd with hd; rw [hd]; exact he))

theorem flo_done (hsel : Region.noSelect l.toArray = true) (hQ : ∀ c (o : Option Tmp) v a w, Q (.panic c) (a.put o v) w → Q (.panic c) a w) :
    ∀ (fs : List (Nat × Bool)) (T : Option Nat → World → Prop) (listed : Array Bool) (a : Act) (m : Nat) (w : World), Flo S ob T → T (some m) w → ordB md l.toArray (fs ++ tail) listed = true → wpFlo P l Q S dj ob tail fs T a →
      wpAnyH P md l.toArray Q S (fs.length + tail.length) listed (a.put (some dj) (.pointer (some ⟨m, 0, none⟩))) w
  | [], T, listed, a, m, w, hF, hT, hB, h => by
    simpa using anyH_ord hsel hQ tail listed _ w (hF.s _ _ hT) hB (h m w hT)
  | (k, false) :: r, T, listed, a, m, w, hF, hT, hB, h => by
    obtain ⟨o, v, h0, hd, hy, hK⟩ := h
    have h0' : l.toArray[k]? = some o := by rw [← h0, nth_eq]; simp
    simp only [List.cons_append, ordB, Bool.and_eq_true] at hB
    obtain ⟨⟨hr, hf⟩, hB'⟩ := hB
    have hl : ((k, false) :: r).length + tail.length = (r.length + tail.length) + 1 := by simp; omega
    rw [hl]
    refine wpAnyH_take h0' hsel hf hr (fun c a w => hQ c o.dst v a w) (hy _) (hF.s _ _ hT) ?_
    rw [dst_comm a _ v hd]
    exact flo_done hsel hQ r T _ _ m w hF hT hB' hK
  | (k, true) :: r, T, listed, a, m, w, hF, hT, hB, h => by
    obtain ⟨o, v, T', h0, hd, hF', hs, hK⟩ := h
    have h0' : l.toArray[k]? = some o := by rw [← h0, nth_eq]; simp
    simp only [List.cons_append, ordB, Bool.and_eq_true, decide_eq_true_eq] at hB
    have hl : ((k, true) :: r).length + tail.length = (r.length + tail.length) + 1 := by simp; omega
    rw [hl]
    refine wpAnyH_all (rs := [k]) hB.1 (by simp) fun i hi => ?_
    have hik : i = k := by simpa using hi
    subst hik
    obtain ⟨hw, hp⟩ := hs (some m) (.pointer (some ⟨m, 0, none⟩)) w hT
    have hop : wpOp P l.toArray Q i (fun a' W' => a' = (a.put (some dj) (.pointer (some ⟨m, 0, none⟩))).put o.dst v ∧ T' (some m) W') (a.put (some dj) (.pointer (some ⟨m, 0, none⟩))) w := by
      unfold wpOp
      simp only [h0', hw, if_true]
      exact .inl hp
    refine wpOp_mono (fun a' w' h' => ⟨hF'.s _ _ h'.2, ?_⟩) hop
    rw [h'.1, dst_comm a _ v hd]
    exact flo_done hsel hQ r T' _ _ m w' hF' h'.2 hB.2 hK

theorem flo_made (hj : ((l.toArray[j]?).map (isAlloc · dj)).getD false = true) (hA : ∀ o, nth l j = some o → ∀ (a : Act) W, (execOp a.eval o).run P W = .ok (.value (.pointer (some ⟨W.heap.size, 0, none⟩))) (W.alloc ob))
    {K : Act → World → Prop} {a : Act} {x : Value} {W : World} (h : K (a.put (some dj) (.pointer (some ⟨W.heap.size, 0, none⟩))) (W.alloc ob)) : wpOp P l.toArray Q j K (a.put (some dj) x) W := by
  cases e : l.toArray[j]? with
  | none => rw [e] at hj; simp at hj
  | some o =>
    have h0 : nth l j = some o := by rw [nth_eq]; simpa using e
    rw [e] at hj
    simp only [Option.map_some, Option.getD_some, isAlloc, Bool.and_eq_true, decide_eq_true_eq] at hj
    obtain ⟨⟨hg, hd⟩, _⟩ := hj
    have hw : Region.wanted o (yielded l.toArray (a.put (some dj) x).tmps) = true := by
      unfold Region.wanted
      rw [Option.isNone_iff_eq_none.1 hg]
    unfold wpOp
    simp only [e, hw, if_true, Oper.wp, hA o h0, Oper.upon]
    refine .inl ?_
    rw [hd, put_put]
    exact h

theorem flo_pre (hsel : Region.noSelect l.toArray = true) (hQ : ∀ c (o : Option Tmp) v a w, Q (.panic c) (a.put o v) w → Q (.panic c) a w)
    (hj : ((l.toArray[j]?).map (isAlloc · dj)).getD false = true) (hA : ∀ o, nth l j = some o → ∀ (a : Act) W, (execOp a.eval o).run P W = .ok (.value (.pointer (some ⟨W.heap.size, 0, none⟩))) (W.alloc ob)) :
    ∀ (fs : List (Nat × Bool)) (T : Option Nat → World → Prop) (listed : Array Bool) (a : Act) (x : Value) (w : World), Flo S ob T → T none w → preB md l.toArray j tail fs listed = true → wpFlo P l Q S dj ob tail fs T a →
      wpAnyH P md l.toArray Q S (fs.length + tail.length + 1) listed (a.put (some dj) x) w
  | [], T, listed, a, x, w, hF, hT, hB, h => by
    simp only [preB, Bool.and_eq_true, decide_eq_true_eq] at hB
    refine wpAnyH_all (rs := [j]) hB.1 (by simp) fun i hi => ?_
    have hij : i = j := by simpa using hi
    subst hij
    have hT' := hF.al w hT
    exact flo_made hj hA ⟨hF.s _ _ hT', flo_done hsel hQ [] T _ a _ _ hF hT' hB.2 h⟩
  | (k, false) :: r, T, listed, a, x, w, hF, hT, hB, h => by
    obtain ⟨o, v, h0, hd, hy, hK⟩ := h
    have h0' : l.toArray[k]? = some o := by rw [← h0, nth_eq]; simp
    simp only [preB, Bool.and_eq_true] at hB
    obtain ⟨⟨hr, hf⟩, hB'⟩ := hB
    have hl : ((k, false) :: r).length + tail.length + 1 = (r.length + tail.length + 1) + 1 := by simp; omega
    rw [hl]
    refine wpAnyH_take h0' hsel hf hr (fun c a w => hQ c o.dst v a w) (hy _) (hF.s _ _ hT) ?_
    rw [dst_comm a _ v hd]
    exact flo_pre hsel hQ hj hA r T _ _ x w hF hT hB' hK
  | (k, true) :: r, T, listed, a, x, w, hF, hT, hB, h => by
    have h' := h
    obtain ⟨o, v, T', h0, hd, hF', hs, hK⟩ := h
    have h0' : l.toArray[k]? = some o := by rw [← h0, nth_eq]; simp
    simp only [preB, Bool.and_eq_true, decide_eq_true_eq] at hB
    obtain ⟨⟨hr, hB1⟩, hB2⟩ := hB
    have hl : ((k, true) :: r).length + tail.length + 1 = (r.length + tail.length + 1) + 1 := by simp; omega
    rw [hl]
    have go : ∀ i, i = k ∨ i = j → wpOp P l.toArray Q i (fun a' w' => S w' ∧ wpAnyH P md l.toArray Q S (r.length + tail.length + 1) (listed.setIfInBounds i true) a' w') (a.put (some dj) x) w := by
      intro i hi
      rcases hi with rfl | rfl
      · obtain ⟨hw, hp⟩ := hs none x w hT
        have hop : wpOp P l.toArray Q i (fun a' W' => a' = (a.put (some dj) x).put o.dst v ∧ T' none W') (a.put (some dj) x) w := by
          unfold wpOp
          simp only [h0', hw, if_true]
          exact .inl hp
        refine wpOp_mono (fun a' w' h' => ⟨hF'.s _ _ h'.2, ?_⟩) hop
        rw [h'.1, dst_comm a _ v hd]
        exact flo_pre hsel hQ hj hA r T' _ _ x w' hF' h'.2 hB2 hK
      · have hT' := hF.al w hT
        refine flo_made hj hA ⟨hF.s _ _ hT', ?_⟩
        have := flo_done hsel hQ ((k, true) :: r) T (listed.setIfInBounds i true) a _ _ hF hT' hB1 h'
        rwa [show ((k, true) :: r).length + tail.length = r.length + tail.length + 1 from by simp; omega] at this
    rcases hr with hr | hr
    · exact wpAnyH_all hr (by simp) fun i hi => go i (by simpa using hi)
    · exact wpAnyH_all hr (by simp) fun i hi => go i (by have : i = j ∨ i = k := by simpa using hi
                                                         exact this.symm)

/-- The law: the order is shown beforehand, of the operations as the function's text has them. -/
theorem wp_region_floating {id : Nat} {ops' : Array Oper} {fs : List (Nat × Bool)} (hB : floatB ops' j dj fs tail = true) (S : World → Prop) (T : Option Nat → World → Prop) (ob : Obj) (hm : P.follows .mixedOrders = true) (he : ops' = l.toArray)
    (hQ : ∀ c (o : Option Tmp) v a w, Q (.panic c) (a.put o v) w → Q (.panic c) a w)
    (hA : ∀ o, nth l j = some o → ∀ (a : Act) W, (execOp a.eval o).run P W = .ok (.value (.pointer (some ⟨W.heap.size, 0, none⟩))) (W.alloc ob))
    (hF : Flo S ob T) (hT : T none w.drew)
    (h : wpFlo P l Q S dj ob tail fs T a) : (Code.region id l.toArray true).wp P Q a w := by
  subst he
  simp only [floatB, Bool.and_eq_true, decide_eq_true_eq] at hB
  obtain ⟨⟨⟨hn, hsel⟩, hj⟩, hB⟩ := hB
  refine wp_region_held_drew (S := S) hm (hF.s _ _ hT) fun _ => ?_
  have H := flo_pre (P := P) (md := .any) hsel hQ hj hA fs T (Array.replicate l.toArray.size false) a (a.tmps.getD dj undef) _ hF hT hB h
  rw [put_self, show fs.length + tail.length + 1 = l.toArray.size from by omega] at H
  exact H

variable {k : Nat} {r : List (Nat × Bool)} {T : Option Nat → World → Prop}
theorem flo_take (v : Value) (ho : nth l k = some o) (hd : o.dst ≠ some dj) (hw : ∀ x, Region.wanted o (yielded l.toArray (a.put (some dj) x).tmps) = true) (h : ∀ x w, S w → (execOp (a.put (some dj) x).eval o).run P w = .ok (.value v) w)
    (c : wpFlo P l Q S dj ob tail r T (a.put o.dst v)) : wpFlo P l Q S dj ob tail ((k, false) :: r) T a := ⟨o, v, ho, hd, fun x => .inl ⟨hw x, h x⟩, c⟩
theorem flo_step (v : Value) (T' : Option Nat → World → Prop) (hF' : Flo S ob T') (ho : nth l k = some o) (hd : o.dst ≠ some dj) (hw : ∀ x, Region.wanted o (yielded l.toArray (a.put (some dj) x).tmps) = true)
    (h : ∀ om x W, T om W → ∀ K : Act → World → Prop, Shut (∀ a' W', a' = (a.put (some dj) x).put o.dst v → T' om W' → K a' W') → o.wp P (a.put (some dj) x) W K Q)
    (c : wpFlo P l Q S dj ob tail r T' (a.put o.dst v)) : wpFlo P l Q S dj ob tail ((k, true) :: r) T a :=
  ⟨o, v, T', ho, hd, hF', fun om x W hT => ⟨hw x, h om x W hT _ fun _ _ h1 h2 => ⟨h1, h2⟩⟩, c⟩
theorem flo_nil (h : ∀ m W, T (some m) W → wpOrd P l Q S tail (a.put (some dj) (.pointer (some ⟨m, 0, none⟩))) W) : wpFlo P l Q S dj ob tail [] T a := h

/-- The usual T: blocks that are known, and the new one. -/
def fl (ob : Obj) : Option Nat → List (Nat × Obj)
  | none => []
  | some m => [(m, ob)]
/-- .. and the new one lies behind block e. -/
def FT (w : World) (ob : Obj) (L : List (Nat × Obj)) (e : Nat) (om : Option Nat) (W : World) : Prop := Hv w W (fl ob om ++ L) ∧ ∀ m, om = some m → e < m
theorem FT.flo {L : List (Nat × Obj)} {e : Nat} {x : Obj} (he : (e, x) ∈ L) (hs : ∀ om W, Hv w W (fl ob om ++ L) → S W) : Flo S ob (FT w ob L e) :=
  ⟨fun om W h => hs om W h.1, fun W h => ⟨h.1.made ob, fun m hm => by injection hm with hm; subst hm; exact h.1.lt (e := (e, x)) he⟩⟩
theorem FT.zero {L : List (Nat × Obj)} {e : Nat} {W : World} (h : Hv w W L) : FT w ob L e none W := ⟨h, fun _ hm => by cases hm⟩
theorem FT.go {L : List (Nat × Obj)} {e : Nat} {om : Option Nat} {W W' : World} (h : FT w ob L e om W) (hv : Hv w W' (fl ob om ++ L)) : FT w ob L e om W' := ⟨hv, h.2⟩
theorem FT.hv {L : List (Nat × Obj)} {e : Nat} {om : Option Nat} {W : World} (h : FT w ob L e om W) : Hv w W (fl ob om ++ L) := h.1
theorem FT.end {L : List (Nat × Obj)} {e m : Nat} {W : World} (h : FT w ob L e (some m) W) : Hv w W ((m, ob) :: L) ∧ e < m := ⟨h.1, h.2 m rfl⟩
end
end Lk
end Go.Proofs.Ytjjconkelbjodaa
