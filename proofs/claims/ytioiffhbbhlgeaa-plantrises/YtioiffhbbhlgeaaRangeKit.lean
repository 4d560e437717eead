/- General, over any program: a loop over a function, at the fence that lets every call by, its loop variable boxed in each round: the kit's law, with the frame of a round told off the frame of the loop; and blocks of cells that are known whole. -/
import Derived.RangeFuncNested
import Derived.RangeFuncBound
import Derived.RangeFuncCalls
import Derived.RangeFuncLeaves
import Derived.RangeFuncBox
import Derived.Below
namespace Go.Proofs.Ytioiffhbbhlgeaa
namespace Lk
open Go Go.RowKit

/-- A block of cells, known whole. -/
def BoxV (W : World) (B t : Nat) (vs : Array Value) : Prop := W.heap[B]? = some (.cells vs t (0, 0))
theorem BoxV.lt {W : World} {B t : Nat} {vs : Array Value} (h : BoxV W B t vs) : B < W.heap.size := (Array.getElem?_eq_some_iff.1 h).1
theorem BoxV.new (W : World) (t : Nat) (vs : Array Value) : BoxV (W.alloc (.cells vs t)) W.heap.size t vs := World.alloc_heap_new W _
theorem BoxV.alloc {W : World} {B t : Nat} {vs : Array Value} (h : BoxV W B t vs) (o : Obj) : BoxV (W.alloc o) B t vs := (Below.heap_alloc W o B h.lt).trans h
theorem BoxV.drew {W : World} {B t : Nat} {vs : Array Value} (h : BoxV W B t vs) : BoxV W.drew B t vs := h
theorem BoxV.below {W W' : World} {B t n : Nat} {vs : Array Value} (h : BoxV W B t vs) (hb : Below n W W') (hB : B < n) : BoxV W' B t vs := (hb.block B hB).trans h
theorem BoxV.other {W : World} {B t : Nat} {vs : Array Value} (h : BoxV W B t vs) {p : Addr} (hp : p.block ≠ B) (v : Value) : BoxV (W.setCell p v) B t vs := (Below.heap_setCell W p v B (Ne.symm hp)).trans h
theorem BoxV.set {W : World} {B t : Nat} {v : Value} (v' : Value) (h : BoxV W B t #[v]) : BoxV (W.setCell ⟨B, 0, none⟩ v') B t #[v'] := Boxed.set v' h
theorem BoxV.cell {W : World} {B t : Nat} {vs : Array Value} (h : BoxV W B t vs) (i : Nat) : W.cell? ⟨B, i, none⟩ = vs[i]? := by simp [World.cell?, show W.heap[B]? = _ from h]
theorem BoxV.frozen {W : World} {B t : Nat} {vs : Array Value} (h : BoxV W B t vs) (i : Nat) : W.frozen? ⟨B, i, none⟩ = false := by simp [World.frozen?, show W.heap[B]? = _ from h]
theorem BoxV.kept {W W' : World} {row : Option Nat} {B t : Nat} {vs : Array Value} (h : BoxV W B t vs) (hg : W.grownBy W' row) (hr : ∀ r, row = some r → ∃ o : Obj, W.heap[r]? = some o ∧ o.isCells = false) : BoxV W' B t vs := by
  refine (hg.block B h.lt (fun e => ?_)).trans h
  obtain ⟨o, ho, hc⟩ := hr B e.symm
  rw [show W.heap[B]? = _ from h] at ho
  cases ho
  cases hc
theorem boxV_own {β : Type} (B t : Nat) (vs : β → Array Value) : Own (fun (s : β) W => BoxV W B t (vs s)) := fun _ _ _ _ hs hg hr => BoxV.kept hs hg hr
theorem BoxV.put {W : World} {B t D : Nat} {vs : Array Value} (h : BoxV W B t vs) {o : Obj} (o' : Obj) (hK : W.heap[D]? = some o) (ho : o.isCells = false) : BoxV (W.putObj D o') B t vs :=
  h.kept (grownBy_putObj' _ D o') (fun r e => by cases e; exact ⟨_, hK, ho⟩)
theorem ownFrom_pure {β : Type} (B : Nat) (p : β → Prop) : OwnFrom B (fun (s : β) (_ : World) => p s) := fun _ _ _ _ hs _ _ => hs
theorem ownFrom_size {β : Type} (B m : Nat) : OwnFrom B (fun (_ : β) (W : World) => m ≤ W.heap.size) := fun _ _ _ _ hs hg _ => Nat.le_trans hs hg.size
/-- A call that leaves what lay leaves whatever is no cells. -/
theorem keeps_of_below {W W' : World} (h : Below W.heap.size W W') : KeepsOthers W W' := ⟨h.size, fun k _ hk _ => (h.block k (Array.getElem?_eq_some_iff.1 hk).1).trans hk⟩

/-- The box of a loop's variable, and the frame of its round. -/
def RoundAt {α : Type} (lo t p q : Nat) (val : α → Value) (cs : α → Array Value) (a : Act) (x : α) (a' : Act) (W : World) : Prop :=
  ∃ Bx, lo ≤ Bx ∧ BoxV W Bx t (cs x) ∧ a' = { tmps := (a.tmps.setIfInBounds p (val x)).setIfInBounds q (.pointer (some ⟨Bx, 0, none⟩)), defers := [] }
theorem roundAt_own {α : Type} (B lo t p q : Nat) (val : α → Value) (cs : α → Array Value) (a : Act) (x : α) (a' : Act) : OwnFrom B (fun (_ : Unit) W => RoundAt lo t p q val cs a x a' W) := by
  rintro _ W W' row ⟨Bx, h1, h2, h3⟩ hg hr
  exact ⟨Bx, h1, h2.kept hg (fun r e => (hr r e).2), h3⟩

theorem rangeH {P : Program} {n : Nat} {α : Type} {g : Operand} {ps : Array Tmp} {assign body : Code} {Q : Exit → Act → World → Prop} {a : Act} {w : World}
    (h1 : 1 ≤ n) {gf : Nat} {lb : Array Value} (hg : a.eval g = .func (.func gf) #[] lb) (eg : ∀ args w, (callFunc gf args).run P w = .ok (.enter gf args) w)
    {encs : α → Array Value} {Kp : World → World → Prop} {S Sp : List α → Prop} {N : Nat} (hseq : SeqStopsK Fence.wide (n - 1) P gf lb encs Kp S Sp N w)
    (hKt : ∀ {A B C : World}, Kp A B → Kp B C → Kp A C) (hKb : ∀ (W : World) (l : Nat) (o o' : Obj), w.heap.size ≤ l → W.heap[l]? = some o → o.isCells = false → o.isWalk = false → Kp W (W.putObj l o')) (hps : ∀ x, (encs x).size = ps.size)
    (I : List α → World → Prop) (Ix : Code → List α → World → Prop) (hI : OwnFrom w.heap.size I) (hIx : ∀ c, OwnFrom w.heap.size (Ix c)) (h0 : I [] w)
    (lo t p q : Nat) (val : α → Value) (cs : α → Array Value)
    (hassign : ∀ (l : Nat) (pre : List α) (x : α) (W : World) (K : Act → World → Prop), I pre W → (∀ a' W', KeepsFrom w.heap.size W W' → Kp W W' → I pre W' → RoundAt lo t p q val cs a x a' W' → K a' W') →
      assign.wpIn (Fence.wide.inRound l) (n - 1 - 1) P (Exit.then K (fun _ _ _ => False)) { tmps := (ps.zip (encs x)).foldl (fun t (p, v) => t.setIfInBounds p v) a.tmps, defers := [] } W)
    (hbody : ∀ (l : Nat) (pre : List α) (x : α) (Bx : Nat) (W : World), lo ≤ Bx → BoxV W Bx t (cs x) → I pre W → pre.length < N →
      body.wpIn (Fence.wide.inRound l) (n - 1 - 1) P (ownPostG w.heap.size Kp I Ix (pre ++ [x]) W) { tmps := (a.tmps.setIfInBounds p (val x)).setIfInBounds q (.pointer (some ⟨Bx, 0, none⟩)), defers := [] } W)
    (hdone : ∀ (D : Nat) (xs : List α) (W : World), w.heap.size ≤ D → S xs → I xs W → W.heap[D]? = some (.deferred (some [])) → Q .normal { a with defers := { target := .collected D, args := #[] } :: a.defers } W)
    (hstop : ∀ (D : Nat) (c : Code) (pre : List α) (W : World), w.heap.size ≤ D → Sp pre → Ix c pre W → W.heap[D]? = some (.deferred (some [])) → c.wpIn Fence.wide n P Q { a with defers := { target := .collected D, args := #[] } :: a.defers } W) :
    (Code.rangeFunc g ps assign body).wpIn Fence.wide n P Q a w :=
  wpIn_rangeFunc_ownH rfl h1 hg trivial eg hseq hKt hKb (Below.refl _ _) hps I Ix hI hIx h0 (RoundAt lo t p q val cs a) (roundAt_own _ lo t p q val cs a) hassign
    (fun l pre x a' W _ _ hi ⟨Bx, hBx, hb, e⟩ hl => by subst e; exact hbody l pre x Bx W hBx hb hi hl) hdone hstop

/-- The frame of a round whose loop variable lies in no box. -/
def frameU {α : Type} (p q : Nat) (val : α → Value) (a : Act) (x : α) : Act := { tmps := (a.tmps.setIfInBounds p (val x)).setIfInBounds q (val x), defers := [] }
/-- The same, its loop variable in no box. -/
theorem rangeU {P : Program} {n : Nat} {α : Type} {g : Operand} {ps : Array Tmp} {assign body : Code} {Q : Exit → Act → World → Prop} {a : Act} {w : World}
    (h1 : 1 ≤ n) {gf : Nat} {lb : Array Value} (hg : a.eval g = .func (.func gf) #[] lb) (eg : ∀ args w, (callFunc gf args).run P w = .ok (.enter gf args) w)
    {encs : α → Array Value} {Kp : World → World → Prop} {S Sp : List α → Prop} {N : Nat} (hseq : SeqStopsK Fence.wide (n - 1) P gf lb encs Kp S Sp N w)
    (hKt : ∀ {A B C : World}, Kp A B → Kp B C → Kp A C) (hKr : ∀ W : World, Kp W W) (hKb : ∀ (W : World) (l : Nat) (o o' : Obj), w.heap.size ≤ l → W.heap[l]? = some o → o.isCells = false → o.isWalk = false → Kp W (W.putObj l o')) (hps : ∀ x, (encs x).size = ps.size)
    (I : List α → World → Prop) (Ix : Code → List α → World → Prop) (hI : OwnFrom w.heap.size I) (hIx : ∀ c, OwnFrom w.heap.size (Ix c)) (h0 : I [] w)
    (p q : Nat) (val : α → Value)
    (hassign : ∀ (l : Nat) (x : α) (W : World) (K : Act → World → Prop), K (frameU p q val a x) W →
      assign.wpIn (Fence.wide.inRound l) (n - 1 - 1) P (Exit.then K (fun _ _ _ => False)) { tmps := (ps.zip (encs x)).foldl (fun t (p, v) => t.setIfInBounds p v) a.tmps, defers := [] } W)
    (hbody : ∀ (l : Nat) (pre : List α) (x : α) (W : World), I pre W → pre.length < N →
      body.wpIn (Fence.wide.inRound l) (n - 1 - 1) P (ownPostG w.heap.size Kp I Ix (pre ++ [x]) W) (frameU p q val a x) W)
    (hdone : ∀ (D : Nat) (xs : List α) (W : World), w.heap.size ≤ D → S xs → I xs W → W.heap[D]? = some (.deferred (some [])) → Q .normal { a with defers := { target := .collected D, args := #[] } :: a.defers } W)
    (hstop : ∀ (D : Nat) (c : Code) (pre : List α) (W : World), w.heap.size ≤ D → Sp pre → Ix c pre W → W.heap[D]? = some (.deferred (some [])) → c.wpIn Fence.wide n P Q { a with defers := { target := .collected D, args := #[] } :: a.defers } W) :
    (Code.rangeFunc g ps assign body).wpIn Fence.wide n P Q a w :=
  wpIn_rangeFunc_ownH rfl h1 hg trivial eg hseq hKt hKb (Below.refl _ _) hps I Ix hI hIx h0 (fun x a' _ => a' = frameU p q val a x) (fun _ _ _ _ _ _ hs _ _ => hs)
    (fun l pre x W K hi hK => hassign l x W K (hK _ W (KeepsFrom.refl _ _) (hKr W) hi rfl))
    (fun l pre x a' W _ _ hi e hl => by subst e; exact hbody l pre x W hi hl) hdone hstop

end Lk
end Go.Proofs.Ytioiffhbbhlgeaa
