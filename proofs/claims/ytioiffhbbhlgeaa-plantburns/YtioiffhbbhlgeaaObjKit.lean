/- General, over any program: blocks that are known as objects, and all that lay as it was: what a walk carries through its calls and stores. -/
import Derived.Below
import Derived.Deep.WholeRow
import Derived.Deep.MidRow
import Derived.Handy
import Derived.Lib.SmallJoins
import Derived.Laws.Tables
namespace Go.Proofs.Ytioiffhbbhlgeaa
namespace Lk
open Go Go.RowKit

/-- All but block b is as it was. -/
structure Off (b : Nat) (w w' : World) : Prop where
  os : w'.os = w.os
  tape : w'.tape = w.tape
  output : w'.output = w.output
  size : w'.heap.size = w.heap.size
  block : ∀ k, k ≠ b → w'.heap[k]? = w.heap[k]?
namespace Off
variable {b : Nat} {w w' w'' : World}
theorem refl (b : Nat) (w : World) : Off b w w := ⟨rfl, rfl, rfl, rfl, fun _ _ => rfl⟩
theorem trans (h : Off b w w') (k : Off b w' w'') : Off b w w'' := ⟨k.os.trans h.os, k.tape.trans h.tape, k.output.trans h.output, k.size.trans h.size, fun i hi => (k.block i hi).trans (h.block i hi)⟩
theorem set (h : Off b w w') (o : Nat) (v : Value) : Off b w (w'.setCell ⟨b, o, none⟩ v) := h.trans ⟨rfl, rfl, rfl, by simp [World.setCell], fun k hk => Below.heap_setCell _ _ _ _ hk⟩
theorem drew (h : Off b w w') : Off b w w'.drew := ⟨h.os, h.tape, h.output, h.size, h.block⟩
theorem below (h : Off b w w') {m : Nat} (hm : m ≤ b) : Below m w w' := ⟨h.os, h.tape, h.output, Nat.le_of_eq h.size.symm, fun k hk => h.block k (by omega)⟩
theorem cell (h : Off b w w') {p : Addr} (hp : p.block ≠ b) : w'.cell? p = w.cell? p := World.cell?_of_block (w := w) (h.block p.block hp)
theorem row (w : World) (g : Nat) (cs : Array Value) : Off g w (w.setRow g cs) := ⟨rfl, rfl, rfl, by simp, fun k hk => setRow_other w g k cs hk⟩
end Off

theorem wanted {P : Program} {ops : Array Oper} {Q : Exit → Act → World → Prop} {a : Act} {w : World} {rest : List Oper} {o : Oper} (hw : Region.wanted o (yielded ops a.tmps) = true)
    (h : ∀ K : Act → World → Prop, (∀ a w, wpList P ops Q rest a w → K a w) → o.wp P a w K Q) : wpList P ops Q (o :: rest) a w :=
  wpList_step fun K hK => by rw [if_pos hw]; exact h K hK

/-- Blocks that are known, and all that lay as it was. -/
structure Hv (w W : World) (L : List (Nat × Obj)) : Prop where
  has : ∀ e ∈ L, W.heap[e.1]? = some e.2
  old : Below w.heap.size w W
namespace Hv
variable {w W W' : World} {L : List (Nat × Obj)}
theorem lt (h : Hv w W L) {e : Nat × Obj} (he : e ∈ L) : e.1 < W.heap.size := (Array.getElem?_eq_some_iff.1 (h.has e he)).1
theorem below {K : Nat} (h : Hv w W L) (hb : Below K W W') (hK : W.heap.size ≤ K) : Hv w W' L :=
  ⟨fun e he => (hb.block e.1 (by have := h.lt he; omega)).trans (h.has e he), h.old.trans (hb.mono (by have := h.old.size; omega))⟩
theorem grow (h : Hv w W L) (hb : Below W.heap.size W W') : Hv w W' L := h.below hb (Nat.le_refl _)
theorem alloc (h : Hv w W L) (o : Obj) : Hv w (W.alloc o) L := h.grow ((Below.refl W.heap.size W).alloc (Nat.le_refl _) o)
theorem drew (h : Hv w W L) : Hv w W.drew L := ⟨h.has, h.old.drew⟩
theorem add (h : Hv w W L) (e : Nat × Obj) (he : W.heap[e.1]? = some e.2) : Hv w W (e :: L) := ⟨fun x hx => (List.mem_cons.1 hx).elim (fun q => q ▸ he) (h.has x), h.old⟩
theorem made (h : Hv w W L) (o : Obj) : Hv w (W.alloc o) ((W.heap.size, o) :: L) := (h.alloc o).add _ (heap_alloc_last W o)
theorem off {j : Nat} (h : Hv w W L) (ho : Off j W W') (hj : ∀ e ∈ L, e.1 ≠ j) (h3 : w.heap.size ≤ j) : Hv w W' L :=
  ⟨fun e he => (ho.block e.1 (hj e he)).trans (h.has e he), h.old.trans (ho.below h3)⟩
/-- A new block, stored into. -/
theorem put {o o' : Obj} (h : Hv w W L) (hP : W'.heap[W.heap.size]? = some o') (ho : Off W.heap.size (W.alloc o) W') : Hv w W' ((W.heap.size, o') :: L) :=
  ((h.alloc o).off ho (fun e he => by have := h.lt he; omega) h.old.size).add _ hP
theorem nil (w : World) : Hv w w [] := ⟨fun _ h => (List.not_mem_nil h).elim, Below.refl _ _⟩
theorem none (h : Hv w W L) : Hv w W [] := ⟨fun _ h => (List.not_mem_nil h).elim, h.old⟩
theorem tail {e : Nat × Obj} (h : Hv w W (e :: L)) : Hv w W L := ⟨fun x hx => h.has x (List.mem_cons_of_mem _ hx), h.old⟩
theorem head {e : Nat × Obj} (h : Hv w W (e :: L)) : W.heap[e.1]? = some e.2 := h.has e List.mem_cons_self
theorem h2 {e f : Nat × Obj} (h : Hv w W (e :: f :: L)) : W.heap[f.1]? = some f.2 := h.tail.head
theorem h3 {e f g : Nat × Obj} (h : Hv w W (e :: f :: g :: L)) : W.heap[g.1]? = some g.2 := h.tail.tail.head
theorem h4 {e f g k : Nat × Obj} (h : Hv w W (e :: f :: g :: k :: L)) : W.heap[k.1]? = some k.2 := h.tail.tail.tail.head
/-- The first block, stored into. -/
theorem change {j : Nat} {o o' : Obj} (h : Hv w W ((j, o) :: L)) (ho : Off j W W') (hP : W'.heap[j]? = some o') (hj : ∀ e ∈ L, e.1 ≠ j) (h3 : w.heap.size ≤ j) : Hv w W' ((j, o') :: L) := (h.tail.off ho hj h3).add _ hP
end Hv
end Lk
end Go.Proofs.Ytioiffhbbhlgeaa
