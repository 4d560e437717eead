/- What the walks of layer 5's statements carry. -/
import Derived.Test.YtegjkbebnnpdcaaLinkAwake
import Derived.Test.YtegjkbebnnpdcaaLinkOpen
import Derived.Deep.RegionHeld3
namespace Go.Proofs.Ytegjkbebnnpdcaa
namespace Lw
open Go.RowKit

/-- Blocks that are known, and all that lay as it was. -/
structure Hv (w W : World) (L : List (Nat × Obj)) : Prop where
  has : ∀ e ∈ L, W.heap[e.1]? = some e.2
  old : Below w.heap.size w W
namespace Hv
variable {w W W' : World} {L : List (Nat × Obj)}
theorem lt (h : Hv w W L) {e : Nat × Obj} (he : e ∈ L) : e.1 < W.heap.size := (Array.getElem?_eq_some_iff.1 (h.has e he)).1
theorem below {K : Nat} (h : Hv w W L) (hb : Below K W W') (hK : W.heap.size ≤ K) : Hv w W' L :=
  ⟨fun e he => (hb.block e.1 (by have := h.lt he; omega)).trans (h.has e he), h.old.trans (hb.mono (by have := h.old.size; omega))⟩
theorem grow (h : Hv w W L) (hb : Below W.heap.size W W') : Hv w W' L := h.below hb (Nat.le_refl _)
theorem alloc (h : Hv w W L) (o : Obj) : Hv w (W.alloc o) L := h.grow ((Below.refl W.heap.size W).alloc (Nat.le_refl _) o)
theorem drew (h : Hv w W L) : Hv w W.drew L := ⟨h.has, h.old.drew⟩
theorem add (h : Hv w W L) (e : Nat × Obj) (he : W.heap[e.1]? = some e.2) : Hv w W (e :: L) := ⟨fun x hx => (List.mem_cons.1 hx).elim (fun q => q ▸ he) (h.has x), h.old⟩
theorem made (h : Hv w W L) (o : Obj) : Hv w (W.alloc o) ((W.heap.size, o) :: L) := (h.alloc o).add _ (heap_alloc_last W o)
theorem off {j : Nat} (h : Hv w W L) (ho : Crc.Off j W W') (hj : ∀ e ∈ L, e.1 ≠ j) (h3 : w.heap.size ≤ j) : Hv w W' L :=
  ⟨fun e he => (ho.block e.1 (hj e he)).trans (h.has e he), h.old.trans (ho.below h3)⟩
/-- A packet stored into a new block. -/
theorem put {o : Obj} {q : Ln.Pk} (h : Hv w W L) (hP : Pkt W' W.heap.size q) (ho : Crc.Off W.heap.size (W.alloc o) W') : Hv w W' ((W.heap.size, .cells (pc q) 26 (0, 0)) :: L) :=
  ((h.alloc o).off ho (fun e he => by have := h.lt he; omega) h.old.size).add _ hP
theorem nil (w : World) : Hv w w [] := ⟨fun _ h => (List.not_mem_nil h).elim, Below.refl _ _⟩
end Hv
/-- A row of bytes as an object. -/
theorem row_obj {W : World} {g : Nat} {l : List Nat} (h : Crc.RowB W g l) : ∃ o, W.heap[g]? = some o ∧ ∀ W', W'.heap[g]? = some o → Crc.RowB W' g l := by
  obtain ⟨cur, h1, h2⟩ := h.row
  exact ⟨_, h1, fun W' h' => ⟨cur, h', h2⟩⟩
/-- A packet's cells, as a list. -/
def pl (p : Ln.Pk) : List Value := (pc p).toList
theorem pl_len (p : Ln.Pk) : (Try.prog.info? 26).map (·.size) = some (pl p).length := info_pk
theorem range_pk {W : World} {k : Nat} {p : Ln.Pk} (h : Pkt W k p) : W.rangeAt k 0 (pl p) := fun j v hv => by
  rw [Nat.zero_add]
  exact h.cell j (by simpa [pl] using hv)
theorem eq_pl (p q : Ln.Pk) (w : World) : (binOp .eql 26 (.agg (pl p).toArray) (.agg (pl q).toArray)).run Try.prog w = .ok (.bool (same p q)) w := eq_pk p q w
theorem ne_pl (p q : Ln.Pk) (w : World) : (binOp .neq 26 (.agg (pl p).toArray) (.agg (pl q).toArray)).run Try.prog w = .ok (.bool (!same p q)) w := ne_pk p q w
theorem enc_same {p q : Ln.Pk} (hp : Ln.okB p = true) (hq : Ln.okB q = true) : ((Crc.str (Ln.enc p)).toList == (Crc.str (Ln.enc q)).toList) = same p q := by
  rw [str_dec (Ln.enc_bytes p) (Ln.enc_bytes q)]
  by_cases e : p = q
  · subst e; rw [same_refl, beq_self_eq_true]
  · have h1 : ¬ Ln.enc p = Ln.enc q := fun h => e (Ln.enc_inj (Ln.okB_iff.1 hp) (Ln.okB_iff.1 hq) h)
    rw [beq_eq_false_iff_ne.2 h1]
    cases h : same p q
    · rfl
    · exact absurd (same_iff.1 h) e
end Lw
end Go.Proofs.Ytegjkbebnnpdcaa
