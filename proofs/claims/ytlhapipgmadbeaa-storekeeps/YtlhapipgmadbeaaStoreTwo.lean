/- Two stores, each of its own memory, and all that lay. -/
import Derived.Test.YtlhapipgmadbeaaStoreLaw1
namespace Go.Proofs.Ytlhapipgmadbeaa
namespace Sq
open Go.RowKit Nv Nw Sp Lk

theorem mem_keep {W W' : World} {b d b' d' : Nat} {o : M} (h : Mem W b' d' o) (ht : Turn b d W W') (h1 : b' ≠ b) (h2 : b' ≠ d) (h3 : d' ≠ b) (h4 : d' ≠ d) : Mem W' b' d' o :=
  ⟨h.row.of_block (ht.block b' h.lt h1 h2), h.ws.of_block (ht.block d' h.lt' h3 h4), h.ne⟩
structure Two (w W : World) (g b d : Nat) (m : M) (g' b' d' : Nat) (o : M) : Prop where
  a : One w W g b d m
  c : One w W g' b' d' o
  n1 : b ≠ g'
  n2 : b ≠ b'
  n3 : b ≠ d'
  n4 : d ≠ g'
  n5 : d ≠ b'
  n6 : d ≠ d'
  n7 : g ≠ b'
  n8 : g ≠ d'
namespace Two
variable {w W W' : World} {g b d g' b' d' : Nat} {m m' o o' : M}
theorem tA (h : Two w W g b d m g' b' d' o) (ha : One w W' g b d m') (ht : Turn b d W W') : Two w W' g b d m' g' b' d' o := by
  have hk := mem_keep h.c.mm.mem ht (Ne.symm h.n2) (Ne.symm h.n5) (Ne.symm h.n3) (Ne.symm h.n6)
  exact ⟨ha, ⟨h.c.sto.same hk (ht.block g' h.c.sto.lt (Ne.symm h.n1) (Ne.symm h.n4)), ⟨hk, ha.mm.old, h.c.mm.l1, h.c.mm.l2⟩⟩, h.n1, h.n2, h.n3, h.n4, h.n5, h.n6, h.n7, h.n8⟩
theorem tC (h : Two w W g b d m g' b' d' o) (hc : One w W' g' b' d' o') (ht : Turn b' d' W W') : Two w W' g b d m g' b' d' o' := by
  have hk := mem_keep h.a.mm.mem ht h.n2 h.n3 h.n5 h.n6
  exact ⟨⟨h.a.sto.same hk (ht.block g h.a.sto.lt h.n7 h.n8), ⟨hk, hc.mm.old, h.a.mm.l1, h.a.mm.l2⟩⟩, hc, h.n1, h.n2, h.n3, h.n4, h.n5, h.n6, h.n7, h.n8⟩
theorem grow (h : Two w W g b d m g' b' d' o) (hb : Below W.heap.size W W') : Two w W' g b d m g' b' d' o :=
  ⟨h.a.grow hb, h.c.grow hb, h.n1, h.n2, h.n3, h.n4, h.n5, h.n6, h.n7, h.n8⟩
/-- Another store of the first memory. -/
theorem other (h : Two w W g b d m g' b' d' o) (hb : Below W.heap.size W W') {g2 : Nat} (h2 : One w W' g2 b d m) (hg : W.heap.size ≤ g2) : Two w W' g2 b d m g' b' d' o := by
  have h3 := h.c.mm.mem.lt
  have h4 := h.c.mm.mem.lt'
  exact ⟨h2, h.c.grow hb, h.n1, h.n2, h.n3, h.n4, h.n5, h.n6, by omega, by omega⟩
end Two
/-- Records that came in. -/
theorem rec_get {w : World} {A : Option Addr} {L : List R} (h : Rcs w A L) {k : Nat} (hk : k < L.length) : ∃ b o r, A = some ⟨b, o, none⟩ ∧ L[k]? = some r ∧ Hid (∀ W, Below w.heap.size w W → W.rangeAt b (o + k * 3) (rcs r).toList) := by
  obtain ⟨g, o, e, hg, hr⟩ := h k _ (List.getElem?_eq_getElem hk)
  exact ⟨g, o, _, e, List.getElem?_eq_getElem hk, fun W hb j v hv => (hb.cell (p := ⟨g, o + k * 3 + j, none⟩) hg).trans (hr j v hv)⟩
/-- A record loaded out of the midst of a block. -/
theorem ldrm {ops : Array Oper} {rest : List Oper} {op : Oper} {a : Act} {w : World} {Q : Exit → Act → World → Prop} (hw : Region.wanted op (yielded ops a.tmps) = true) (x : Operand) (ho : op.op = .load 37 x)
    (b off : Nat) (r : R) (hx : a.eval x = .pointer (some ⟨b, off, none⟩)) (hP : w.rangeAt b off (rcs r).toList)
    (c : wpList Try.prog ops Q rest (a.put op.dst (.agg (rcs r))) w) : wpList Try.prog ops Q (op :: rest) a w :=
  Lk.wanted hw fun _ hK => wp_load_mid 37 x ho b off hx (rcs r).toList _ hP Try.underlying37 rfl info_rs (hK _ _ c)
end Sq
end Go.Proofs.Ytlhapipgmadbeaa
