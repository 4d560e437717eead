/- A list of records in new memory; what a law carries: one store, its memory, and all that lay. -/
import Derived.Test.YtlhapipgmadbeaaStorePut2
import Derived.Test.YtlhapipgmadbeaaStoreMath6
namespace Go.Proofs.Ytlhapipgmadbeaa
namespace Sq
open Go.RowKit Nv Nw Sp Lk

/-- Records that lie in new memory, from block base on. -/
def New_ (W : World) (base : Nat) (A : Option Addr) (L : List R) : Prop := ∀ i r, L[i]? = some r → ∃ g o, A = some ⟨g, o, none⟩ ∧ base ≤ g ∧ g < W.heap.size ∧ W.rangeAt g (o + i * 3) (rcs r).toList
theorem New_.rcs {W : World} {base : Nat} {A : Option Addr} {L : List R} (h : New_ W base A L) : Rcs W A L := fun i r hi => by
  obtain ⟨g, o, e, _, hg, hr⟩ := h i r hi
  exact ⟨g, o, e, hg, hr⟩
theorem New_.turn {W W' : World} {base b d : Nat} {A : Option Addr} {L : List R} (h : New_ W base A L) (ht : Turn b d W W') (hb : b < base) (hd : d < base) : New_ W' base A L := fun i r hi => by
  obtain ⟨g, o, e, h1, hg, hr⟩ := h i r hi
  refine ⟨g, o, e, h1, Nat.lt_of_lt_of_le hg ht.size, fun j v hv => ?_⟩
  have := ht.block g hg (by omega) (by omega)
  exact (World.cell?_of_block (w := W) (a := ⟨g, o + i * 3 + j, none⟩) this).trans (hr j v hv)
/-- What append made, as such a list. -/
theorem new_of_row {W : World} {base : Nat} {v : Value} {L : List R} (h : Rw 37 3 rf_ W base v L) : ∃ A c, v = .slice A L.length c ∧ L.length ≤ c ∧ New_ W base A L := by
  obtain ⟨A, c, e, hc, hel⟩ := Rw.form (f := rf_) (sz := 3) (fun _ => rfl) h
  refine ⟨A, c, e, hc, fun i r hi => ?_⟩
  obtain ⟨g, e2, h1, h2, h3⟩ := hel i r hi
  exact ⟨g, 0, e2, h1, h2, by rw [Nat.zero_add]; exact h3⟩
/-- A memory that calls of a store may be asked of. -/
structure Good (m : M) : Prop where
  left : m.left ≤ 9223372036854775807
  many0 : 0 ≤ m.many
  many1 : m.many < 4611686018427370000
  u32 : U32 m.ws
  len : 8 ≤ m.ws.length
  most : m.ws.length ≤ 512
theorem Good.few {m : M} (h : Good m) : Few m := ⟨h.left, h.many0, by have := h.many1; omega⟩
end Sq
end Go.Proofs.Ytlhapipgmadbeaa
