/- A memory as it lies: the program's, and the document's; what a call that writes into one leaves of all else. -/
import Derived.Test.YtlhapipgmadbeaaNvmMath
import Derived.Test.YtlhapipgmadbeaaCrcSync
import Derived.Test.YtlhapipgmadbeaaObjKit
import Derived.Deep.OwnRows
import Derived.Deep.RegionHeld3
import Derived.LoopTactic
import Derived.Lib.MinMax
import Derived.Laws.NewBlocks
namespace Go.Proofs.Ytlhapipgmadbeaa
namespace Nw
open Go.RowKit Nv

/-- All but two blocks is as it was. -/
structure Off2 (b d : Nat) (w w' : World) : Prop where
  os : w'.os = w.os
  tape : w'.tape = w.tape
  output : w'.output = w.output
  size : w'.heap.size = w.heap.size
  block : ∀ k, k ≠ b → k ≠ d → w'.heap[k]? = w.heap[k]?
namespace Off2
variable {b d : Nat} {w w' w'' : World}
theorem refl (b d : Nat) (w : World) : Off2 b d w w := ⟨rfl, rfl, rfl, rfl, fun _ _ _ => rfl⟩
theorem trans (h : Off2 b d w w') (k : Off2 b d w' w'') : Off2 b d w w'' := ⟨k.os.trans h.os, k.tape.trans h.tape, k.output.trans h.output, k.size.trans h.size, fun i hi hj => (k.block i hi hj).trans (h.block i hi hj)⟩
theorem set (h : Off2 b d w w') (o : Nat) (v : Value) : Off2 b d w (w'.setCell ⟨b, o, none⟩ v) := h.trans ⟨rfl, rfl, rfl, by simp [World.setCell], fun k hk _ => Below.heap_setCell _ _ _ _ hk⟩
theorem put (h : Off2 b d w w') (o : Nat) (v : Value) : Off2 b d w (w'.setCell ⟨d, o, none⟩ v) := h.trans ⟨rfl, rfl, rfl, by simp [World.setCell], fun k _ hk => Below.heap_setCell _ _ _ _ hk⟩
theorem drew (h : Off2 b d w w') : Off2 b d w w'.drew := ⟨h.os, h.tape, h.output, h.size, h.block⟩
theorem below (h : Off2 b d w w') {m : Nat} (hb : m ≤ b) (hd : m ≤ d) : Below m w w' := ⟨h.os, h.tape, h.output, Nat.le_of_eq h.size.symm, fun k hk => h.block k (by omega) (by omega)⟩
end Off2

/-- The words as they lie. -/
def wf (l : List Int) (i : Nat) : Value := .int .u32 (l.getD i 0)
/-- The program's memory: goes tells whether left counts. -/
def pf (d : Nat) (m : M) (i : Nat) : Value :=
  if i = 0 then .slice (some ⟨d, 0, none⟩) m.ws.length m.ws.length else if i = 1 then .bool m.gone else if i = 2 then .bool (decide (0 ≤ m.left)) else if i = 3 then .int .i64 (max m.left 0) else .int .i64 m.many
/-- The document's. -/
def rf (d : Nat) (m : M) (i : Nat) : Value :=
  if i = 0 then .slice (some ⟨d, 0, none⟩) m.ws.length m.ws.length else if i = 1 then .bool m.gone else if i = 2 then .int .i64 m.left else .int .i64 m.many
/-- Words in a block of their own. -/
def Ws (W : World) (d : Nat) (l : List Int) : Prop := W.rowIs d 38 l.length (wf l)
structure Mem (W : World) (b d : Nat) (m : M) : Prop where
  row : W.rowIs b 70 5 (pf d m)
  ws : Ws W d m.ws
  ne : d ≠ b
structure Rem (W : World) (b d : Nat) (m : M) : Prop where
  row : W.rowIs b 53 4 (rf d m)
  ws : Ws W d m.ws
  ne : d ≠ b

theorem getD_set (l : List Int) (k : Nat) (v : Int) (hk : k < l.length) (j : Nat) : (l.set k v).getD j 0 = if j = k then v else l.getD j 0 := by
  by_cases e : j = k
  · subst e; simp [List.getD_eq_getElem?_getD, hk]
  · simp [List.getD_eq_getElem?_getD, Ne.symm e, e]
namespace Ws
variable {W W' : World} {d : Nat} {l : List Int}
theorem cell (h : Ws W d l) {i : Nat} (hi : i < l.length) : W.cell? ⟨d, i, none⟩ = some (.int .u32 (l.getD i 0)) := World.rowIs.cell h hi
theorem frozen (h : Ws W d l) (i : Nat) : W.frozen? ⟨d, i, none⟩ = false := World.rowIs.frozen h i
theorem lt (h : Ws W d l) : d < W.heap.size := World.rowIs.lt h
theorem of_block (h : Ws W d l) (e : W'.heap[d]? = W.heap[d]?) : Ws W' d l := World.rowIs.of_block h e
theorem set (h : Ws W d l) {k : Nat} (hk : k < l.length) (v : Int) : Ws (W.setCell ⟨d, k, none⟩ (.int .u32 v)) d (l.set k v) := by
  unfold Ws
  rw [List.length_set]
  refine (World.rowIs.set h k _).congr fun i _ => ?_
  unfold wf
  rw [getD_set l k v hk i]
  by_cases e : i = k
  · rw [if_pos e, if_pos e]
  · rw [if_neg e, if_neg e]
theorem setOther (h : Ws W d l) {a : Addr} (ha : d ≠ a.block) (v : Value) : Ws (W.setCell a v) d l := World.rowIs.setOther h ha v
theorem drew (h : Ws W d l) : Ws W.drew d l := h
theorem made (W : World) (n : Nat) : Ws (W.alloc (.cells (madeCells #[.int .u32 0] n) 38)) W.heap.size (zeros n) := by
  have := (World.rowIs_made W (.int .u32 0) n 38).congr (g := wf (zeros n)) fun i hi => by unfold wf; rw [show (zeros n).getD i 0 = 0 from by simp [zeros, List.getD_eq_getElem?_getD, hi]]
  unfold Ws
  rw [show (zeros n).length = n from by simp [zeros]]
  exact this
end Ws

namespace Mem
variable {W W' : World} {b d : Nat} {m : M}
theorem c0 (h : Mem W b d m) : W.cell? ⟨b, 0, none⟩ = some (.slice (some ⟨d, 0, none⟩) m.ws.length m.ws.length) := h.row.cell (by decide)
theorem c1 (h : Mem W b d m) : W.cell? ⟨b, 1, none⟩ = some (.bool m.gone) := h.row.cell (by decide)
theorem c2 (h : Mem W b d m) : W.cell? ⟨b, 2, none⟩ = some (.bool (decide (0 ≤ m.left))) := h.row.cell (by decide)
theorem c3 (h : Mem W b d m) : W.cell? ⟨b, 3, none⟩ = some (.int .i64 (max m.left 0)) := h.row.cell (by decide)
theorem c4 (h : Mem W b d m) : W.cell? ⟨b, 4, none⟩ = some (.int .i64 m.many) := h.row.cell (by decide)
theorem fz (h : Mem W b d m) (i : Nat) : W.frozen? ⟨b, i, none⟩ = false := h.row.frozen i
theorem lt (h : Mem W b d m) : b < W.heap.size := h.row.lt
theorem lt' (h : Mem W b d m) : d < W.heap.size := h.ws.lt
theorem drew (h : Mem W b d m) : Mem W.drew b d m := ⟨h.row, h.ws, h.ne⟩
theorem of_off (h : Mem W b d m) {b' d' : Nat} (ho : Off2 b' d' W W') (h1 : b ≠ b') (h2 : b ≠ d') (h3 : d ≠ b') (h4 : d ≠ d') : Mem W' b d m := ⟨h.row.of_block (ho.block b h1 h2), h.ws.of_block (ho.block d h3 h4), h.ne⟩
theorem grow (h : Mem W b d m) (hb : Below W.heap.size W W') : Mem W' b d m := ⟨h.row.of_block (hb.block b h.lt), h.ws.of_block (hb.block d h.lt'), h.ne⟩
/-- The power goes. -/
theorem s1 (h : Mem W b d m) : Mem (W.setCell ⟨b, 1, none⟩ (.bool true)) b d { m with gone := true } :=
  ⟨(h.row.set 1 _).congr fun i hi => by
    have : i = 0 ∨ i = 1 ∨ i = 2 ∨ i = 3 ∨ i = 4 := by omega
    rcases this with rfl | rfl | rfl | rfl | rfl <;> rfl, h.ws.setOther h.ne _, h.ne⟩
/-- One write less is left. -/
theorem s3 (h : Mem W b d m) {x : Int} (hp : 0 ≤ m.left) (hx : 0 ≤ x) : Mem (W.setCell ⟨b, 3, none⟩ (.int .i64 x)) b d { m with left := x } :=
  ⟨(h.row.set 3 _).congr fun i hi => by
    have : i = 0 ∨ i = 1 ∨ i = 2 ∨ i = 3 ∨ i = 4 := by omega
    rcases this with rfl | rfl | rfl | rfl | rfl
    · rfl
    · rfl
    · simp [pf, hp, hx]
    · simp only [pf]; simp; omega
    · rfl, h.ws.setOther h.ne _, h.ne⟩
/-- A word. -/
theorem sw (h : Mem W b d m) {k : Nat} (hk : k < m.ws.length) (v : Int) : Mem (W.setCell ⟨d, k, none⟩ (.int .u32 v)) b d { m with ws := m.ws.set k v } :=
  ⟨(h.row.setOther (a := ⟨d, k, none⟩) (Ne.symm h.ne) _).congr fun i _ => by unfold pf; simp, h.ws.set hk v, h.ne⟩
/-- The count. -/
theorem s4 (h : Mem W b d m) (x : Int) : Mem (W.setCell ⟨b, 4, none⟩ (.int .i64 x)) b d { m with many := x } :=
  ⟨(h.row.set 4 _).congr fun i hi => by
    have : i = 0 ∨ i = 1 ∨ i = 2 ∨ i = 3 ∨ i = 4 := by omega
    rcases this with rfl | rfl | rfl | rfl | rfl <;> rfl, h.ws.setOther h.ne _, h.ne⟩
/-- Armed: both cells. -/
theorem arm_ (h : Mem W b d m) (k : Int) (hg : m.gone = false) : Mem ((W.setCell ⟨b, 2, none⟩ (.bool (decide (0 ≤ k)))).setCell ⟨b, 3, none⟩ (.int .i64 (max k 0))) b d (Nv.arm m k) :=
  ⟨((h.row.set 2 _).set 3 _).congr fun i hi => by
    have : i = 0 ∨ i = 1 ∨ i = 2 ∨ i = 3 ∨ i = 4 := by omega
    rcases this with rfl | rfl | rfl | rfl | rfl
    · simp [pf, Nv.arm, hg]
    · simp [pf, Nv.arm, hg]
    · simp [pf, Nv.arm, hg]; omega
    · simp [pf, Nv.arm, hg]; omega
    · simp [pf, Nv.arm, hg], by rw [show (Nv.arm m k).ws = m.ws from by simp [Nv.arm, hg]]; exact (h.ws.setOther h.ne _).setOther h.ne _, h.ne⟩
/-- Power again: all three cells. -/
theorem up_ (h : Mem W b d m) : Mem (((W.setCell ⟨b, 1, none⟩ (.bool false)).setCell ⟨b, 2, none⟩ (.bool false)).setCell ⟨b, 3, none⟩ (.int .i64 0)) b d (Nv.up m) :=
  ⟨(((h.row.set 1 _).set 2 _).set 3 _).congr fun i hi => by
    have : i = 0 ∨ i = 1 ∨ i = 2 ∨ i = 3 ∨ i = 4 := by omega
    rcases this with rfl | rfl | rfl | rfl | rfl <;> rfl, ((h.ws.setOther h.ne _).setOther h.ne _).setOther h.ne _, h.ne⟩
end Mem

namespace Rem
variable {W W' : World} {b d : Nat} {m : M}
theorem c0 (h : Rem W b d m) : W.cell? ⟨b, 0, none⟩ = some (.slice (some ⟨d, 0, none⟩) m.ws.length m.ws.length) := h.row.cell (by decide)
theorem c1 (h : Rem W b d m) : W.cell? ⟨b, 1, none⟩ = some (.bool m.gone) := h.row.cell (by decide)
theorem c2 (h : Rem W b d m) : W.cell? ⟨b, 2, none⟩ = some (.int .i64 m.left) := h.row.cell (by decide)
theorem c3 (h : Rem W b d m) : W.cell? ⟨b, 3, none⟩ = some (.int .i64 m.many) := h.row.cell (by decide)
theorem fz (h : Rem W b d m) (i : Nat) : W.frozen? ⟨b, i, none⟩ = false := h.row.frozen i
theorem lt (h : Rem W b d m) : b < W.heap.size := h.row.lt
theorem lt' (h : Rem W b d m) : d < W.heap.size := h.ws.lt
theorem drew (h : Rem W b d m) : Rem W.drew b d m := ⟨h.row, h.ws, h.ne⟩
theorem of_off (h : Rem W b d m) {b' d' : Nat} (ho : Off2 b' d' W W') (h1 : b ≠ b') (h2 : b ≠ d') (h3 : d ≠ b') (h4 : d ≠ d') : Rem W' b d m := ⟨h.row.of_block (ho.block b h1 h2), h.ws.of_block (ho.block d h3 h4), h.ne⟩
theorem grow (h : Rem W b d m) (hb : Below W.heap.size W W') : Rem W' b d m := ⟨h.row.of_block (hb.block b h.lt), h.ws.of_block (hb.block d h.lt'), h.ne⟩
theorem s1 (h : Rem W b d m) (x : Bool) : Rem (W.setCell ⟨b, 1, none⟩ (.bool x)) b d { m with gone := x } :=
  ⟨(h.row.set 1 _).congr fun i hi => by
    have : i = 0 ∨ i = 1 ∨ i = 2 ∨ i = 3 := by omega
    rcases this with rfl | rfl | rfl | rfl <;> rfl, h.ws.setOther h.ne _, h.ne⟩
theorem s2 (h : Rem W b d m) (x : Int) : Rem (W.setCell ⟨b, 2, none⟩ (.int .i64 x)) b d { m with left := x } :=
  ⟨(h.row.set 2 _).congr fun i hi => by
    have : i = 0 ∨ i = 1 ∨ i = 2 ∨ i = 3 := by omega
    rcases this with rfl | rfl | rfl | rfl <;> rfl, h.ws.setOther h.ne _, h.ne⟩
theorem s3 (h : Rem W b d m) (x : Int) : Rem (W.setCell ⟨b, 3, none⟩ (.int .i64 x)) b d { m with many := x } :=
  ⟨(h.row.set 3 _).congr fun i hi => by
    have : i = 0 ∨ i = 1 ∨ i = 2 ∨ i = 3 := by omega
    rcases this with rfl | rfl | rfl | rfl <;> rfl, h.ws.setOther h.ne _, h.ne⟩
theorem sw (h : Rem W b d m) {k : Nat} (hk : k < m.ws.length) (v : Int) : Rem (W.setCell ⟨d, k, none⟩ (.int .u32 v)) b d { m with ws := m.ws.set k v } :=
  ⟨(h.row.setOther (a := ⟨d, k, none⟩) (Ne.symm h.ne) _).congr fun i _ => by unfold rf; simp, h.ws.set hk v, h.ne⟩
end Rem
end Nw
end Go.Proofs.Ytlhapipgmadbeaa
