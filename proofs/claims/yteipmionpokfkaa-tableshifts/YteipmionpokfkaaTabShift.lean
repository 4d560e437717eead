/- A table that a statement makes, value by value. -/
import Derived.Test.YteipmionpokfkaaTabLawKit
import Derived.Test.YteipmionpokfkaaTabMath2
import Derived.Test.YteipmionpokfkaaHeldWp
import Derived.Deep.AppendLies
import Derived.OneCell
namespace Go.Proofs.Yteipmionpokfkaa
namespace TabC
open Go.RowKit

def vs (l : List Int) : List Value := l.map (Value.int .i64)

/-- A table's box at m, its lists in rows of their own. -/
structure Sh (m : Nat) (W : World) (vX vY : Value) (lx ly : List Int) : Prop where
  box : Lk.BoxV W m 25 #[vX, vY]
  rx : W.ownsRow (m + 1) 3 1 vX lx.length (vs lx)
  ry : W.ownsRow (m + 1) 3 1 vY ly.length (vs ly)
  ne : ∀ g, vX.ownBlock = some g → vY.ownBlock ≠ some g
theorem Sh.c0 {m : Nat} {W : World} {vX vY : Value} {lx ly : List Int} (h : Sh m W vX vY lx ly) : W.cell? ⟨m, 0, none⟩ = some vX := by rw [h.box.cell]; rfl
theorem Sh.c1 {m : Nat} {W : World} {vX vY : Value} {lx ly : List Int} (h : Sh m W vX vY lx ly) : W.cell? ⟨m, 1, none⟩ = some vY := by rw [h.box.cell]; rfl
theorem Sh.new (W : World) : Sh W.heap.size (W.alloc (.cells #[.slice none 0 0, .slice none 0 0] 25)) (.slice none 0 0) (.slice none 0 0) [] [] :=
  ⟨Lk.BoxV.new _ _ _, World.ownsRow_nil _ _ _ _, World.ownsRow_nil _ _ _ _, fun g h => by simp [Value.ownBlock] at h⟩

theorem set0 {W : World} {B t : Nat} {u v : Value} (u' : Value) (h : Lk.BoxV W B t #[u, v]) : Lk.BoxV (W.setCell ⟨B, 0, none⟩ u') B t #[u', v] := by
  obtain ⟨hlt, hk⟩ := Array.getElem?_eq_some_iff.1 h
  show (W.heap.modify B _)[B]? = _
  rw [Array.getElem?_eq_getElem (by rw [Array.size_modify]; exact hlt), Array.getElem_modify_self, hk]
  rfl
theorem set1 {W : World} {B t : Nat} {u v : Value} (v' : Value) (h : Lk.BoxV W B t #[u, v]) : Lk.BoxV (W.setCell ⟨B, 1, none⟩ v') B t #[u, v'] := by
  obtain ⟨hlt, hk⟩ := Array.getElem?_eq_some_iff.1 h
  show (W.heap.modify B _)[B]? = _
  rw [Array.getElem?_eq_getElem (by rw [Array.size_modify]; exact hlt), Array.getElem_modify_self, hk]
  rfl

/-- Behind an append: all that is not the row lies as it lay. -/
theorem box_grown {W w1 : World} {B t : Nat} {cs : Array Value} {o : Obj} {row : Option Nat} (h : Lk.BoxV W B t cs) (hg : (W.alloc o).drew.grownBy w1 row) (hne : some B ≠ row) : Lk.BoxV w1 B t cs :=
  (hg.block B (by have := h.lt; simp; omega) hne).trans ((Below.heap_alloc W o B h.lt).trans h)

theorem Sh.addX {m : Nat} {W w1 : World} {vX vY : Value} {lx ly : List Int} (h : Sh m W vX vY lx ly) {o : Obj} {v : Int} {g cap : Nat}
    (hown : w1.ownsRow (m + 1) 3 1 (.slice (some ⟨g, 0, none⟩) (lx.length + 1) cap) (lx.length + 1) (vs lx ++ [.int .i64 v])) (hgrow : (W.alloc o).drew.grownBy w1 vX.ownBlock) (hat : vX.ownBlock = some g ∨ g = W.heap.size + 1) :
    Sh m (w1.setCell ⟨m, 0, none⟩ (.slice (some ⟨g, 0, none⟩) (lx.length + 1) cap)) (.slice (some ⟨g, 0, none⟩) (lx.length + 1) cap) vY (lx ++ [v]) ly ∧ Below m W (w1.setCell ⟨m, 0, none⟩ (.slice (some ⟨g, 0, none⟩) (lx.length + 1) cap)) := by
  have hm := h.box.lt
  have hne : some m ≠ vX.ownBlock := fun e => by have := (h.rx.lt m e.symm).1; omega
  have b1 := box_grown h.box hgrow hne
  have hyne : vY.ownBlock = none ∨ vY.ownBlock ≠ vX.ownBlock := by
    cases hx : vX.ownBlock with
    | none => cases hy : vY.ownBlock with
      | none => exact .inl rfl
      | some k => exact .inr (by simp)
    | some k => exact .inr (h.ne k hx)
  refine ⟨⟨set0 _ b1, ?_, ?_, ?_⟩, ?_⟩
  · have := ownsRow_setCell_below hown (a := ⟨m, 0, none⟩) (by simp) (.slice (some ⟨g, 0, none⟩) (lx.length + 1) cap)
    rw [List.length_append, List.length_singleton]
    rwa [show vs lx ++ [Value.int .i64 v] = vs (lx ++ [v]) from by simp [vs]] at this
  · exact ownsRow_setCell_below ((h.ry.alloc o).drew.kept hgrow hyne) (by simp) _
  · intro k hk hy
    simp only [Value.ownBlock, Option.some.injEq] at hk
    subst hk
    rcases hat with e | e
    · exact h.ne _ e hy
    · have := (h.ry.lt _ hy).2; omega
  · exact ((((Below.refl m W).alloc (by omega) o).drew).grown hgrow (by simp; omega) (fun k e => by have := (h.rx.lt k e).1; omega)).setCell (p := ⟨m, 0, none⟩) (by simp) _
theorem Sh.addY {m : Nat} {W w1 : World} {vX vY : Value} {lx ly : List Int} (h : Sh m W vX vY lx ly) {o : Obj} {v : Int} {g cap : Nat}
    (hown : w1.ownsRow (m + 1) 3 1 (.slice (some ⟨g, 0, none⟩) (ly.length + 1) cap) (ly.length + 1) (vs ly ++ [.int .i64 v])) (hgrow : (W.alloc o).drew.grownBy w1 vY.ownBlock) (hat : vY.ownBlock = some g ∨ g = W.heap.size + 1) :
    Sh m (w1.setCell ⟨m, 1, none⟩ (.slice (some ⟨g, 0, none⟩) (ly.length + 1) cap)) vX (.slice (some ⟨g, 0, none⟩) (ly.length + 1) cap) lx (ly ++ [v]) ∧ Below m W (w1.setCell ⟨m, 1, none⟩ (.slice (some ⟨g, 0, none⟩) (ly.length + 1) cap)) := by
  have hm := h.box.lt
  have hne : some m ≠ vY.ownBlock := fun e => by have := (h.ry.lt m e.symm).1; omega
  have b1 := box_grown h.box hgrow hne
  have hxne : vX.ownBlock = none ∨ vX.ownBlock ≠ vY.ownBlock := by
    cases hx : vX.ownBlock with
    | none => exact .inl rfl
    | some k => exact .inr (fun e => h.ne k hx e.symm)
  refine ⟨⟨set1 _ b1, ?_, ?_, ?_⟩, ?_⟩
  · exact ownsRow_setCell_below ((h.rx.alloc o).drew.kept hgrow hxne) (by simp) _
  · have := ownsRow_setCell_below hown (a := ⟨m, 1, none⟩) (by simp) (.slice (some ⟨g, 0, none⟩) (ly.length + 1) cap)
    rw [List.length_append, List.length_singleton]
    rwa [show vs ly ++ [Value.int .i64 v] = vs (ly ++ [v]) from by simp [vs]] at this
  · intro k hk hy
    simp only [Value.ownBlock, Option.some.injEq] at hy
    subst hy
    rcases hat with e | e
    · exact h.ne _ hk e
    · have := (h.rx.lt _ hk).2; omega
  · exact ((((Below.refl m W).alloc (by omega) o).drew).grown hgrow (by simp; omega) (fun k e => by have := (h.ry.lt k e).1; omega)).setCell (p := ⟨m, 1, none⟩) (by simp) _

theorem ints_row {W : World} {base g n cap : Nat} {l : List Int} (hn : n = l.length) (h : W.ownsRow base 3 1 (.slice (some ⟨g, 0, none⟩) n cap) n (vs l)) : Lk.IntsAt W .i64 (some ⟨g, 0, none⟩) l := by
  subst hn
  intro i hi
  refine ⟨g, 0, rfl, ?_⟩
  rw [Nat.zero_add, h.cellAt i (by omega)]
  simp [vs, hi]
/-- The table that was made. -/
theorem Sh.tab {m n : Nat} {W : World} {vX vY : Value} {lx ly : List Int} (h : Sh m W vX vY lx ly) (hx : lx.length = n) (hy : ly.length = n) (h0 : 0 < n) (h9 : n ≤ 40) :
    ∃ g c g' c', vX = .slice (some ⟨g, 0, none⟩) lx.length c ∧ vY = .slice (some ⟨g', 0, none⟩) ly.length c' ∧ TabIn W (some ⟨g, 0, none⟩) (some ⟨g', 0, none⟩) lx ly := by
  obtain ⟨g, c, e1, _⟩ := h.rx.form (by omega)
  obtain ⟨g', c', e2, _⟩ := h.ry.form (by omega)
  have rx := h.rx
  have ry := h.ry
  rw [e1] at rx
  rw [e2] at ry
  exact ⟨g, c, g', c', e1, e2, by omega, by omega, ints_row rfl rx, ints_row rfl ry⟩
theorem held_mk {n : Nat} {A B : Option Addr} {ca cb : Nat} {xs ys : List Int} {w W W' : World} (hT : TabIn w A B xs ys) (h : Held n A B ca cb xs ys w W) {m : Nat} (hb : Below m W W') (h1 : n < m) (h2 : w.heap.size ≤ m) : Held n A B ca cb xs ys w W' :=
  have ho := h.old.trans (hb.mono h2)
  ⟨hT.below ho, h.box.below hb h1, ho⟩

theorem info_int : (Try.prog.info? 3).map (fun i => (i.zero, i.size, i.bytes)) = some (some (.int .i64 0), 1, 8) := by kernel_rfl

end TabC
end Go.Proofs.Yteipmionpokfkaa
