/- Over this seat's program: rows of integers of the call's own that append makes. -/
import Derived.Test.YtgpgdmebojmobaaAppKit
import Derived.Test.YtgpgdmebojmobaaLawKit
import Derived.Test.YtgpgdmebojmobaaProg
import Derived.Handy
namespace Go.Proofs.Ytgpgdmebojmobaa
namespace Zk
open Go.RowKit Lk

abbrev fz (z : Int) : List Value := [.int .i64 z]
theorem fz_len (z : Int) : (fz z).length = 1 := rfl
theorem fz_one (z : Int) : ∀ u ∈ fz z, u.oneCell' = true := by
  intro u hu
  obtain rfl : u = .int .i64 z := by simpa using hu
  rfl
abbrev Zs (W : World) (base : Nat) (v : Value) (l : List Int) : Prop := Rw 3 1 fz W base v l
theorem Zs.form {W : World} {base : Nat} {v : Value} {l : List Int} (h : Zs W base v l) : ∃ A c, v = .slice A l.length c ∧ Lk.IntsAt W .i64 A l := by
  obtain ⟨A, c, e, _, hel⟩ := Rw.form (f := fz) (sz := 1) fz_len h
  refine ⟨A, c, e, fun i hi => ?_⟩
  obtain ⟨g, e2, _, _, h3⟩ := hel i _ (List.getElem?_eq_getElem hi)
  refine ⟨g, 0, e2, ?_⟩
  have := h3 0 _ rfl
  rw [List.getD_eq_getElem?_getD, List.getElem?_eq_getElem hi]
  simpa using this
theorem info_i1 : (Try.prog.info? 3).map (fun i => (i.zero, i.size, i.bytes)) = some (some (.int .i64 0), 1, 8) := by kernel_rfl
theorem info_i3 : ∃ i, Try.prog.info? 3 = some i ∧ i.zero = some (.int .i64 0) ∧ i.size = 1 ∧ i.bytes = 8 := by
  obtain ⟨i, hi, hz⟩ := Option.map_eq_some_iff.1 info_i1
  simp only [Prod.mk.injEq] at hz
  exact ⟨i, hi, hz.1, hz.2.1, hz.2.2⟩
/-- One number put behind the others. -/
theorem app_z {ops : Array Oper} {Q : Exit → Act → World → Prop} {a : Act} {w : World} {rest : List Oper} {o : Oper} (hw : Region.wanted o (yielded ops a.tmps) = true)
    (s x : Operand) (ho : o.op = .call { callee := .builtin .append, args := #[s, x], argTypes := #[28, 28] })
    (base : Nat) (v : Value) (l : List Int) (hs : a.eval s = v) (hown : Zs w base v l) (g c : Nat) (b : Int) (hx : a.eval x = .slice (some ⟨g, 0, none⟩) 1 c) (hA : w.rangeAt g 0 (fz b))
    (hm : l.length ≤ 1000000) (hbase : base ≤ w.heap.size)
    (h : ∀ v' w', Zs w' base v' (l ++ [b]) → Below base w w' → wpList Try.prog ops Q rest (a.put o.dst v') w') : wpList Try.prog ops Q (o :: rest) a w :=
  app_one hw s x 28 ho Try.underlying28 _ 8 info_i3 rfl (by decide) fz_len fz_one (by decide) base v l hs hown g c b hx hA hm hbase h
theorem range_z (w : World) (n : Int) : (w.alloc (.cells #[.int .i64 n] 3)).rangeAt w.heap.size 0 (fz n) := fun j v hv => by
  rw [Nat.zero_add]
  exact (Joins.cell_of_block (heap_alloc_last w _) j).trans (by simpa using hv)
theorem back_step {l : List Int} {j : Nat} {x : Int} (h : l[j]? = some x) : (l.drop j).reverse = (l.drop (j + 1)).reverse ++ [x] := by
  have hj : j < l.length := (List.getElem?_eq_some_iff.1 h).1
  rw [List.drop_eq_getElem_cons hj, List.reverse_cons]
  have : l[j] = x := (List.getElem?_eq_some_iff.1 h).2
  rw [this]
end Zk
end Go.Proofs.Ytgpgdmebojmobaa
