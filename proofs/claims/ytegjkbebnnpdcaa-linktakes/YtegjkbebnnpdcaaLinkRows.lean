/- A packet loaded, stored, and compared as a whole. -/
import Derived.Test.YtegjkbebnnpdcaaLinkEncode
import Derived.Laws.Tables
import Derived.Deep.MidRow
import Derived.Handy
import Derived.ChangeKeysEq
namespace Go.Proofs.Ytegjkbebnnpdcaa
namespace Lw
open Go.RowKit

theorem info_good : (Try.prog.info? 24).map (·.size) = some 5 := by kernel_rfl
theorem info_pk : (Try.prog.info? 26).map (·.size) = some 14 := by kernel_rfl

theorem ld_pk {ops : Array Oper} {rest : List Oper} {o : Oper} {a : Act} {w : World} {Q : Exit → Act → World → Prop} (hw : Region.wanted o (yielded ops a.tmps) = true) (x : Operand) (ho : o.op = .load 26 x)
    (g : Nat) (p : Ln.Pk) (hx : a.eval x = .pointer (some ⟨g, 0, none⟩)) (hP : Pkt w g p)
    (h : wpList Try.prog ops Q rest (a.put o.dst (.agg (pc p))) w) : wpList Try.prog ops Q (o :: rest) a w :=
  Crc.wpList_wanted hw fun _ hK => wp_load_row 26 x ho g hx 26 (pc p) (0, 0) _ hP Try.underlying26 rfl info_pk (hK _ _ h)

theorem setRow_off (w : World) (g : Nat) (cs : Array Value) : Crc.Off g w (w.setRow g cs) := by
  exact ⟨rfl, rfl, rfl, by simp, fun k hk => setRow_other w g k cs hk⟩
theorem pc_one (p : Ln.Pk) : (pc p).all (·.oneCell') = true := by simp [pc, Value.oneCell']
theorem st_pk {ops : Array Oper} {rest : List Oper} {o : Oper} {a : Act} {w : World} {Q : Exit → Act → World → Prop} (hgd : o.guard = none) (x y : Operand) (ho : o.op = .store 26 x y) (hd : o.dst = none)
    (g : Nat) (q p : Ln.Pk) (hx : a.eval x = .pointer (some ⟨g, 0, none⟩)) (hy : a.eval y = .agg (pc p)) (hP : Pkt w g q)
    (h : ∀ w', Pkt w' g p → Crc.Off g w w' → wpList Try.prog ops Q rest a w') : wpList Try.prog ops Q (o :: rest) a w := by
  refine wpList_plain hgd fun _ hK => wp_store_row 26 x y ho g (pc p) hx hy 26 (pc q) hP info_pk rfl (pc_one p) (hK _ _ ?_)
  rw [hd]
  exact h _ (setRow_heap w g (pc q) (pc p) 26 (0, 0) hP) (setRow_off w g _)

/-- The flags of a packet stored. -/
theorem st_good {ops : Array Oper} {rest : List Oper} {o : Oper} {a : Act} {w : World} {Q : Exit → Act → World → Prop} (hgd : o.guard = none) (x y : Operand) (ho : o.op = .store 24 x y) (hd : o.dst = none)
    (g : Nat) (q : Ln.Pk) (b0 b1 b2 b3 b4 : Bool) (hx : a.eval x = .pointer (some ⟨g, 7, none⟩)) (hy : a.eval y = .agg #[.bool b0, .bool b1, .bool b2, .bool b3, .bool b4]) (hP : Pkt w g q)
    (h : ∀ w', Pkt w' g { q with ga := b0, gb := b1, gc := b2, gd := b3, ge := b4 } → Crc.Off g w w' → wpList Try.prog ops Q rest a w') : wpList Try.prog ops Q (o :: rest) a w := by
  refine wpList_plain hgd fun _ hK => wp_store_mid 24 x y ho g 7 _ hx hy ?_ info_good (by simp [Value.oneCell']) (hK _ _ ?_)
  · intro j hj
    refine ⟨?_, hP.frozen _⟩
    have hj5 : j = 0 ∨ j = 1 ∨ j = 2 ∨ j = 3 ∨ j = 4 := by have : j < 5 := hj; omega
    rcases hj5 with rfl | rfl | rfl | rfl | rfl <;> rw [Joins.cell_of_block hP] <;> rfl
  · rw [hd]
    refine h _ ?_ ?_
    · exact Joins.block_setCell (Joins.block_setCell (Joins.block_setCell (Joins.block_setCell (Joins.block_setCell hP _) _) _) _) _
    · exact (((((Crc.Off.refl g w).set 7 _).set 8 _).set 9 _).set 10 _).set 11 _

/-- Two packets are the same. -/
def same (p q : Ln.Pk) : Bool := p.f == q.f && p.n == q.n && p.a == q.a && p.b == q.b && p.c == q.c && p.d == q.d && p.e == q.e && p.ga == q.ga && p.gb == q.gb && p.gc == q.gc && p.gd == q.gd && p.ge == q.ge && p.m == q.m && p.s == q.s
theorem same_iff {p q : Ln.Pk} : same p q = true ↔ p = q := by
  obtain ⟨f, n, a, b, c, d, e, ga, gb, gc, gd, ge, m, s⟩ := p
  obtain ⟨f', n', a', b', c', d', e', ga', gb', gc', gd', ge', m', s'⟩ := q
  simp [same, and_assoc]
theorem same_refl (p : Ln.Pk) : same p p = true := same_iff.2 rfl
theorem cells_int : Try.prog.cellsOf 3 = 1 := by kernel_rfl
theorem cells_bool : Try.prog.cellsOf 4 = 1 := by kernel_rfl
theorem info_int : ∃ i, Try.prog.info? 3 = some i := Option.isSome_iff_exists.1 (by kernel_rfl)
theorem info_bool : ∃ i, Try.prog.info? 4 = some i := Option.isSome_iff_exists.1 (by kernel_rfl)
theorem r5 : List.range 5 = [0, 1, 2, 3, 4] := rfl
theorem eq_ints (a b c d e a' b' c' d' e' : Int) (w : World) : (Op.equalIn 9999 23 (.agg #[.int .i64 a, .int .i64 b, .int .i64 c, .int .i64 d, .int .i64 e]) (.agg #[.int .i64 a', .int .i64 b', .int .i64 c', .int .i64 d', .int .i64 e'])).run Try.prog w = .ok (a == a' && (b == b' && (c == c' && (d == d' && e == e')))) w := by
  obtain ⟨i, hi⟩ := info_int
  rw [run_equalIn_array w 9998 _ _ Try.underlying23 hi, cells_int, r5]
  simp only [Op.eqItems, Nat.mul_one]
  simp [go_sem]
  by_cases h1 : a = a' <;> by_cases h2 : b = b' <;> by_cases h3 : c = c' <;> by_cases h4 : d = d' <;> by_cases h5 : e = e' <;> simp [h1, h2, h3, h4, h5]
theorem eq_bools (a b c d e a' b' c' d' e' : Bool) (w : World) : (Op.equalIn 9999 24 (.agg #[.bool a, .bool b, .bool c, .bool d, .bool e]) (.agg #[.bool a', .bool b', .bool c', .bool d', .bool e'])).run Try.prog w = .ok (a == a' && (b == b' && (c == c' && (d == d' && e == e')))) w := by
  obtain ⟨i, hi⟩ := info_bool
  rw [run_equalIn_array w 9998 _ _ Try.underlying24 hi, cells_bool, r5]
  simp only [Op.eqItems, Nat.mul_one]
  simp [go_sem]
  cases a <;> cases b <;> cases c <;> cases d <;> cases e <;> cases a' <;> cases b' <;> cases c' <;> cases d' <;> cases e' <;> rfl
theorem eqin_pk (p q : Ln.Pk) (w : World) : (Op.equalIn 10000 26 (.agg (pc p)) (.agg (pc q))).run Try.prog w = .ok (same p q) w := by
  simp [go_sem, pc, eq_ints, eq_bools]
  (repeat' split) <;> simp_all [same]
theorem eq_pk (p q : Ln.Pk) (w : World) : (binOp .eql 26 (.agg (pc p)) (.agg (pc q))).run Try.prog w = .ok (.bool (same p q)) w := by
  rw [run_eql_struct, eqin_pk]
  rfl
theorem ne_pk (p q : Ln.Pk) (w : World) : (binOp .neq 26 (.agg (pc p)) (.agg (pc q))).run Try.prog w = .ok (.bool (!same p q)) w := by
  rw [run_neq_struct, eqin_pk]
  rfl
end Lw
end Go.Proofs.Ytegjkbebnnpdcaa
