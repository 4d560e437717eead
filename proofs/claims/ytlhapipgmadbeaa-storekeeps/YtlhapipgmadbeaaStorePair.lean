/- A store beside the document's own memory; a script of calls. -/
import Derived.Test.YtlhapipgmadbeaaStoreLaw3
namespace Go.Proofs.Ytlhapipgmadbeaa
namespace Sq
open Go.RowKit Nv Nw Sp Lk

/-- A call of a script. -/
structure Cq where
  k : Int
  r : R
  n : Int
  w : Int
def qzero : Cq := ⟨0, ⟨0, 0, false⟩, 0, 0⟩
abbrev qc (c : Cq) : Array Value := #[.int .i64 c.k, .int .i64 c.r.code, .int .i64 c.r.cnt, .bool c.r.lat, .int .i64 c.n, .int .u32 c.w]
theorem info_qc : (Try.prog.info? 40).map (·.size) = some 6 := by kernel_rfl
/-- Calls in a slice. -/
structure Scr (W : World) (A : Option Addr) (L : List Cq) : Prop where
  at_ : ∀ j, j < L.length → ∃ b o, A = some ⟨b, o, none⟩ ∧ b < W.heap.size ∧ W.rangeAt b (o + j * 6) (qc (L.getD j qzero)).toList
  lim : ∀ c ∈ L, (-9223372036854775808 ≤ c.n ∧ c.n ≤ 9223372036854775807) ∧ 0 ≤ c.w ∧ c.w ≤ 4294967295
theorem Scr.get {w : World} {A : Option Addr} {L : List Cq} (h : Scr w A L) {j : Nat} (hj : j < L.length) :
    ∃ b o, A = some ⟨b, o, none⟩ ∧ ∃ c : Cq, ((-9223372036854775808 ≤ c.n ∧ c.n ≤ 9223372036854775807) ∧ 0 ≤ c.w ∧ c.w ≤ 4294967295) ∧ Hid (∀ W, Below w.heap.size w W → W.rangeAt b (o + j * 6) (qc c).toList) := by
  obtain ⟨b, o, e, hl, hr⟩ := h.at_ j hj
  refine ⟨b, o, e, L.getD j qzero, h.lim _ ?_, fun W hb x v hv => (hb.cell (p := ⟨b, o + j * 6 + x, none⟩) hl).trans (hr x v hv)⟩
  have : L.getD j qzero = L[j] := by simp [hj]
  rw [this]
  exact List.getElem_mem _
theorem ldq {ops : Array Oper} {rest : List Oper} {op : Oper} {a : Act} {w : World} {Q : Exit → Act → World → Prop} (hw : Region.wanted op (yielded ops a.tmps) = true) (x : Operand) (ho : op.op = .load 40 x)
    (b off : Nat) (q : Cq) (hx : a.eval x = .pointer (some ⟨b, off, none⟩)) (hP : w.rangeAt b off (qc q).toList)
    (c : wpList Try.prog ops Q rest (a.put op.dst (.agg (qc q))) w) : wpList Try.prog ops Q (op :: rest) a w :=
  Lk.wanted hw fun _ hK => wp_load_mid 40 x ho b off hx (qc q).toList _ hP Try.underlying40 rfl info_qc (hK _ _ c)
abbrev QFld (V : World) (q : Nat) (c : Cq) : Prop := V.cell? ⟨q, 0, none⟩ = some (.int .i64 c.k) ∧ V.cell? ⟨q, 1, none⟩ = some (.int .i64 c.r.code) ∧ V.cell? ⟨q, 2, none⟩ = some (.int .i64 c.r.cnt) ∧ V.cell? ⟨q, 3, none⟩ = some (.bool c.r.lat) ∧ V.cell? ⟨q, 4, none⟩ = some (.int .i64 c.n) ∧ V.cell? ⟨q, 5, none⟩ = some (.int .u32 c.w)

theorem rem_keep {W W' : World} {b d b' d' : Nat} {o : M} (h : Rem W b' d' o) (ht : Turn b d W W') (h1 : b' ≠ b) (h2 : b' ≠ d) (h3 : d' ≠ b) (h4 : d' ≠ d) : Rem W' b' d' o :=
  ⟨h.row.of_block (ht.block b' h.lt h1 h2), h.ws.of_block (ht.block d' h.lt' h3 h4), h.ne⟩
structure Pr (w W : World) (g b d : Nat) (m : M) (b' d' : Nat) (o : M) : Prop where
  one : One w W g b d m
  rem : Rem W b' d' o
  n1 : b ≠ b'
  n2 : b ≠ d'
  n3 : d ≠ b'
  n4 : d ≠ d'
  n5 : g ≠ b'
  n6 : g ≠ d'
  l3 : w.heap.size ≤ b'
  l4 : w.heap.size ≤ d'
namespace Pr
variable {w W W' : World} {g b d b' d' : Nat} {m m' o o' : M}
theorem tA (h : Pr w W g b d m b' d' o) (ha : One w W' g b d m') (ht : Turn b d W W') : Pr w W' g b d m' b' d' o :=
  ⟨ha, rem_keep h.rem ht (Ne.symm h.n1) (Ne.symm h.n3) (Ne.symm h.n2) (Ne.symm h.n4), h.n1, h.n2, h.n3, h.n4, h.n5, h.n6, h.l3, h.l4⟩
theorem tR (h : Pr w W g b d m b' d' o) (hr : Rem W' b' d' o') (ht : Turn b' d' W W') : Pr w W' g b d m b' d' o' := by
  have hk := mem_keep h.one.mm.mem ht h.n1 h.n2 h.n3 h.n4
  exact ⟨⟨h.one.sto.same hk (ht.block g h.one.sto.lt h.n5 h.n6), ⟨hk, h.one.mm.old.trans (ht.below h.one.mm.old.size h.l3 h.l4), h.one.mm.l1, h.one.mm.l2⟩⟩, hr, h.n1, h.n2, h.n3, h.n4, h.n5, h.n6, h.l3, h.l4⟩
theorem grow (h : Pr w W g b d m b' d' o) (hb : Below W.heap.size W W') : Pr w W' g b d m b' d' o := ⟨h.one.grow hb, h.rem.grow hb, h.n1, h.n2, h.n3, h.n4, h.n5, h.n6, h.l3, h.l4⟩
theorem other (h : Pr w W g b d m b' d' o) (hb : Below W.heap.size W W') {g2 : Nat} (h2 : One w W' g2 b d m) (hg : W.heap.size ≤ g2) : Pr w W' g2 b d m b' d' o := by
  have h3 := h.rem.lt
  have h4 := h.rem.lt'
  exact ⟨h2, h.rem.grow hb, h.n1, h.n2, h.n3, h.n4, by omega, by omega, h.l3, h.l4⟩
end Pr
structure Pq (w W : World) (g b d : Nat) (m : M) (b' d' : Nat) (o : M) (q : Nat) (c : Cq) : Prop where
  pr : Pr w W g b d m b' d' o
  at_ : W.heap[q]? = some (.cells (qc c) 40 (0, 0))
  m1 : q ≠ b
  m2 : q ≠ d
  m3 : q ≠ b'
  m4 : q ≠ d'
namespace Pq
variable {w W W' : World} {g b d b' d' : Nat} {m m' o o' : M} {q : Nat} {c : Cq}
theorem lt (h : Pq w W g b d m b' d' o q c) : q < W.heap.size := (Array.getElem?_eq_some_iff.1 h.at_).1
theorem new (h : Pr w W g b d m b' d' o) (c : Cq) : Pq w (W.alloc (.cells (qc c) 40)) g b d m b' d' o W.heap.size c := by
  have h1 := h.one.mm.mem.lt
  have h2 := h.one.mm.mem.lt'
  have h3 := h.rem.lt
  have h4 := h.rem.lt'
  exact ⟨h.grow ((Below.refl _ _).alloc (Nat.le_refl _) _), heap_alloc_last W _, by omega, by omega, by omega, by omega⟩
theorem fld (h : Pq w W g b d m b' d' o q c) : QFld W q c := ⟨Joins.cell_of_block h.at_ 0, Joins.cell_of_block h.at_ 1, Joins.cell_of_block h.at_ 2, Joins.cell_of_block h.at_ 3, Joins.cell_of_block h.at_ 4, Joins.cell_of_block h.at_ 5⟩
theorem drew (h : Pq w W g b d m b' d' o q c) : Pq w W.drew g b d m b' d' o q c := by
  have hb : Below W.heap.size W W.drew := (Below.refl _ _).drew
  exact ⟨h.pr.grow hb, h.at_, h.m1, h.m2, h.m3, h.m4⟩
theorem tA (h : Pq w W g b d m b' d' o q c) (ha : One w W' g b d m') (ht : Turn b d W W') : Pq w W' g b d m' b' d' o q c := ⟨h.pr.tA ha ht, (ht.block q h.lt h.m1 h.m2).trans h.at_, h.m1, h.m2, h.m3, h.m4⟩
theorem tR (h : Pq w W g b d m b' d' o q c) (hr : Rem W' b' d' o') (ht : Turn b' d' W W') : Pq w W' g b d m b' d' o' q c := ⟨h.pr.tR hr ht, (ht.block q h.lt h.m3 h.m4).trans h.at_, h.m1, h.m2, h.m3, h.m4⟩
end Pq
section
variable {w W : World} {g b d b' d' : Nat} {m m' o o' : M} {q : Nat} {c : Cq}
theorem pq_put (hm : Good m) {E : Int} (hE : (put m c.r).1 = E) (hM : (put m c.r).2 = m') (h : Pq w W g b d m b' d' o q c) :
    Calls Try.prog 15 #[.pointer (some ⟨g, 0, none⟩), .agg (rcs c.r)] W fun e w' => e = .returned (.int .i64 E) ∧ Pq w w' g b d m' b' d' o q c := by
  refine (put_m h.pr.one hm c.r hE hM).mono ?_
  rintro e w' ⟨rfl, h1, h2⟩
  exact ⟨rfl, h.tA h1 h2⟩
theorem pq_rput (hm : Good o) {E : Int} (hE : (put o c.r).1 = E) (hM : (put o c.r).2 = o') (h : Pq w W g b d m b' d' o q c) :
    Calls Try.prog 16 #[.pointer (some ⟨b', 0, none⟩), .agg (rcs c.r)] W fun e w' => e = .returned (.int .i64 E) ∧ Pq w w' g b d m b' d' o' q c := by
  subst hE; subst hM
  refine (rput_c b' d' o c.r W h.pr.rem hm.few (by have := hm.many1; omega) hm.u32 hm.len hm.most).mono ?_
  rintro e w' ⟨rfl, h1, h2⟩
  exact ⟨rfl, h.tR h1 h2⟩
theorem pq_clear (hm : Good m) {E : Int} (hE : (clear m).1 = E) (hM : (clear m).2 = m') (h : Pq w W g b d m b' d' o q c) :
    Calls Try.prog 17 #[.pointer (some ⟨g, 0, none⟩)] W fun e w' => e = .returned (.int .i64 E) ∧ Pq w w' g b d m' b' d' o q c := by
  refine (clear_m h.pr.one hm hE hM).mono ?_
  rintro e w' ⟨rfl, h1, h2⟩
  exact ⟨rfl, h.tA h1 h2⟩
theorem pq_rclear (hm : Good o) {E : Int} (hE : (clear o).1 = E) (hM : (clear o).2 = o') (h : Pq w W g b d m b' d' o q c) :
    Calls Try.prog 18 #[.pointer (some ⟨b', 0, none⟩)] W fun e w' => e = .returned (.int .i64 E) ∧ Pq w w' g b d m b' d' o' q c := by
  subst hE; subst hM
  refine (rclear_c b' d' o W h.pr.rem hm.few (by have := hm.many1; omega) hm.most).mono ?_
  rintro e w' ⟨rfl, h1, h2⟩
  exact ⟨rfl, h.tR h1 (Turn.off h2)⟩
theorem pq_arm (hM : arm m c.n = m') (h : Pq w W g b d m b' d' o q c) :
    Calls Try.prog 19 #[.pointer (some ⟨b, 0, none⟩), .int .i64 c.n] W fun e w' => e = .returned (.tuple #[]) ∧ Pq w w' g b d m' b' d' o q c := by
  refine (arm_m h.pr.one hM).mono ?_
  rintro e w' ⟨rfl, h1, h2⟩
  exact ⟨rfl, h.tA h1 h2⟩
theorem pq_rarm (hM : arm o c.n = o') (h : Pq w W g b d m b' d' o q c) :
    Calls Try.prog 20 #[.pointer (some ⟨b', 0, none⟩), .int .i64 c.n] W fun e w' => e = .returned (.tuple #[]) ∧ Pq w w' g b d m b' d' o' q c := by
  subst hM
  refine (rarm_c b' d' o c.n W h.pr.rem).mono ?_
  rintro e w' ⟨rfl, h1, h2⟩
  exact ⟨rfl, h.tR h1 (Turn.off h2)⟩
theorem pq_up (hM : up m = m') (h : Pq w W g b d m b' d' o q c) :
    Calls Try.prog 21 #[.pointer (some ⟨b, 0, none⟩)] W fun e w' => e = .returned (.tuple #[]) ∧ Pq w w' g b d m' b' d' o q c := by
  refine (up_m h.pr.one hM).mono ?_
  rintro e w' ⟨rfl, h1, h2⟩
  exact ⟨rfl, h.tA h1 h2⟩
theorem pq_rup (hM : up o = o') (h : Pq w W g b d m b' d' o q c) :
    Calls Try.prog 22 #[.pointer (some ⟨b', 0, none⟩)] W fun e w' => e = .returned (.tuple #[]) ∧ Pq w w' g b d m b' d' o' q c := by
  subst hM
  refine (rup_c b' d' o W h.pr.rem).mono ?_
  rintro e w' ⟨rfl, h1, h2⟩
  exact ⟨rfl, h.tR h1 (Turn.off h2)⟩
theorem pq_write (hm : Good m) {E : Int} (hE : werr m c.n = E) (hM : wput m c.n c.w = m') (h : Pq w W g b d m b' d' o q c) :
    Calls Try.prog 23 #[.pointer (some ⟨b, 0, none⟩), .int .i64 c.n, .int .u32 c.w] W fun e w' => e = .returned (.int .i64 E) ∧ Pq w w' g b d m' b' d' o q c := by
  subst hE; subst hM
  refine (write_c b d m c.n c.w W h.pr.one.mm.mem hm.few).mono ?_
  rintro e w' ⟨rfl, h1, h2⟩
  exact ⟨rfl, h.tA (h.pr.one.turn h1 (Turn.off h2)) (Turn.off h2)⟩
theorem pq_rwrite (hm : Good o) {E : Int} (hE : werr o c.n = E) (hM : wput o c.n c.w = o') (h : Pq w W g b d m b' d' o q c) :
    Calls Try.prog 24 #[.pointer (some ⟨b', 0, none⟩), .int .i64 c.n, .int .u32 c.w] W fun e w' => e = .returned (.int .i64 E) ∧ Pq w w' g b d m b' d' o' q c := by
  subst hE; subst hM
  refine (rwrite_c b' d' o c.n c.w W h.pr.rem hm.few).mono ?_
  rintro e w' ⟨rfl, h1, h2⟩
  exact ⟨rfl, h.tR h1 (Turn.off h2)⟩
end
theorem Good.wput {m : M} (h : Good m) (i x : Int) (h0 : 0 ≤ x) (h1 : x ≤ 4294967295) (hk : m.many < 4611686018427360000) : Good (Nv.wput m i x) := by
  have hm := wput_more m i x
  have h2 := h.left
  have h3 := h.many0
  exact ⟨by omega, by omega, by omega, h.u32.wput i h0 (by omega), by rw [wput_len]; exact h.len, by rw [wput_len]; exact h.most⟩
theorem qdown1 {w W : World} {g b d : Nat} {m : M} (h : One w W g b d m) (j : Nat) :
    Calls Try.prog 28 #[.pointer (some ⟨b, 0, none⟩)] (W.drewN j) fun e w' => e = .returned (.bool m.gone) ∧ w' = W.drewN j :=
  (down_c b d m _ (h.mm.mem.grow (below_n (Below.refl _ _) j))).mono fun _ _ h => ⟨h.1, h.2.symm⟩
end Sq
end Go.Proofs.Ytlhapipgmadbeaa
