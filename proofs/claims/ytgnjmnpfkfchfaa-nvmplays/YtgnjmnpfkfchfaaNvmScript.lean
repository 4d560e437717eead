/- A script of calls that came in; both memories beside one another. -/
import Derived.Test.YtgnjmnpfkfchfaaNvmLaw3
import Derived.Laws.Tables
import Derived.Deep.MidRow
import Derived.Handy
import Derived.Deep.WholeRow
import Derived.Lib.SmallJoins
namespace Go.Proofs.Ytgnjmnpfkfchfaa
namespace Nw
open Go.RowKit Nv

/-- A call's cells. -/
abbrev cc (k i x : Int) : Array Value := #[.int .i64 k, .int .i64 i, .int .u32 x]
theorem info_cc : (Try.prog.info? 33).map (·.size) = some 3 := by kernel_rfl
def czero : C := ⟨0, 0, 0⟩
/-- Calls in a slice. -/
structure Cls (W : World) (A : Option Addr) (L : List C) : Prop where
  at_ : ∀ j, j < L.length → ∃ b o, A = some ⟨b, o, none⟩ ∧ b < W.heap.size ∧ W.rangeAt b (o + j * 3) (cc (L.getD j czero).k (L.getD j czero).i (L.getD j czero).w).toList
  lim : ∀ c ∈ L, -9223372036854775808 ≤ c.i ∧ c.i ≤ 9223372036854775807
theorem range_below {n : Nat} {W W' : World} (h : Below n W W') {b o : Nat} {cs : List Value} (hb : b < n) (hr : W.rangeAt b o cs) : W'.rangeAt b o cs := fun j v hv => (h.cell (p := ⟨b, o + j, none⟩) hb).trans (hr j v hv)
/-- One of them, in every world in which all that lay is as it was. -/
theorem Cls.get {w : World} {A : Option Addr} {L : List C} (h : Cls w A L) {j : Nat} (hj : j < L.length) :
    ∃ b o, A = some ⟨b, o, none⟩ ∧ ∃ c : C, (-9223372036854775808 ≤ c.i ∧ c.i ≤ 9223372036854775807) ∧ Hid (∀ W, Below w.heap.size w W → W.rangeAt b (o + j * 3) (cc c.k c.i c.w).toList) := by
  obtain ⟨b, o, e, hl, hr⟩ := h.at_ j hj
  refine ⟨b, o, e, L.getD j czero, h.lim _ ?_, fun W hb => range_below hb hl hr⟩
  have : L.getD j czero = L[j] := by simp [hj]
  rw [this]
  exact List.getElem_mem _
/-- A call loaded out of the midst of a block. -/
theorem ldc {ops : Array Oper} {rest : List Oper} {op : Oper} {a : Act} {w : World} {Q : Exit → Act → World → Prop} (hw : Region.wanted op (yielded ops a.tmps) = true) (x : Operand) (ho : op.op = .load 33 x)
    (b off : Nat) (k i y : Int) (hx : a.eval x = .pointer (some ⟨b, off, none⟩)) (hP : w.rangeAt b off (cc k i y).toList)
    (c : wpList Try.prog ops Q rest (a.put op.dst (.agg (cc k i y))) w) : wpList Try.prog ops Q (op :: rest) a w :=
  Lk.wanted hw fun _ hK => wp_load_mid 33 x ho b off hx (cc k i y).toList _ hP Try.underlying33 rfl info_cc (hK _ _ c)

/-- A call in a block of its own. -/
abbrev CFld (W : World) (g : Nat) (k i x : Int) : Prop := W.cell? ⟨g, 0, none⟩ = some (.int .i64 k) ∧ W.cell? ⟨g, 1, none⟩ = some (.int .i64 i) ∧ W.cell? ⟨g, 2, none⟩ = some (.int .u32 x)
/-- Both memories, and all that lay. -/
structure Ps (w W : World) (b d b' d' : Nat) (m r : M) : Prop where
  mem : Mem W b d m
  rem : Rem W b' d' r
  old : Below w.heap.size w W
  n1 : b ≠ b'
  n2 : b ≠ d'
  n3 : d ≠ b'
  n4 : d ≠ d'
  l1 : w.heap.size ≤ b
  l2 : w.heap.size ≤ d
  l3 : w.heap.size ≤ b'
  l4 : w.heap.size ≤ d'
namespace Ps
variable {w W W' : World} {b d b' d' : Nat} {m r m' r' : M}
theorem stepM (h : Ps w W b d b' d' m r) (hm : Mem W' b d m') (ho : Off2 b d W W') : Ps w W' b d b' d' m' r :=
  ⟨hm, h.rem.of_off ho (Ne.symm h.n1) (Ne.symm h.n3) (Ne.symm h.n2) (Ne.symm h.n4), h.old.trans (ho.below h.l1 h.l2), h.n1, h.n2, h.n3, h.n4, h.l1, h.l2, h.l3, h.l4⟩
theorem stepR (h : Ps w W b d b' d' m r) (hr : Rem W' b' d' r') (ho : Off2 b' d' W W') : Ps w W' b d b' d' m r' :=
  ⟨h.mem.of_off ho h.n1 h.n2 h.n3 h.n4, hr, h.old.trans (ho.below h.l3 h.l4), h.n1, h.n2, h.n3, h.n4, h.l1, h.l2, h.l3, h.l4⟩
theorem grow (h : Ps w W b d b' d' m r) (hb : Below W.heap.size W W') : Ps w W' b d b' d' m r :=
  ⟨h.mem.grow hb, h.rem.grow hb, h.old.trans (hb.mono h.old.size), h.n1, h.n2, h.n3, h.n4, h.l1, h.l2, h.l3, h.l4⟩
theorem alloc (h : Ps w W b d b' d' m r) (o : Obj) : Ps w (W.alloc o) b d b' d' m r := h.grow ((Below.refl _ _).alloc (Nat.le_refl _) _)
theorem drew (h : Ps w W b d b' d' m r) : Ps w W.drew b d b' d' m r := ⟨h.mem.drew, h.rem.drew, h.old.drew, h.n1, h.n2, h.n3, h.n4, h.l1, h.l2, h.l3, h.l4⟩
end Ps
/-- Both memories, a call in a block of its own, and all that lay. -/
structure Pc (w W : World) (b d b' d' : Nat) (m r : M) (g : Nat) (k i x : Int) : Prop where
  ps : Ps w W b d b' d' m r
  at_ : W.heap[g]? = some (.cells (cc k i x) 33 (0, 0))
  m1 : g ≠ b
  m2 : g ≠ d
  m3 : g ≠ b'
  m4 : g ≠ d'
namespace Pc
variable {w W W' : World} {b d b' d' : Nat} {m r m' r' : M} {g : Nat} {k i x : Int}
theorem new (h : Ps w W b d b' d' m r) (k i x : Int) : Pc w (W.alloc (.cells (cc k i x) 33)) b d b' d' m r W.heap.size k i x := by
  have h1 := h.mem.lt
  have h2 := h.mem.lt'
  have h3 := h.rem.lt
  have h4 := h.rem.lt'
  exact ⟨h.alloc _, heap_alloc_last W _, by omega, by omega, by omega, by omega⟩
theorem fld (h : Pc w W b d b' d' m r g k i x) : CFld W g k i x := ⟨Joins.cell_of_block h.at_ 0, Joins.cell_of_block h.at_ 1, Joins.cell_of_block h.at_ 2⟩
theorem drew (h : Pc w W b d b' d' m r g k i x) : Pc w W.drew b d b' d' m r g k i x := ⟨h.ps.drew, h.at_, h.m1, h.m2, h.m3, h.m4⟩
theorem stepM (h : Pc w W b d b' d' m r g k i x) (hm : Mem W' b d m') (ho : Off2 b d W W') : Pc w W' b d b' d' m' r g k i x := ⟨h.ps.stepM hm ho, (ho.block g h.m1 h.m2).trans h.at_, h.m1, h.m2, h.m3, h.m4⟩
theorem stepR (h : Pc w W b d b' d' m r g k i x) (hr : Rem W' b' d' r') (ho : Off2 b' d' W W') : Pc w W' b d b' d' m r' g k i x := ⟨h.ps.stepR hr ho, (ho.block g h.m3 h.m4).trans h.at_, h.m1, h.m2, h.m3, h.m4⟩
end Pc

/-! ### the calls, with letters -/
section
variable {w W : World} {b d b' d' : Nat} {m r : M} {g : Nat} {k i x : Int}
theorem pwrite (hf : Few m) {E : Int} (hE : werr m i = E) (h : Pc w W b d b' d' m r g k i x) :
    Calls Try.prog 11 #[.pointer (some ⟨b, 0, none⟩), .int .i64 i, .int .u32 x] W fun e w' => e = .returned (.int .i64 E) ∧ Pc w w' b d b' d' (wput m i x) r g k i x := by
  subst hE
  refine (write_c b d m i x W h.ps.mem hf).mono ?_
  rintro e w' ⟨rfl, h1, h2⟩
  exact ⟨rfl, h.stepM h1 h2⟩
theorem prwrite (hf : Few r) {E : Int} (hE : werr r i = E) (h : Pc w W b d b' d' m r g k i x) :
    Calls Try.prog 12 #[.pointer (some ⟨b', 0, none⟩), .int .i64 i, .int .u32 x] W fun e w' => e = .returned (.int .i64 E) ∧ Pc w w' b d b' d' m (wput r i x) g k i x := by
  subst hE
  refine (rwrite_c b' d' r i x W h.ps.rem hf).mono ?_
  rintro e w' ⟨rfl, h1, h2⟩
  exact ⟨rfl, h.stepR h1 h2⟩
theorem pread {v E : Int} (hv : rval m i = v) (hE : rerr m i = E) (h : Pc w W b d b' d' m r g k i x) :
    Calls Try.prog 13 #[.pointer (some ⟨b, 0, none⟩), .int .i64 i] W fun e w' => e = .returned (.tuple #[.int .u32 v, .int .i64 E]) ∧ Pc w w' b d b' d' m r g k i x := by
  subst hE; subst hv
  refine (read_c b d m i W h.ps.mem).mono ?_
  rintro e w' ⟨rfl, h1, h2⟩
  exact ⟨rfl, h.stepM h1 h2⟩
theorem prread {v E : Int} (hv : rval r i = v) (hE : rerr r i = E) (h : Pc w W b d b' d' m r g k i x) :
    Calls Try.prog 14 #[.pointer (some ⟨b', 0, none⟩), .int .i64 i] W fun e w' => e = .returned (.tuple #[.int .u32 v, .int .i64 E]) ∧ W = w' := by
  subst hE; subst hv
  exact rread_c b' d' r i W h.ps.rem
theorem parm (h : Pc w W b d b' d' m r g k i x) :
    Calls Try.prog 15 #[.pointer (some ⟨b, 0, none⟩), .int .i64 i] W fun e w' => e = .returned (.tuple #[]) ∧ Pc w w' b d b' d' (arm m i) r g k i x := by
  refine (arm_c b d m i W h.ps.mem).mono ?_
  rintro e w' ⟨rfl, h1, h2⟩
  exact ⟨rfl, h.stepM h1 h2⟩
theorem prarm (h : Pc w W b d b' d' m r g k i x) :
    Calls Try.prog 16 #[.pointer (some ⟨b', 0, none⟩), .int .i64 i] W fun e w' => e = .returned (.tuple #[]) ∧ Pc w w' b d b' d' m (arm r i) g k i x := by
  refine (rarm_c b' d' r i W h.ps.rem).mono ?_
  rintro e w' ⟨rfl, h1, h2⟩
  exact ⟨rfl, h.stepR h1 h2⟩
theorem pup (h : Ps w W b d b' d' m r) :
    Calls Try.prog 17 #[.pointer (some ⟨b, 0, none⟩)] W fun e w' => e = .returned (.tuple #[]) ∧ Ps w w' b d b' d' (up m) r ∧ Off2 b d W w' := by
  refine (up_c b d m W h.mem).mono ?_
  rintro e w' ⟨rfl, h1, h2⟩
  exact ⟨rfl, h.stepM h1 h2, h2⟩
theorem prup (h : Ps w W b d b' d' m r) :
    Calls Try.prog 18 #[.pointer (some ⟨b', 0, none⟩)] W fun e w' => e = .returned (.tuple #[]) ∧ Ps w w' b d b' d' m (up r) ∧ Off2 b' d' W w' := by
  refine (rup_c b' d' r W h.rem).mono ?_
  rintro e w' ⟨rfl, h1, h2⟩
  exact ⟨rfl, h.stepR h1 h2, h2⟩
end

/-! ### quiet ones, and what the script leaves of a memory -/
theorem Ps.drewN {w W : World} {b d b' d' : Nat} {m r : M} (h : Ps w W b d b' d' m r) (n : Nat) : Ps w (W.drewN n) b d b' d' m r :=
  ⟨⟨h.mem.row.of_block rfl, h.mem.ws.of_block rfl, h.mem.ne⟩, ⟨h.rem.row.of_block rfl, h.rem.ws.of_block rfl, h.rem.ne⟩, h.old.trans ⟨rfl, rfl, rfl, Nat.le_refl _, fun _ _ => rfl⟩, h.n1, h.n2, h.n3, h.n4, h.l1, h.l2, h.l3, h.l4⟩
theorem qdown {w W : World} {b d b' d' : Nat} {m r : M} (h : Ps w W b d b' d' m r) (n : Nat) :
    Calls Try.prog 19 #[.pointer (some ⟨b, 0, none⟩)] (W.drewN n) fun e w' => e = .returned (.bool m.gone) ∧ w' = W.drewN n :=
  (down_c b d m _ (h.drewN n).mem).mono fun _ _ h => ⟨h.1, h.2.symm⟩
theorem qmany {w W : World} {b d b' d' : Nat} {m r : M} (h : Ps w W b d b' d' m r) (n : Nat) :
    Calls Try.prog 20 #[.pointer (some ⟨b, 0, none⟩)] (W.drewN n) fun e w' => e = .returned (.int .i64 m.many) ∧ w' = W.drewN n :=
  (many_c b d m _ (h.drewN n).mem).mono fun _ _ h => ⟨h.1, h.2.symm⟩
theorem qwords {w W : World} {b d b' d' : Nat} {m r : M} (h : Ps w W b d b' d' m r) {N : Nat} (hN : m.ws.length = N) (n : Nat) :
    Calls Try.prog 21 #[.pointer (some ⟨b, 0, none⟩)] (W.drewN n) fun e w' => e = .returned (.int .i64 N) ∧ w' = W.drewN n := by
  subst hN
  exact (words_c b d m _ (h.drewN n).mem).mono fun _ _ h => ⟨h.1, h.2.symm⟩

/-- Behind so many calls of a script. -/
structure Inv (n k : Nat) (m : M) : Prop where
  fit : Fit m n k
  left : m.left ≤ 9223372036854775807
namespace Inv
variable {n k : Nat} {m : M}
theorem start (n : Nat) : Inv n 0 (new n) := ⟨fit_new n, by simp [new]⟩
theorem few (h : Inv n k m) (hk : k ≤ 100) : Few m := ⟨h.left, h.fit.many0, by have := h.fit.many1; omega⟩
theorem write (h : Inv n k m) (i x : Int) : Inv n (k + 1) (wput m i x) := by
  refine ⟨by have := h.fit.wput i x; simpa using this, ?_⟩
  have := h.left
  unfold wput
  (repeat' split) <;> (try exact this)
  show m.left - 1 ≤ _
  omega
theorem arm (h : Inv n k m) {i : Int} (hi : i ≤ 9223372036854775807) : Inv n (k + 1) (arm m i) := by
  refine ⟨(h.fit.arm i).more (by omega), ?_⟩
  have := h.left
  unfold Nv.arm
  split
  · exact this
  · show max i (-1) ≤ _; omega
theorem up (h : Inv n k m) : Inv n (k + 1) (up m) := ⟨h.fit.up.more (by omega), by simp [Nv.up]⟩
theorem more (h : Inv n k m) : Inv n (k + 1) m := ⟨h.fit.more (by omega), h.left⟩
end Inv
end Nw
end Go.Proofs.Ytgnjmnpfkfchfaa
