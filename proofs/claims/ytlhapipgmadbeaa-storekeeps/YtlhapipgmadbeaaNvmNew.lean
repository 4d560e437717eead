/- Contracts of New, the program's and the document's; those of a memory's calls with letters for what they answer. -/
import Derived.Test.YtlhapipgmadbeaaNvmRef
namespace Go.Proofs.Ytlhapipgmadbeaa
namespace Nw
open Go.RowKit Nv

theorem info_w : (Try.prog.info? 38).map (fun i => (i.zero, i.size, i.bytes)) = some (some (.int .u32 0), 1, 4) := by kernel_rfl

theorem zeros_len (n : Nat) : (zeros n).length = n := by simp [zeros]

theorem heap_two (w : World) (o p : Obj) : ((w.alloc o).alloc p).heap[w.heap.size]? = (w.alloc o).heap[w.heap.size]? := Below.heap_alloc _ p _ (by simp)

theorem mem_made (w : World) (n : Nat) : Mem ((w.alloc (.cells (madeCells #[.int .u32 0] n) 38)).alloc (.cells #[.slice (some ⟨w.heap.size, 0, none⟩) n n, .bool false, .bool false, .int .i64 0, .int .i64 0] 70)) (w.heap.size + 1) w.heap.size (new n) := by
  refine ⟨?_, (Ws.made w n).of_block (heap_two w _ _), by omega⟩
  have := World.rowIs_alloc (w.alloc (.cells (madeCells #[.int .u32 0] n) 38)) #[.slice (some ⟨w.heap.size, 0, none⟩) n n, .bool false, .bool false, .int .i64 0, .int .i64 0] 70 (pf w.heap.size (new n)) fun i hi => by
    have : i = 0 ∨ i = 1 ∨ i = 2 ∨ i = 3 ∨ i = 4 := by simp at hi; omega
    rcases this with rfl | rfl | rfl | rfl | rfl <;> (simp [pf, new, zeros]; try decide)
  rwa [World.size_alloc] at this

theorem rem_made (w : World) (n : Nat) : Rem ((w.alloc (.cells (madeCells #[.int .u32 0] n) 38)).alloc (.cells #[.slice (some ⟨w.heap.size, 0, none⟩) n n, .bool false, .int .i64 (-1), .int .i64 0] 53)) (w.heap.size + 1) w.heap.size (new n) := by
  refine ⟨?_, (Ws.made w n).of_block (heap_two w _ _), by omega⟩
  have := World.rowIs_alloc (w.alloc (.cells (madeCells #[.int .u32 0] n) 38)) #[.slice (some ⟨w.heap.size, 0, none⟩) n n, .bool false, .int .i64 (-1), .int .i64 0] 53 (rf w.heap.size (new n)) fun i hi => by
    have : i = 0 ∨ i = 1 ∨ i = 2 ∨ i = 3 := by simp at hi; omega
    rcases this with rfl | rfl | rfl | rfl <;> simp [rf, new, zeros]
  rwa [World.size_alloc] at this

theorem below_two (w : World) (o p : Obj) : Below w.heap.size w ((w.alloc o).alloc p) := ((Below.refl _ _).alloc (Nat.le_refl _) _).alloc (by simp) _

theorem new_ok (n : Nat) (hn : n ≤ 512) (w : World) :
    Calls Try.prog 10 #[.int .i64 n] w fun e w' => (∃ b d, e = .returned (.tuple #[.pointer (some ⟨b, 0, none⟩), .int .i64 0]) ∧ Mem w' b d (new n) ∧ w.heap.size ≤ b ∧ w.heap.size ≤ d) ∧ Below w.heap.size w w' := by
  have hmk := run_make_row' (P := Try.prog) 51 38 (.int .u32 0) 4 Try.underlying51 info_w rfl .i64 .i64 n (by omega) (by omega)
  have h1 : (n : Int) ≤ 512 := by omega
  go_enter Try.func10, Try.ntmps10
  go_wp2_with fail
  go_ret2
  exact ⟨⟨_, _, rfl, mem_made w n, by omega, by omega⟩, below_two w _ _⟩

theorem new_no (n : Int) (hn : ¬ (0 ≤ n ∧ n ≤ 512)) (w : World) :
    Calls Try.prog 10 #[.int .i64 n] w fun e w' => e = .returned (.tuple #[.pointer none, .int .i64 1]) ∧ w = w' := by
  by_cases h0 : n < 0
  · clear hn
    go_enter Try.func10, Try.ntmps10
    go_wp2_with fail
    go_ret2
    exact ⟨rfl, rfl⟩
  · have h1 : 512 < n := by omega
    clear hn
    go_enter Try.func10, Try.ntmps10
    go_wp2_with fail
    go_ret2
    exact ⟨rfl, rfl⟩

theorem rnew_ok (n : Nat) (hn : n ≤ 512) (w : World) :
    Calls Try.prog 11 #[.int .i64 n] w fun e w' => (∃ b d, e = .returned (.tuple #[.pointer (some ⟨b, 0, none⟩), .int .i64 0]) ∧ Rem w' b d (new n) ∧ w.heap.size ≤ b ∧ w.heap.size ≤ d) ∧ Below w.heap.size w w' := by
  have hmk := run_make_row' (P := Try.prog) 51 38 (.int .u32 0) 4 Try.underlying51 info_w rfl .i64 .i64 n (by omega) (by omega)
  have h1 : (n : Int) ≤ 512 := by omega
  go_enter Try.func11, Try.ntmps11
  go_wp2_with fail
  go_ret2
  exact ⟨⟨_, _, rfl, rem_made w n, by omega, by omega⟩, below_two w _ _⟩

theorem rnew_no (n : Int) (hn : ¬ (0 ≤ n ∧ n ≤ 512)) (w : World) :
    Calls Try.prog 11 #[.int .i64 n] w fun e w' => e = .returned (.tuple #[.pointer none, .int .i64 1]) ∧ w = w' := by
  by_cases h0 : n < 0
  · clear hn
    go_enter Try.func11, Try.ntmps11
    go_wp2_with fail
    go_ret2
    exact ⟨rfl, rfl⟩
  · have h1 : 512 < n := by omega
    clear hn
    go_enter Try.func11, Try.ntmps11
    go_wp2_with fail
    go_ret2
    exact ⟨rfl, rfl⟩

/-- One memory of the call's own, and all that lay. -/
structure Own (w W : World) (b d : Nat) (m : M) : Prop where
  mem : Mem W b d m
  old : Below w.heap.size w W
  le : w.heap.size ≤ b
  le' : w.heap.size ≤ d
namespace Own
variable {w W W' : World} {b d : Nat} {m m' : M}
theorem step (h : Own w W b d m) (hm : Mem W' b d m') (ho : Off2 b d W W') : Own w W' b d m' := ⟨hm, h.old.trans (ho.below h.le h.le'), h.le, h.le'⟩

theorem drew (h : Own w W b d m) : Own w W.drew b d m := ⟨h.mem.drew, h.old.drew, h.le, h.le'⟩

theorem grow (h : Own w W b d m) (hb : Below W.heap.size W W') : Own w W' b d m := ⟨h.mem.grow hb, h.old.trans (hb.mono h.old.size), h.le, h.le'⟩
end Own

/-! ### with letters -/

theorem write_v {w W : World} {b d : Nat} {m m' : M} {i x E : Int} (hE : werr m i = E) (hM : wput m i x = m') (h : Own w W b d m) (hf : Few m) :
    Calls Try.prog 23 #[.pointer (some ⟨b, 0, none⟩), .int .i64 i, .int .u32 x] W fun e w' => e = .returned (.int .i64 E) ∧ Own w w' b d m' := by
  subst hE; subst hM
  refine (write_c b d m i x W h.mem hf).mono ?_
  rintro e w' ⟨rfl, h1, h2⟩
  exact ⟨rfl, h.step h1 h2⟩

theorem read_v {w W : World} {b d : Nat} {m : M} {i v E : Int} (hV : rval m i = v) (hE : rerr m i = E) (h : Own w W b d m) :
    Calls Try.prog 29 #[.pointer (some ⟨b, 0, none⟩), .int .i64 i] W fun e w' => e = .returned (.tuple #[.int .u32 v, .int .i64 E]) ∧ Own w w' b d m := by
  subst hE; subst hV
  refine (read_c b d m i W h.mem).mono ?_
  rintro e w' ⟨rfl, h1, h2⟩
  exact ⟨rfl, h.step h1 h2⟩

theorem arm_v {w W : World} {b d : Nat} {m m' : M} {k : Int} (hM : arm m k = m') (h : Own w W b d m) :
    Calls Try.prog 19 #[.pointer (some ⟨b, 0, none⟩), .int .i64 k] W fun e w' => e = .returned (.tuple #[]) ∧ Own w w' b d m' := by
  subst hM
  refine (arm_c b d m k W h.mem).mono ?_
  rintro e w' ⟨rfl, h1, h2⟩
  exact ⟨rfl, h.step h1 h2⟩

theorem up_v {w W : World} {b d : Nat} {m m' : M} (hM : up m = m') (h : Own w W b d m) :
    Calls Try.prog 21 #[.pointer (some ⟨b, 0, none⟩)] W fun e w' => e = .returned (.tuple #[]) ∧ Own w w' b d m' := by
  subst hM
  refine (up_c b d m W h.mem).mono ?_
  rintro e w' ⟨rfl, h1, h2⟩
  exact ⟨rfl, h.step h1 h2⟩

theorem down_v {w W : World} {b d : Nat} {m : M} {x : Bool} (hx : m.gone = x) (h : Own w W b d m) :
    Calls Try.prog 28 #[.pointer (some ⟨b, 0, none⟩)] W fun e w' => e = .returned (.bool x) ∧ W = w' := by
  subst hx
  exact down_c b d m W h.mem

theorem words_v {w W : World} {b d : Nat} {m : M} {x : Int} (hx : (m.ws.length : Int) = x) (h : Own w W b d m) :
    Calls Try.prog 31 #[.pointer (some ⟨b, 0, none⟩)] W fun e w' => e = .returned (.int .i64 x) ∧ W = w' := by
  subst hx
  exact words_c b d m W h.mem

theorem new_v {w W : World} {n : Int} (k : Nat) (hk : n = k) (hn : k ≤ 512) (h : Below w.heap.size w W) :
    Calls Try.prog 10 #[.int .i64 n] W fun e w' => ∃ b d, e = .returned (.tuple #[.pointer (some ⟨b, 0, none⟩), .int .i64 0]) ∧ Own w w' b d (new k) := by
  subst hk
  refine (new_ok k hn W).mono ?_
  rintro e w' ⟨⟨b, d, rfl, h1, h2, h3⟩, hb⟩
  have := h.size
  exact ⟨b, d, rfl, h1, h.trans (hb.mono h.size), by omega, by omega⟩
end Nw
end Go.Proofs.Ytlhapipgmadbeaa
