/- What a law carries: one store, its memory, and all that lay; the calls with letters. (The program's own contracts stand in StoreProg.) -/
import Derived.Test.YtlhapipgmadbeaaStoreProg
namespace Go.Proofs.Ytlhapipgmadbeaa
namespace Sq
open Go.RowKit Nv Nw Sp Lk

/-- A memory of the call's own, and all that lay. -/
structure Mm (w W : World) (b d : Nat) (m : M) : Prop where
  mem : Mem W b d m
  old : Below w.heap.size w W
  l1 : w.heap.size ≤ b
  l2 : w.heap.size ≤ d
theorem Mm.turn {w W W' : World} {b d : Nat} {m m' : M} (h : Mm w W b d m) (hm : Mem W' b d m') (ht : Turn b d W W') : Mm w W' b d m' := ⟨hm, h.old.trans (ht.below h.old.size h.l1 h.l2), h.l1, h.l2⟩
theorem Mm.grow {w W W' : World} {b d : Nat} {m : M} (h : Mm w W b d m) (hb : Below W.heap.size W W') : Mm w W' b d m := ⟨h.mem.grow hb, h.old.trans (hb.mono h.old.size), h.l1, h.l2⟩
/-- A store of it besides. -/
structure One (w W : World) (g b d : Nat) (m : M) : Prop where
  sto : Sto W g b d m
  mm : Mm w W b d m
theorem One.turn {w W W' : World} {g b d : Nat} {m m' : M} (h : One w W g b d m) (hm : Mem W' b d m') (ht : Turn b d W W') : One w W' g b d m' := ⟨h.sto.turn hm ht, h.mm.turn hm ht⟩
theorem One.grow {w W W' : World} {g b d : Nat} {m : M} (h : One w W g b d m) (hb : Below W.heap.size W W') : One w W' g b d m := ⟨h.sto.grow hb, h.mm.grow hb⟩

section
variable {w W : World} {g b d : Nat} {m m' : M}
theorem new_m {n : Int} (k : Nat) (hk : n = k) (hn : k ≤ 512) (h : Below w.heap.size w W) :
    Calls Try.prog 10 #[.int .i64 n] W fun e w' => ∃ b d, e = .returned (.tuple #[.pointer (some ⟨b, 0, none⟩), .int .i64 0]) ∧ Mm w w' b d (Nv.new k) ∧ W.heap.size ≤ b ∧ W.heap.size ≤ d ∧ Below W.heap.size W w' := by
  subst hk
  refine (new_ok k hn W).mono ?_
  rintro e w' ⟨⟨b, d, rfl, h1, h2, h3⟩, hb⟩
  have := h.size
  exact ⟨b, d, rfl, ⟨h1, h.trans (hb.mono h.size), by omega, by omega⟩, h2, h3, hb⟩
theorem open_m (h : Mm w W b d m) (hg : m.gone = false) (h8 : 8 ≤ m.ws.length) (hl : m.ws.length ≤ 512) :
    Calls Try.prog 12 #[.pointer (some ⟨b, 0, none⟩)] W fun e w' => ∃ g, e = .returned (.tuple #[.pointer (some ⟨g, 0, none⟩), .int .i64 0]) ∧ One w w' g b d m ∧ W.heap.size ≤ g ∧ Below W.heap.size W w' := by
  refine (sopen_c h.mem hg h8 hl).mono ?_
  rintro e w' ⟨g, rfl, h1, h2, hb⟩
  exact ⟨g, rfl, ⟨h1, h.grow hb⟩, h2, hb⟩
theorem put_m (h : One w W g b d m) (hm : Good m) (r : R) {E : Int} (hE : (put m r).1 = E) (hM : (put m r).2 = m') :
    Calls Try.prog 15 #[.pointer (some ⟨g, 0, none⟩), .agg (rcs r)] W fun e w' => e = .returned (.int .i64 E) ∧ One w w' g b d m' ∧ Turn b d W w' := by
  subst hE; subst hM
  refine (sput_c h.sto hm r).mono ?_
  rintro e w' ⟨rfl, h1, h2⟩
  exact ⟨rfl, h.turn h1 h2, h2⟩
theorem clear_m (h : One w W g b d m) (hm : Good m) {E : Int} (hE : (clear m).1 = E) (hM : (clear m).2 = m') :
    Calls Try.prog 17 #[.pointer (some ⟨g, 0, none⟩)] W fun e w' => e = .returned (.int .i64 E) ∧ One w w' g b d m' ∧ Turn b d W w' := by
  subst hE; subst hM
  refine (sclear_c h.sto hm).mono ?_
  rintro e w' ⟨rfl, h1, h2⟩
  exact ⟨rfl, h.turn h1 h2, h2⟩
theorem told_m (h : One w W g b d m) (hm : Good m) {L : List R} (hL : told m = L) {n : Nat} (hn : L.length = n) :
    Calls Try.prog 26 #[.pointer (some ⟨g, 0, none⟩)] W fun e w' => ∃ A c, e = .returned (.slice A n c) ∧ n ≤ c ∧ New_ w' W.heap.size A L ∧ One w w' g b d m ∧ Turn b d W w' := by
  subst hL; subst hn
  refine (stold_c h.sto hm).mono ?_
  rintro e w' ⟨A, c, rfl, h1, h2, h3, h4⟩
  exact ⟨A, c, rfl, h1, h2, h.turn h3 h4, h4⟩
theorem room_m (h : One w W g b d m) (hm : Good m) {n : Int} (hn : (rooms m : Int) - 1 = n) :
    Calls Try.prog 13 #[.pointer (some ⟨g, 0, none⟩)] W fun e w' => e = .returned (.int .i64 n) ∧ W = w' := by
  subst hn
  exact sroom_c h.sto hm
theorem arm_m (h : One w W g b d m) {k : Int} (hM : arm m k = m') :
    Calls Try.prog 19 #[.pointer (some ⟨b, 0, none⟩), .int .i64 k] W fun e w' => e = .returned (.tuple #[]) ∧ One w w' g b d m' ∧ Turn b d W w' := by
  subst hM
  refine (arm_c b d m k W h.mm.mem).mono ?_
  rintro e w' ⟨rfl, h1, h2⟩
  exact ⟨rfl, h.turn h1 (Turn.off h2), Turn.off h2⟩
theorem up_m (h : One w W g b d m) (hM : up m = m') :
    Calls Try.prog 21 #[.pointer (some ⟨b, 0, none⟩)] W fun e w' => e = .returned (.tuple #[]) ∧ One w w' g b d m' ∧ Turn b d W w' := by
  subst hM
  refine (up_c b d m W h.mm.mem).mono ?_
  rintro e w' ⟨rfl, h1, h2⟩
  exact ⟨rfl, h.turn h1 (Turn.off h2), Turn.off h2⟩
end
theorem put_many (m : M) (r : R) : m.many ≤ (Sp.put m r).2.many ∧ (Sp.put m r).2.many ≤ m.many + 5 := by
  unfold Sp.put
  (repeat' split) <;> first | (have := writes_more (five (free m) r (top m + 1)) m; simp only [five, List.length_cons, List.length_nil] at this ⊢; omega) | (simp only; omega)
/-- A memory stays good. -/
theorem Good.put {m : M} (h : Good m) (r : R) (hk : m.many < 4611686018427360000) : Good (Sp.put m r).2 := by
  have hm : (Sp.put m r).2.left ≤ max m.left 0 ∧ m.many ≤ (Sp.put m r).2.many ∧ (Sp.put m r).2.many ≤ m.many + 5 := by
    unfold Sp.put
    (repeat' split) <;> first | (have := writes_more (five (free m) r (top m + 1)) m; simp only [five, List.length_cons, List.length_nil] at this ⊢; omega) | (simp only; omega)
  have := h.left
  have := h.many0
  exact ⟨by omega, by omega, by omega, h.u32.put r, by rw [put_len]; exact h.len, by rw [put_len]; exact h.most⟩
theorem clear_len (m : M) : (Sp.clear m).2.ws.length = m.ws.length := by
  unfold Sp.clear
  split
  · rfl
  · exact writes_len _ _
theorem clear_many (m : M) (hl : m.ws.length ≤ 512) : m.many ≤ (Sp.clear m).2.many ∧ (Sp.clear m).2.many ≤ m.many + 128 ∧ (Sp.clear m).2.left ≤ max m.left 0 := by
  unfold Sp.clear
  split
  · simp only; omega
  · have h := writes_more ((List.range (rooms m)).map fun i => (4 * i, (0 : Int))) m
    have hr : rooms m = m.ws.length / 4 := rfl
    simp only [List.length_map, List.length_range] at h
    omega
theorem Good.clear {m : M} (h : Good m) (hk : m.many < 4611686018427360000) : Good (Sp.clear m).2 := by
  have h1 := clear_many m h.most
  have h2 := h.left
  have h3 := h.many0
  exact ⟨by omega, by omega, by omega, h.u32.clear, by rw [clear_len]; exact h.len, by rw [clear_len]; exact h.most⟩
theorem good_new {n : Nat} (h8 : 8 ≤ n) (h : n ≤ 512) : Good (Nv.new n) := ⟨by simp [Nv.new], by simp [Nv.new], by simp [Nv.new], U32.zeros n, by simp [Nv.new, zeros]; exact h8, by simp [Nv.new, zeros]; exact h⟩
theorem Good.arm {m : M} (h : Good m) {k : Int} (hk : k ≤ 9223372036854775807) : Good (arm m k) := by
  have := h.left
  unfold Nv.arm
  split
  · exact h
  · exact ⟨by show max k (-1) ≤ _; omega, h.many0, h.many1, h.u32, h.len, h.most⟩
theorem Good.up {m : M} (h : Good m) : Good (up m) := ⟨by simp [Nv.up], h.many0, h.many1, h.u32, h.len, h.most⟩
end Sq
end Go.Proofs.Ytlhapipgmadbeaa
