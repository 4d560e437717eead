/- Texts that came in. -/
import Derived.Test.YtikpmiphjaciiaaCrcLaw2
import Derived.Deep.Slices
import Derived.Deep.RegionHeld3
namespace Go.Proofs.Ytikpmiphjaciiaa
namespace Crc
open Go.RowKit Go.WideShapes Go.ChangeShapes Go.ChangeAt

/-- Bytes in memory. -/
structure Bt where
  A : Option Addr
  c : Nat
  l : List Nat
instance : Inhabited Bt := ⟨⟨none, 0, []⟩⟩
/-- Texts that came in. -/
structure Texts (w : World) (A : Option Addr) (n : Nat) (T : Nat → Bt) : Prop where
  len : n ≤ 9223372036854775807
  at_ : ∀ i, i < n → ∃ b o, A = some ⟨b, o, none⟩ ∧ w.cell? ⟨b, o + i, none⟩ = some (.slice (T i).A (T i).l.length (T i).c)
  small : ∀ i, i < n → (T i).l.length ≤ 9223372036854775807
  bytes : ∀ i, i < n → Cr.Bytes (T i).l
  in_ : ∀ i, i < n → InB w (T i).A (T i).l

theorem cellsBytes : Try.prog.cellsOf 23 = 1 := by kernel_rfl
section
variable {H : Type} {enc : TypeId × Value → H}
/-- A cell that reads as bytes. -/
theorem open_bytes_cell {W : World} {fuel : Nat} {v : Value} {y : DataW H × List MemPlace} (h : DataW.trod enc Try.prog W 0 (fun _ => true) true fuel 23 [v] = some y) :
    ∃ t : Bt, v = .slice t.A t.l.length t.c ∧ t.l.length ≤ 9223372036854775807 ∧ Cr.Bytes t.l ∧ InB W t.A t.l := by
  rcases open_ints Try.underlying23 Try.underlying5 cellsByte h with ⟨hcs, _⟩ | ⟨a, len, cap, zs, hcs, _, hlc, hm, hz, _, hcell, hwz⟩
  · simp only [List.cons.injEq, and_true] at hcs
    subst hcs
    exact ⟨⟨none, 0, []⟩, rfl, by decide, none_bytes, fun i hi => by simp at hi⟩
  · simp only [List.cons.injEq, and_true] at hcs
    subst hcs
    have hzl : len ≤ zs.length := by rw [hz]; simpa using hlc
    have hl : (zs.take len).length = len := by simp; omega
    have hI : Lk.IntsAt W .u8 (some a) (zs.take len) := by
      intro i hi
      rw [hl] at hi
      obtain ⟨b, off, rfl, hcc⟩ := ints_at hcell (by omega)
      refine ⟨b, off, rfl, ?_⟩
      rw [hcc i (by omega)]
      simp [List.getD_eq_getElem?_getD, hi]
    obtain ⟨m, hml, hmb, hmi⟩ := bytes_of_ints hI (fun n hn => hwz n (List.mem_of_mem_take hn))
    exact ⟨⟨some a, cap, m⟩, by rw [hml, hl], by show m.length ≤ _; unfold maxLen at hm; omega, hmb, hmi⟩
theorem open_texts {W : World} {base : Nat} {v : Value} {d : DataW H} {ps : List MemPlace} (hv : Value.okWide Try.prog W .any base 33 v) (h : DataW.Trod enc Try.prog W 0 (fun _ => true) true 33 v d ps) :
    ∃ (A : Option Addr) (n c : Nat) (T : Nat → Bt), v = .slice A n c ∧ Texts W A n T := by
  obtain ⟨a0, len0, cap0, rfl⟩ := okWide_slice Try.underlying33 hv
  obtain ⟨fuel, hf⟩ := h
  rcases Go.Deep.open_slice1 Try.underlying33 cellsBytes hf with ⟨hc, _⟩ | ⟨a, len, cap, m, n, V, D, Pl, hc, _, hlc, hm, hmm, _, hx⟩
  · simp only [Value.cells, List.cons.injEq, Value.slice.injEq, and_true] at hc
    obtain ⟨rfl, rfl, rfl⟩ := hc
    exact ⟨none, 0, 0, fun _ => default, rfl, ⟨by decide, fun i hi => by omega, fun i hi => by omega, fun i hi => by omega, fun i hi => by omega⟩⟩
  · simp only [Value.cells, List.cons.injEq, Value.slice.injEq, and_true] at hc
    obtain ⟨rfl, rfl, rfl⟩ := hc
    simp only [if_true] at hmm
    subst hmm
    unfold maxLen at hm
    obtain ⟨T, hT⟩ := Go.Deep.choose_lt (n := len0) (fun i hi => open_bytes_cell (hx i (by omega)).2)
    refine ⟨some a, len0, m, T, rfl, ⟨by omega, fun i hi => ?_, fun i hi => (hT i hi).2.1, fun i hi => (hT i hi).2.2.1, fun i hi => (hT i hi).2.2.2⟩⟩
    have g := (hx i (by omega)).1
    have f0 := (hx 0 (by omega)).1
    rw [(hT i hi).1] at g
    obtain ⟨b, off, spot⟩ := a
    have hspot : spot = none := by simpa [Addr.add] using World.cell?_spot f0
    subst hspot
    have hplain : (⟨b, off, none⟩ : Addr).add i = ⟨b, off + i, none⟩ := by unfold Addr.add; split <;> simp_all
    rw [hplain] at g
    exact ⟨b, off, rfl, g⟩
end
end Crc
end Go.Proofs.Ytikpmiphjaciiaa
