/- The walk of CrcTells. -/
import Derived.Test.YtegjkbebnnpdcaaCrcAwake
namespace Go.Proofs.Ytegjkbebnnpdcaa
namespace Crc
open Go.RowKit Go.WideShapes Go.ChangeShapes Go.ChangeAt

/-- Bytes that came in. -/
def InB (w : World) (A : Option Addr) (l : List Nat) : Prop := ∀ i, i < l.length → ∃ c o, A = some ⟨c, o, none⟩ ∧ w.cell? ⟨c, o + i, none⟩ = some (.int .u8 (l.getD i 0 : Nat))

theorem u8_nat {v : Int} (h : (Lit.int .u8 v).wf = true) : ∃ n : Nat, v = n ∧ n < 256 := by
  simp only [Lit.wf, IntKind.min, IntKind.max, IntKind.signed, IntKind.bits, Bool.and_eq_true, decide_eq_true_eq, Bool.false_eq_true, if_false] at h
  exact ⟨v.toNat, by omega, by omega⟩
theorem u16_nat {v : Int} (h : (Lit.int .u16 v).wf = true) : ∃ n : Nat, v = n ∧ n < 65536 := by
  simp only [Lit.wf, IntKind.min, IntKind.max, IntKind.signed, IntKind.bits, Bool.and_eq_true, decide_eq_true_eq, Bool.false_eq_true, if_false] at h
  exact ⟨v.toNat, by omega, by omega⟩
theorem i64_lim {v : Int} (h : (Lit.int .i64 v).wf = true) : -9223372036854775808 ≤ v ∧ v ≤ 9223372036854775807 := by
  simp only [Lit.wf, IntKind.min, IntKind.max, IntKind.signed, IntKind.bits, Bool.and_eq_true, decide_eq_true_eq, if_true] at h
  omega

theorem cellsByte : Try.prog.cellsOf 5 = 1 := by kernel_rfl
theorem bytes_of_ints {w : World} {A : Option Addr} {l : List Int} (h : Lk.IntsAt w .u8 A l) (hw : ∀ n ∈ l, (Lit.int .u8 n).wf = true) : ∃ m : List Nat, m.length = l.length ∧ Cr.Bytes m ∧ InB w A m := by
  refine ⟨l.map Int.toNat, by simp, fun v hv => ?_, fun i hi => ?_⟩
  · obtain ⟨z, hz, rfl⟩ := List.mem_map.1 hv
    obtain ⟨n, rfl, hn⟩ := u8_nat (hw z hz)
    simpa using hn
  · have hi' : i < l.length := by simpa using hi
    obtain ⟨c, o, e, hc⟩ := h i hi'
    refine ⟨c, o, e, hc.trans ?_⟩
    obtain ⟨n, hn, _⟩ := u8_nat (hw l[i] (List.getElem_mem _))
    simp [hi', hn]

section
variable {H : Type} {enc : TypeId × Value → H}
/-- A slice of bytes that came in. -/
theorem open_bytes {W : World} {base : Nat} {v : Value} {d : DataW H} {ps : List MemPlace} (hv : Value.okWide Try.prog W .any base 27 v) (h : DataW.Trod enc Try.prog W 0 (fun _ => true) true 27 v d ps) :
    ∃ (A : Option Addr) (l : List Nat) (cap : Nat), v = .slice A l.length cap ∧ l.length ≤ 9223372036854775807 ∧ l.length ≤ cap ∧ Cr.Bytes l ∧ InB W A l := by
  obtain ⟨A, l, c, rfl, hlc, hm, hI, hw⟩ := Lk.open_ints_any Try.underlying27 Try.underlying5 cellsByte hv h
  obtain ⟨m, hl, hb, hi⟩ := bytes_of_ints hI hw
  exact ⟨A, m, c, by rw [hl], by unfold maxLen at hm; omega, by omega, hb, hi⟩
end

theorem InB.own {w W : World} {b n : Nat} {A : Option Addr} {l : List Nat} (h : InB w A l) (ho : Own w.heap.size b n w W) : BytesAt W b A l := by
  intro i hi
  obtain ⟨c, o, e, hc⟩ := h i hi
  have hlt : c < w.heap.size := World.block_lt_of_cell? _ _ hc
  have := ho.le
  exact ⟨c, o, e, by omega, (ho.old.cell (p := ⟨c, o + i, none⟩) hlt).trans hc⟩
theorem Own.new_after {w W : World} (hb : Below w.heap.size w W) : Own w.heap.size W.heap.size 0 w (W.alloc (.cells Z 72)) := ⟨new_is W, hb.size, hb.alloc hb.size _⟩