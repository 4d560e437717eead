/- Arrays of three that came in as arguments, opened. -/
import Derived.Test.YtjjconkelbjodaaSynthOpen
import Derived.Test.YtjjconkelbjodaaLimKit
namespace Go.Proofs.Ytjjconkelbjodaa
namespace Lw5
open Go.RowKit Go.WideShapes Go.ChangeShapes Go.ChangeAt Go.Joins TabC Ew

theorem list3 {α : Type} {l : List α} (h : l.length = 3) : ∃ a b c, l = [a, b, c] := by
  match l, h with
  | [a, b, c], _ => exact ⟨a, b, c, rfl⟩

theorem cells_i3 : Try.prog.cellsOf 30 = 3 := by kernel_rfl
theorem open_i3 {H : Type} {enc : TypeId × Value → H} {W : World} {base : Nat} {v : Value} {d : DataW H} {ps : List MemPlace} (hv : Value.okWide Try.prog W .any base 30 v) (h : DataW.Trod enc Try.prog W 0 (fun _ => true) true 30 v d ps) :
    ∃ a b c : Int, v = .agg #[.int .i64 a, .int .i64 b, .int .i64 c] := by
  obtain ⟨cs, rfl, hsz⟩ := okWide_arr Try.underlying30 hv
  obtain ⟨fuel, hf⟩ := h
  obtain ⟨xs, m, _, _, hc, hl, hh⟩ := DataW.trod_array Try.underlying30 hf
  rw [cells_i3] at hc
  obtain ⟨a, b, c, e⟩ := list3 hc
  rw [cells_i] at hh
  rw [e] at hh
  have k : ∀ i, i < 3 → xs[i]?.isSome = true := fun i hi => by simp [hl, hi]
  obtain ⟨n0, rfl⟩ := one_int (k 0 (by decide)) (hh 0 (by decide))
  obtain ⟨n1, rfl⟩ := one_int (k 1 (by decide)) (hh 1 (by decide))
  obtain ⟨n2, rfl⟩ := one_int (k 2 (by decide)) (hh 2 (by decide))
  refine ⟨n0, n1, n2, ?_⟩
  have : cs.toList = [.int .i64 n0, .int .i64 n1, .int .i64 n2] := by simpa [Value.cells] using e
  rw [show cs = #[.int .i64 n0, .int .i64 n1, .int .i64 n2] from Array.toList_inj.1 this]

theorem one_u16 {H : Type} {enc : TypeId × Value → H} {W : World} {f : Nat} {v : Value} {x : Option (DataW H × List MemPlace)} (hx : x.isSome = true) (h : DataW.trod enc Try.prog W 0 (fun _ => true) true f 37 [v] = x) : ∃ n, v = .int .u16 n ∧ (0 ≤ n ∧ n ≤ 65535) := by
  obtain ⟨y, rfl⟩ := Option.isSome_iff_exists.1 hx
  obtain ⟨n, e, _, hw⟩ := DataW.trod_int Try.underlying37 h
  exact ⟨n, by simpa using e, Lk.u16_lim hw⟩
theorem cells_u16 : Try.prog.cellsOf 37 = 1 := by kernel_rfl
theorem cells_u3 : Try.prog.cellsOf 39 = 3 := by kernel_rfl
theorem open_u3 {H : Type} {enc : TypeId × Value → H} {W : World} {base : Nat} {v : Value} {d : DataW H} {ps : List MemPlace} (hv : Value.okWide Try.prog W .any base 39 v) (h : DataW.Trod enc Try.prog W 0 (fun _ => true) true 39 v d ps) :
    ∃ a b c : Int, v = .agg #[.int .u16 a, .int .u16 b, .int .u16 c] ∧ (0 ≤ a ∧ a ≤ 65535) ∧ (0 ≤ b ∧ b ≤ 65535) ∧ (0 ≤ c ∧ c ≤ 65535) := by
  obtain ⟨cs, rfl, hsz⟩ := okWide_arr Try.underlying39 hv
  obtain ⟨fuel, hf⟩ := h
  obtain ⟨xs, m, _, _, hc, hl, hh⟩ := DataW.trod_array Try.underlying39 hf
  rw [cells_u3] at hc
  obtain ⟨a, b, c, e⟩ := list3 hc
  rw [cells_u16] at hh
  rw [e] at hh
  have k : ∀ i, i < 3 → xs[i]?.isSome = true := fun i hi => by simp [hl, hi]
  obtain ⟨n0, rfl, h0⟩ := one_u16 (k 0 (by decide)) (hh 0 (by decide))
  obtain ⟨n1, rfl, h1⟩ := one_u16 (k 1 (by decide)) (hh 1 (by decide))
  obtain ⟨n2, rfl, h2⟩ := one_u16 (k 2 (by decide)) (hh 2 (by decide))
  refine ⟨n0, n1, n2, ?_, h0, h1, h2⟩
  have : cs.toList = [.int .u16 n0, .int .u16 n1, .int .u16 n2] := by simpa [Value.cells] using e
  rw [show cs = #[.int .u16 n0, .int .u16 n1, .int .u16 n2] from Array.toList_inj.1 this]

end Lw5
end Go.Proofs.Ytjjconkelbjodaa
