/- Health, which signals are lost, bools: that came in as arguments, opened. -/
import Derived.Test.YtamlfoheoooapaaDoorHealthIn
import Derived.Test.YtamlfoheoooapaaDoorOpenKit
import Derived.Test.YtamlfoheoooapaaDoorLimKit
import Derived.OpenShut
namespace Go.Proofs.YtamlfoheoooapaaDoor
namespace Qw
open Go Go.RowKit Go.WideShapes Go.ChangeShapes Go.ChangeAt

/-- A slice of bools that came in. -/
def Bls (W : World) (A : Option Addr) (L : List Bool) : Prop := ∀ (i : Nat) (b : Bool), L[i]? = some b → ∃ g o, A = some ⟨g, o, none⟩ ∧ g < W.heap.size ∧ W.cell? ⟨g, o + i, none⟩ = some (.bool b)
theorem Bls.below {W W' : World} {A : Option Addr} {L : List Bool} (h : Bls W A L) (hb : Below W.heap.size W W') : Bls W' A L := fun i b hi => by
  obtain ⟨g, o, e, hg, hc⟩ := h i b hi
  exact ⟨g, o, e, by have := hb.size; omega, (World.cell?_of_block (w := W) (hb.block g hg)).trans hc⟩

theorem cells_b : Tryd.prog.cellsOf 4 = 1 := by kernel_rfl

theorem cells_i : Tryd.prog.cellsOf 3 = 1 := by kernel_rfl

theorem cells_h : Tryd.prog.cellsOf 23 = 2 := by kernel_rfl

theorem cells_g : Tryd.prog.cellsOf 24 = 5 := by kernel_rfl

theorem list2 {α : Type} {l : List α} (h : l.length = 2) : ∃ a b, l = [a, b] := by
  match l, h with
  | [a, b], _ => exact ⟨a, b, rfl⟩

theorem l5 {α : Type} {l : List α} (h : l.length = 5) : ∃ a b c d e, l = [a, b, c, d, e] := by
  match l, h with
  | [a, b, c, d, e], _ => exact ⟨a, b, c, d, e, rfl⟩

theorem okWide_arr {P : Program} {w : World} {r : Reach} {base : Nat} {t : TypeId} {v : Value} {n : Nat} {e : TypeId} (ht : P.underlying t = some (.array n e)) (h : Value.okWide P w r base t v) : ∃ cs, v = .agg cs ∧ cs.size = P.cellsOf t := by
  simp only [Value.okWide, ht] at h
  obtain ⟨cs, h1, h2, _⟩ := h
  exact ⟨cs, h1, h2⟩

set_option maxRecDepth 100000 in
theorem open_h {H : Type} {enc : TypeId × Value → H} {W : World} {base : Nat} {v : Value} {d : DataW H} {ps : List MemPlace} (hv : Value.okWide Tryd.prog W .any base 23 v) (h : DataW.Trod enc Tryd.prog W 0 (fun _ => true) true 23 v d ps) : ∃ q s : Int, v = .agg (hc q s) := by
  obtain ⟨cs, rfl, hsz⟩ := okWide_struct Tryd.underlying23 hv
  obtain ⟨fuel, hf⟩ := h
  obtain ⟨xs, n, _, _, hl, hn, hh⟩ := DataW.trod_struct Tryd.underlying23 hf
  rw [cells_h] at hl
  obtain ⟨c0, c1, e⟩ := list2 hl
  rw [e] at hh
  have k : ∀ i, i < 2 → xs[i]?.isSome = true := fun i hi => by simp [hn, hi]
  have h0 : DataW.trod enc Tryd.prog W 0 (fun _ => true) true n 3 (([c0, c1].drop 0).take (Tryd.prog.cellsOf 3)) = xs[0]? := hh 0 _ rfl
  have h1 : DataW.trod enc Tryd.prog W 0 (fun _ => true) true n 3 (([c0, c1].drop 1).take (Tryd.prog.cellsOf 3)) = xs[1]? := hh 1 _ rfl
  rw [cells_i] at h0 h1
  obtain ⟨n0, rfl, _⟩ := Lk.one_int Tryd.underlying3 (k 0 (by decide)) h0
  obtain ⟨n1, rfl, _⟩ := Lk.one_int Tryd.underlying3 (k 1 (by decide)) h1
  refine ⟨n0, n1, ?_⟩
  have : cs.toList = (hc n0 n1).toList := by simpa [Value.cells] using e
  rw [Array.toList_inj.1 this]

set_option maxRecDepth 100000 in
theorem open_g5 {H : Type} {enc : TypeId × Value → H} {W : World} {base : Nat} {v : Value} {d : DataW H} {ps : List MemPlace} (hv : Value.okWide Tryd.prog W .any base 24 v) (h : DataW.Trod enc Tryd.prog W 0 (fun _ => true) true 24 v d ps) : ∃ f : Nat → Bool, v = .agg (g5 f) := by
  obtain ⟨cs, rfl, hsz⟩ := okWide_arr Tryd.underlying24 hv
  obtain ⟨fuel, hf⟩ := h
  obtain ⟨xs, m, _, _, hl, hn, hh⟩ := DataW.trod_array Tryd.underlying24 hf
  rw [cells_g] at hl
  obtain ⟨a, b, c, d, e, e0⟩ := l5 hl
  rw [cells_b, e0] at hh
  have k : ∀ i, i < 5 → xs[i]?.isSome = true := fun i hi => by simp [hn, hi]
  obtain ⟨n0, rfl⟩ := Lk.one_bool Tryd.underlying4 (k 0 (by decide)) (hh 0 (by decide))
  obtain ⟨n1, rfl⟩ := Lk.one_bool Tryd.underlying4 (k 1 (by decide)) (hh 1 (by decide))
  obtain ⟨n2, rfl⟩ := Lk.one_bool Tryd.underlying4 (k 2 (by decide)) (hh 2 (by decide))
  obtain ⟨n3, rfl⟩ := Lk.one_bool Tryd.underlying4 (k 3 (by decide)) (hh 3 (by decide))
  obtain ⟨n4, rfl⟩ := Lk.one_bool Tryd.underlying4 (k 4 (by decide)) (hh 4 (by decide))
  refine ⟨fun i => [n0, n1, n2, n3, n4].getD i false, ?_⟩
  have : cs.toList = (g5 fun i => [n0, n1, n2, n3, n4].getD i false).toList := by simpa [Value.cells] using e0
  rw [Array.toList_inj.1 this]

theorem open_bools {H : Type} {enc : TypeId × Value → H} {W : World} {base : Nat} {v : Value} {d : DataW H} {ps : List MemPlace} (hv : Value.okWide Tryd.prog W .any base 31 v) (h : DataW.Trod enc Tryd.prog W 0 (fun _ => true) true 31 v d ps) :
    ∃ A L c, v = .slice A L.length c ∧ Bls W A L := by
  obtain ⟨A, L, c, e, _, hr, _⟩ := Lk.open_rows (fun b : Bool => [Value.bool b]) (fun _ => True) false Tryd.underlying31 cells_b (by decide) (fun _ => rfl) (fun h => by
    obtain ⟨b, e, _⟩ := DataW.trod_bool Tryd.underlying4 h
    exact ⟨b, e, trivial⟩) hv h
  refine ⟨A, L, c, e, fun i b hi => ?_⟩
  obtain ⟨g, o, e2, hg, h3⟩ := hr i b hi
  refine ⟨g, o, e2, hg, ?_⟩
  have := h3 0 _ rfl
  simpa using this

end Qw
end Go.Proofs.YtamlfoheoooapaaDoor
