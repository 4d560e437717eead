/- General, over any program: a slice of structs that came in as an argument, opened. -/
import Derived.Test.YtioiffhbbhlgeaaLawKit
import Derived.OpenShut
import Derived.Deep.Slices
import Derived.Deep.MidRow
namespace Go.Proofs.Ytioiffhbbhlgeaa
namespace Lk
open Go Go.RowKit Go.WideShapes Go.ChangeShapes Go.ChangeAt

section
variable {H : Type} {enc : TypeId × Value → H} {P : Program} {W : World} {sp : Nat → Bool} {held : Bool} {b0 : Nat}
theorem one_int {t : TypeId} {k : IntKind} (ht : P.underlying t = some (.int k)) {f : Nat} {v : Value} {x : Option (DataW H × List MemPlace)} (hx : x.isSome = true) (h : DataW.trod enc P W b0 sp held f t [v] = x) : ∃ n, v = .int k n ∧ (Lit.int k n).wf = true := by
  obtain ⟨y, rfl⟩ := Option.isSome_iff_exists.1 hx
  obtain ⟨n, e, hw⟩ := DataW.trod_int ht h
  exact ⟨n, by simpa using e, hw.2⟩
theorem one_bool {t : TypeId} (ht : P.underlying t = some .bool) {f : Nat} {v : Value} {x : Option (DataW H × List MemPlace)} (hx : x.isSome = true) (h : DataW.trod enc P W b0 sp held f t [v] = x) : ∃ n, v = .bool n := by
  obtain ⟨y, rfl⟩ := Option.isSome_iff_exists.1 hx
  obtain ⟨n, e, _⟩ := DataW.trod_bool ht h
  exact ⟨n, by simpa using e⟩
end

/-- Elements of sz cells each, each of which is some a that meets Q. -/
theorem open_rows {H : Type} {enc : TypeId × Value → H} {P : Program} {W : World} {base : Nat} {T E : TypeId} {sz : Nat} {α : Type} (f : α → List Value) (Q : α → Prop) (z : α) (hT : P.underlying T = some (.slice E)) (hc : P.cellsOf E = sz) (hsz : 0 < sz) (hlen : ∀ a, (f a).length = sz)
    (hcells : ∀ {fuel : Nat} {cs : List Value} {x : DataW H × List MemPlace}, DataW.trod enc P W 0 (fun _ => true) true fuel E cs = some x → ∃ a, cs = f a ∧ Q a)
    {v : Value} {d : DataW H} {ps : List MemPlace} (hv : Value.okWide P W .any base T v) (h : DataW.Trod enc P W 0 (fun _ => true) true T v d ps) :
    ∃ (A : Option Addr) (L : List α) (c : Nat), v = .slice A L.length c ∧ L.length ≤ c ∧ (∀ i a, L[i]? = some a → ∃ g o, A = some ⟨g, o, none⟩ ∧ g < W.heap.size ∧ W.rangeAt g (o + i * sz) (f a)) ∧ ∀ a ∈ L, Q a := by
  obtain ⟨a0, len0, cap0, rfl⟩ := okWide_slice hT hv
  obtain ⟨fuel, hf⟩ := h
  rcases Go.Deep.open_slice hT hf with ⟨hcn, _⟩ | ⟨a, len, cap, m, n, D, Pl, hcn, _, hlc, hm, hmm, _, hx⟩
  · simp only [Value.cells, List.cons.injEq, Value.slice.injEq, and_true] at hcn
    obtain ⟨rfl, rfl, rfl⟩ := hcn
    exact ⟨none, [], 0, rfl, Nat.le_refl _, fun i a hi => by simp at hi, fun a ha => by simp at ha⟩
  · simp only [Value.cells, List.cons.injEq, Value.slice.injEq, and_true] at hcn
    obtain ⟨rfl, rfl, rfl⟩ := hcn
    simp only [if_true] at hmm
    subst hmm
    rw [hc] at hx
    have each : ∀ i, i < m → ∃ c : α, W.cells? 0 (a.add (i * sz)) sz = some (f c) ∧ Q c := by
      intro i hi
      obtain ⟨cs', h1, h2⟩ := hx i hi
      obtain ⟨p, rfl, hp⟩ := hcells h2
      exact ⟨p, h1, hp⟩
    obtain ⟨b, off, spot⟩ := a
    have hspot : 0 < m → spot = none := by
      intro h0
      obtain ⟨j, hj, _⟩ := each 0 h0
      obtain ⟨_, _, h5⟩ := World.cells?_some hj
      have := h5 0 hsz
      rw [List.getElem?_eq_getElem (by rw [hlen]; exact hsz)] at this
      simpa [Addr.add] using World.cell?_spot this
    have hF : ∃ F : Nat → α, ∀ i, i < len0 → W.cells? 0 (Addr.add ⟨b, off, spot⟩ (i * sz)) sz = some (f (F i)) ∧ Q (F i) :=
      ⟨fun i => if hi : i < len0 then (each i (by omega)).choose else z, fun i hi => by
        simp only [dif_pos hi]
        exact (each i (by omega)).choose_spec⟩
    obtain ⟨F, hF⟩ := hF
    refine ⟨some ⟨b, off, spot⟩, (List.range len0).map F, m, by simp, by simpa using hlc, fun i c hi => ?_, fun c hc => ?_⟩
    · have hi' : i < len0 := by have := (List.getElem?_eq_some_iff.1 hi).1; simpa using this
      have hc' : c = F i := by
        rw [List.getElem?_map, List.getElem?_range hi'] at hi
        simpa using hi.symm
      subst hc'
      have h1 := (hF i hi').1
      obtain rfl := hspot (by omega)
      have hbl := World.cells?_block h1 hsz
      obtain ⟨_, h3, h4⟩ := World.cells?_some h1
      rw [Addr.add_mid] at hbl h4
      refine ⟨b, off, rfl, hbl, fun j v hv => ?_⟩
      have hj : j < sz := by
        rcases Nat.lt_or_ge j sz with g | g
        · exact g
        · rw [List.getElem?_eq_none (by rw [hlen]; exact g)] at hv; cases hv
      have := h4 j hj
      rw [hv] at this
      rw [← this, Addr.add_mid]
    · obtain ⟨i, hi, rfl⟩ := List.mem_map.1 hc
      exact (hF i (by simpa using hi)).2
end Lk
end Go.Proofs.Ytioiffhbbhlgeaa
