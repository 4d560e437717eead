/- General, over any program: rows of the call's own that append makes, their elements of one or of several cells. -/
import Derived.Test.YtdfihcbmojggoaaObjKit
import Derived.OneCell
import Derived.Deep.AppendLies
import Derived.Laws.OwnMore
namespace Go.Proofs.Ytdfihcbmojggoaa
namespace Lk
open Go Go.RowKit

section
variable {α : Type}
/-- A row of the call's own, from block base on: its elements' cells by f, of type e. -/
def Rw (e sz : Nat) (f : α → List Value) (W : World) (base : Nat) (v : Value) (l : List α) : Prop := W.ownsRow base e sz v l.length (l.flatMap f)
namespace Rw
variable {e sz base : Nat} {f : α → List Value} {W W' : World} {v : Value} {l : List α}
theorem nil (e sz : Nat) (f : α → List Value) (W : World) (base : Nat) : Rw e sz f W base (.slice none 0 0) [] := ⟨by simp, .inl ⟨rfl, rfl⟩⟩
theorem below (h : Rw e sz f W base v l) (hb : Below W.heap.size W W') : Rw e sz f W' base v l := by
  obtain ⟨h1, h2⟩ := h
  refine ⟨h1, ?_⟩
  rcases h2 with h2 | ⟨g, cap, cur, hv, hg, hh, r⟩
  · exact .inl h2
  · exact .inr ⟨g, cap, cur, hv, hg, (hb.block g (Array.getElem?_eq_some_iff.1 hh).1).trans hh, r⟩
theorem alloc (h : Rw e sz f W base v l) (o : Obj) : Rw e sz f (W.alloc o) base v l := h.below ((Below.refl _ _).alloc (Nat.le_refl _) _)
theorem drew (h : Rw e sz f W base v l) : Rw e sz f W.drew base v l := h
theorem block_le (h : Rw e sz f W base v l) : ∀ k, v.ownBlock = some k → base ≤ k := by
  intro k hk
  rcases h.2 with ⟨rfl, _⟩ | ⟨g, cap, cur, rfl, hg, _⟩
  · cases hk
  · simp [Value.ownBlock] at hk; omega
theorem flat_len (hf : ∀ a, (f a).length = sz) (l : List α) : (l.flatMap f).length = l.length * sz := by
  induction l with
  | nil => simp
  | cons a l ih => rw [List.flatMap_cons, List.length_append, ih, hf, List.length_cons, Nat.succ_mul]; omega
theorem flat_at (hf : ∀ a, (f a).length = sz) {l : List α} {i : Nat} {a : α} (hi : l[i]? = some a) {j : Nat} {u : Value} (hu : (f a)[j]? = some u) : (l.flatMap f)[i * sz + j]? = some u := by
  have hj : j < sz := by rw [← hf a]; exact (List.getElem?_eq_some_iff.1 hu).1
  induction l generalizing i with
  | nil => simp at hi
  | cons b l ih =>
    rw [List.flatMap_cons]
    cases i with
    | zero =>
      simp only [List.getElem?_cons_zero, Option.some.injEq] at hi
      subst hi
      rw [Nat.zero_mul, Nat.zero_add, List.getElem?_append_left (by rw [hf]; exact hj)]
      exact hu
    | succ i =>
      have : (i + 1) * sz = i * sz + sz := Nat.succ_mul i sz
      rw [List.getElem?_append_right (by rw [hf]; omega), hf, show (i + 1) * sz + j - sz = i * sz + j from by omega]
      exact ih (by simpa using hi)
/-- As a slice: its elements' cells. -/
theorem form (hf : ∀ a, (f a).length = sz) (h : Rw e sz f W base v l) : ∃ A c, v = .slice A l.length c ∧ l.length ≤ c ∧ ∀ i a, l[i]? = some a → ∃ g, A = some ⟨g, 0, none⟩ ∧ base ≤ g ∧ g < W.heap.size ∧ W.rangeAt g (i * sz) (f a) := by
  have hh := h
  rcases h.2 with ⟨rfl, h0⟩ | ⟨g, cap, cur, rfl, hg, hb, hc, _⟩
  · have : l = [] := List.length_eq_zero_iff.1 h0
    subst this
    exact ⟨none, 0, rfl, Nat.le_refl _, fun i a hi => by simp at hi⟩
  · refine ⟨_, _, rfl, hc, fun i a hi => ⟨g, rfl, hg, (Array.getElem?_eq_some_iff.1 hb).1, fun j u hu => ?_⟩⟩
    have h1 := flat_at hf hi hu
    have hlt : i * sz + j < l.length * sz := by
      have := (List.getElem?_eq_some_iff.1 h1).1
      rwa [flat_len hf] at this
    rw [World.ownsRow.cellAt hh _ hlt, h1]
theorem base_le (h : Rw e sz f W base v l) {base' : Nat} (hb : base' ≤ base) : Rw e sz f W base' v l := by
  obtain ⟨h1, h2⟩ := h
  refine ⟨h1, ?_⟩
  rcases h2 with h2 | ⟨g, cap, cur, hv, hg, r⟩
  · exact .inl h2
  · exact .inr ⟨g, cap, cur, hv, by omega, r⟩
end Rw
/-- One element put behind the others. -/
theorem app_one {P : Program} {ops : Array Oper} {Q : Exit → Act → World → Prop} {a : Act} {w : World} {rest : List Oper} {o : Oper} {e sz : Nat} {f : α → List Value} (hw : Region.wanted o (yielded ops a.tmps) = true)
    (s x : Operand) (t : TypeId) (ho : o.op = .call { callee := .builtin .append, args := #[s, x], argTypes := #[t, t] }) (ht : P.underlying t = some (.slice e)) (z : Value) (bytes : Nat)
    (hinfo : ∃ i, P.info? e = some i ∧ i.zero = some z ∧ i.size = sz ∧ i.bytes = bytes) (hz : z.cells.size = sz) (hsz : 0 < sz) (hf : ∀ a, (f a).length = sz) (h1 : ∀ a, ∀ u ∈ f a, u.oneCell' = true) (hby : bytes ≤ 1000)
    (base : Nat) (v : Value) (l : List α) (hs : a.eval s = v) (hown : Rw e sz f w base v l) (g c : Nat) (b : α) (hx : a.eval x = .slice (some ⟨g, 0, none⟩) 1 c) (hA : w.rangeAt g 0 (f b))
    (hm : l.length ≤ 1000000) (hbase : base ≤ w.heap.size)
    (h : ∀ v' w', Rw e sz f w' base v' (l ++ [b]) → Below base w w' → wpList P ops Q rest (a.put o.dst v') w') : wpList P ops Q (o :: rest) a w := by
  obtain ⟨i, hi, hzz, hsize, hbb⟩ := hinfo
  refine Lk.wanted hw fun K hK => ?_
  refine wp_append_own w s x t ho base e i z sz bytes ht hi hzz hsize hbb hz hsz v l.length (l.flatMap f) hs hown ⟨g, 0, none⟩ 1 c (f b) hx (by rw [hf, Nat.one_mul]) ?_ (h1 b) (by unfold maxLen; omega) ?_ hbase ?_
  · intro j u hj
    have hplain : (⟨g, 0, none⟩ : Addr).add j = ⟨g, 0 + j, none⟩ := by rw [Addr.add_mid]
    rw [hplain]
    exact hA j u hj
  · have : (l.length + 1) * bytes ≤ 1000001 * 1000 := Nat.mul_le_mul (by omega) hby
    omega
  · intro v' w' h2 h3 _
    refine hK _ _ (h v' w' ?_ ((Below.refl base w).grown h3 hbase hown.block_le))
    show w'.ownsRow base e sz v' (l ++ [b]).length ((l ++ [b]).flatMap f)
    rw [List.flatMap_append, List.length_append, List.flatMap_cons, List.flatMap_nil, List.append_nil]
    exact h2
end
end Lk
end Go.Proofs.Ytdfihcbmojggoaa
