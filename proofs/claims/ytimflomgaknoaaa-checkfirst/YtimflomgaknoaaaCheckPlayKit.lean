/- Bools that append makes; what a loop over values carries. -/
import Derived.Test.YtimflomgaknoaaaCheckStep3
import Derived.OneCell
import Derived.Deep.AppendLies
import Derived.Laws.OwnMore
namespace Go.Proofs.Ytimflomgaknoaaa
namespace Cw
open Go.RowKit Ck Lk

def bb (l : List Bool) : List Value := l.map Value.bool
theorem bb_length (l : List Bool) : (bb l).length = l.length := by simp [bb]
theorem bb_append (a b : List Bool) : bb (a ++ b) = bb a ++ bb b := by simp [bb]
theorem bb_one {l : List Bool} {u : Value} (h : u ∈ bb l) : u.oneCell' = true := by
  obtain ⟨_, _, rfl⟩ := List.mem_map.1 h
  rfl
theorem info_bb : (Try.prog.info? 4).map (fun i => (i.zero, i.size, i.bytes)) = some (some (.bool false), 1, 1) := by kernel_rfl
theorem bb_split : ∃ i0, Try.prog.info? 4 = some i0 ∧ i0.zero = some (.bool false) ∧ i0.size = 1 ∧ i0.bytes = 1 := by
  obtain ⟨i, hi, hz⟩ := Option.map_eq_some_iff.1 info_bb
  simp only [Prod.mk.injEq] at hz
  exact ⟨i, hi, hz.1, hz.2.1, hz.2.2⟩
/-- Bools of the call's own. -/
def Bl (W : World) (base : Nat) (v : Value) (l : List Bool) : Prop := W.ownsRow base 4 1 v l.length (bb l)
namespace Bl
variable {W W' : World} {base : Nat} {v : Value} {l : List Bool}
theorem nil (W : World) (base : Nat) : Bl W base (.slice none 0 0) [] := ⟨rfl, .inl ⟨rfl, rfl⟩⟩
theorem below (h : Bl W base v l) (hb : Below W.heap.size W W') : Bl W' base v l := by
  obtain ⟨h1, h2⟩ := h
  refine ⟨h1, ?_⟩
  rcases h2 with h2 | ⟨g, cap, cur, hv, hg, hh, r⟩
  · exact .inl h2
  · exact .inr ⟨g, cap, cur, hv, hg, (hb.block g (Array.getElem?_eq_some_iff.1 hh).1).trans hh, r⟩
theorem off {q : Nat} (h : Bl W base v l) (ho : Off q W W') (hq : q < base) : Bl W' base v l := by
  obtain ⟨h1, h2⟩ := h
  refine ⟨h1, ?_⟩
  rcases h2 with h2 | ⟨g, cap, cur, hv, hg, hh, r⟩
  · exact .inl h2
  · exact .inr ⟨g, cap, cur, hv, hg, (ho.block g (by omega)).trans hh, r⟩
theorem drew (h : Bl W base v l) : Bl W.drew base v l := h
theorem block_le (h : Bl W base v l) : ∀ k, v.ownBlock = some k → base ≤ k := by
  intro k hk
  rcases h.2 with ⟨rfl, _⟩ | ⟨g, cap, cur, rfl, hg, _⟩
  · cases hk
  · simp [Value.ownBlock] at hk; omega
/-- As a slice. -/
theorem form (h : Bl W base v l) {n : Nat} (hn : l.length = n) : ∃ A c, v = .slice A n c ∧ n ≤ c ∧ ∀ i, i < n → ∃ g, A = some ⟨g, 0, none⟩ ∧ base ≤ g ∧ W.cell? ⟨g, i, none⟩ = some (.bool (l.getD i false)) := by
  subst hn
  have hh := h
  rcases h.2 with ⟨rfl, h0⟩ | ⟨g, cap, cur, rfl, hg, _, hc, _⟩
  · exact ⟨none, 0, by rw [h0], by omega, fun i hi => by omega⟩
  · refine ⟨_, _, rfl, hc, fun i hi => ⟨g, rfl, hg, ?_⟩⟩
    rw [World.ownsRow.cellAt hh i (by omega)]
    simp [bb, hi, List.getD_eq_getElem?_getD]
end Bl
/-- 'append(out, good)'. -/
theorem app_b {ops : Array Oper} {Q : Exit → Act → World → Prop} {a : Act} {w : World} {rest : List Oper} {o : Oper} (hw : Region.wanted o (yielded ops a.tmps) = true)
    (s x : Operand) (ho : o.op = .call { callee := .builtin .append, args := #[s, x], argTypes := #[33, 33] })
    (base : Nat) (v : Value) (l : List Bool) (hs : a.eval s = v) (hown : Bl w base v l) (g c : Nat) (b : Bool) (hx : a.eval x = .slice (some ⟨g, 0, none⟩) 1 c) (hA : w.cell? ⟨g, 0, none⟩ = some (.bool b))
    (hm : l.length ≤ 1000000) (hbase : base ≤ w.heap.size)
    (h : ∀ v' w', Bl w' base v' (l ++ [b]) → Below base w w' → wpList Try.prog ops Q rest (a.put o.dst v') w') : wpList Try.prog ops Q (o :: rest) a w := by
  obtain ⟨i, hi, hz, hsz, hby⟩ := bb_split
  refine Lk.wanted hw fun K hK => ?_
  refine wp_append_own w s x 33 ho base 4 i (.bool false) 1 1 Try.underlying33 hi hz hsz hby rfl (by decide) v l.length (bb l) hs hown ⟨g, 0, none⟩ 1 c (bb [b]) hx rfl ?_ (fun u hu => bb_one hu) (by unfold maxLen; omega) (by omega) hbase ?_
  · intro j u hj
    have : j = 0 := by
      rcases j with _ | j
      · rfl
      · simp [bb] at hj
    subst this
    have hplain : (⟨g, 0, none⟩ : Addr).add 0 = ⟨g, 0, none⟩ := by unfold Addr.add; split <;> simp_all
    rw [hplain, hA]
    simpa [bb] using hj
  · intro v' w' h2 h3 _
    refine hK _ _ (h v' w' ?_ ((Below.refl base w).grown h3 hbase hown.block_le))
    show w'.ownsRow base 4 1 v' (l ++ [b]).length (bb (l ++ [b]))
    rw [bb_append, List.length_append]
    exact h2
/-- What stays, though all behind K may change. -/
theorem low {w W W' : World} {L : List (Nat × Obj)} {K : Nat} (h : Hv w W L) (hb : Below K W W') (hL : ∀ e ∈ L, e.1 < K) (hK : w.heap.size ≤ K) : Hv w W' L :=
  ⟨fun e he => (hb.block e.1 (hL e he)).trans (h.has e he), h.old.trans (hb.mono hK)⟩
theorem low2 {w W W' : World} {a b K : Nat} {A B : Obj} (h : Hv w W [(a, A), (b, B)]) (hb : Below K W W') (h1 : a < K) (h2 : b < K) (hK : w.heap.size ≤ K) : Hv w W' [(a, A), (b, B)] := low h hb (by simp; omega) hK
theorem ne2 {a b j : Nat} {A B : Obj} (h1 : a < j) (h2 : b < j) : ∀ e ∈ [(a, A), (b, B)], e.1 ≠ j := by
  simp; omega
/-- Values that came in, one of them. -/
theorem val_at {w : World} {A : Option Addr} {vs : List Int} (h : IntsAt w .i64 A vs) {i : Nat} (hi : i < vs.length) : ∃ b o, A = some ⟨b, o, none⟩ ∧ ∀ W, Below w.heap.size w W → W.cell? ⟨b, o + i, none⟩ = some (.int .i64 (vs.getD i 0)) := by
  obtain ⟨b, o, e, hc⟩ := h i hi
  exact ⟨b, o, e, fun W hb => (hb.cell (World.block_lt_of_cell? _ _ hc)).trans hc⟩
/-- What a region that asks of a value holds. -/
abbrev Sv (V : World) (a q : Nat) (l : Lm) (x : Wa) (p : Addr) (v : Int) : Prop := LFld V a l ∧ WFld V q x ∧ V.cell? p = some (.int .i64 v)
theorem sv {w W V : World} {a q : Nat} {l : Lm} {x : Wa} {p : Addr} {v : Int} (h : Hv W V [(q, wob x), (a, lob l)]) (hw : Below w.heap.size w W) (hc : ∀ V, Below w.heap.size w V → V.cell? p = some (.int .i64 v)) : Sv V a q l x p v :=
  ⟨lfld h.h2, wfld h.head, hc V (hw.trans (h.old.mono hw.size))⟩
theorem sve {w W V V' : World} {a q : Nat} {l : Lm} {x : Wa} {p : Addr} {v : Int} (h : Hv W V' [(q, wob x), (a, lob l)]) (hw : Below w.heap.size w W) (hc : ∀ V, Below w.heap.size w V → V.cell? p = some (.int .i64 v)) (e : V = V') : Sv V a q l x p v := e ▸ sv h hw hc
end Cw
end Go.Proofs.Ytimflomgaknoaaa
