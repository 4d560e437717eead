/- Bytes that append makes. -/
import Derived.Test.YtegjkbebnnpdcaaCrcLaw1
import Derived.OneCell
import Derived.Deep.AppendLies
namespace Go.Proofs.Ytegjkbebnnpdcaa
namespace Crc
open Go.RowKit

def bs (l : List Nat) : List Value := l.map fun v : Nat => Value.int .u8 (v : Int)
theorem bs_length (l : List Nat) : (bs l).length = l.length := by simp [bs]
theorem bs_append (a b : List Nat) : bs (a ++ b) = bs a ++ bs b := by simp [bs]
theorem bs_one {l : List Nat} {u : Value} (h : u ∈ bs l) : u.oneCell' = true := by
  obtain ⟨_, _, rfl⟩ := List.mem_map.1 h
  rfl
theorem info_byte : (Try.prog.info? 5).map (fun i => (i.zero, i.size, i.bytes)) = some (some (.int .u8 0), 1, 1) := by kernel_rfl
theorem byte_split : ∃ i0, Try.prog.info? 5 = some i0 ∧ i0.zero = some (.int .u8 0) ∧ i0.size = 1 ∧ i0.bytes = 1 := by
  obtain ⟨i, hi, hz⟩ := Option.map_eq_some_iff.1 info_byte
  simp only [Prod.mk.injEq] at hz
  exact ⟨i, hi, hz.1, hz.2.1, hz.2.2⟩

theorem wpList_wanted {P : Program} {ops : Array Oper} {Q : Exit → Act → World → Prop} {a : Act} {w : World} {rest : List Oper} {o : Oper} (hw : Region.wanted o (yielded ops a.tmps) = true)
    (h : ∀ K : Act → World → Prop, (∀ a w, wpList P ops Q rest a w → K a w) → o.wp P a w K Q) : wpList P ops Q (o :: rest) a w :=
  wpList_step fun K hK => by rw [if_pos hw]; exact h K hK

/-- 'append(s, x...)' of bytes, s of the call's own, x whatever: guarded or not. -/
theorem wpList_append_bytes {ops : Array Oper} {Q : Exit → Act → World → Prop} {a : Act} {w : World} {rest : List Oper} {o : Oper} (hw : Region.wanted o (yielded ops a.tmps) = true)
    (s x : Operand) (ho : o.op = .call { callee := .builtin .append, args := #[s, x], argTypes := #[27, 27] })
    (base : Nat) (v : Value) (l : List Nat) (hs : a.eval s = v) (hown : w.ownsRow base 5 1 v l.length (bs l)) (A : Option Addr) (l2 : List Nat) (c : Nat) (hx : a.eval x = .slice A l2.length c) (hA : InB w A l2)
    (hm : l.length + l2.length ≤ 1000000) (hbase : base ≤ w.heap.size)
    (h : ∀ v' w', w'.ownsRow base 5 1 v' (l ++ l2).length (bs (l ++ l2)) → w.grownBy w' v.ownBlock → wpList Try.prog ops Q rest (a.put o.dst v') w') : wpList Try.prog ops Q (o :: rest) a w := by
  obtain ⟨i, hi, hz, hsz, hby⟩ := byte_split
  refine wpList_wanted hw fun K hK => ?_
  cases A with
  | none =>
    have h0 : l2 = [] := by
      cases l2 with
      | nil => rfl
      | cons y t => obtain ⟨_, _, e, _⟩ := hA 0 (by simp); cases e
    subst h0
    have hrun : (Builtin.append_ #[27, 27] o.type #[v, .slice none 0 c]).run Try.prog w = .ok v w := by
      rcases hown.2 with ⟨rfl, _⟩ | ⟨g, cap, cur, rfl, _, _, hnc, _⟩
      · simp [Builtin.append_, run_underlying Try.underlying27, sizeOf, typeInfo, hi, Builtin.lenOf, Builtin.firstCells]
      · simp [Builtin.append_, run_underlying Try.underlying27, sizeOf, typeInfo, hi, Builtin.lenOf, Builtin.firstCells, hnc, storeCells]
    unfold Oper.wp
    rw [List.length_nil] at hx
    simp [execOp, ho, resolve, invoke, builtin, hs, hx, hrun, Result.andThen]
    refine hK _ _ (h v w (by simpa using hown) ⟨rfl, rfl, rfl, Nat.le_refl _, fun _ _ _ => rfl⟩)
  | some ad =>
    refine wp_append_own w s x 27 ho base 5 i (.int .u8 0) 1 1 Try.underlying27 hi hz hsz hby rfl (by decide) v l.length (bs l) hs hown ad l2.length c (bs l2) hx (by rw [bs_length, Nat.mul_one]) ?_ (fun u hu => bs_one hu) (by unfold maxLen; omega) (by omega) hbase ?_
    · intro j u hj
      have hjl : j < l2.length := by
        rcases Nat.lt_or_ge j l2.length with h | h
        · exact h
        · rw [List.getElem?_eq_none (by rw [bs_length]; exact h)] at hj; cases hj
      obtain ⟨b, off, e, hc⟩ := hA j hjl
      cases e
      have hplain : (⟨b, off, none⟩ : Addr).add j = ⟨b, off + j, none⟩ := by unfold Addr.add; split <;> simp_all
      rw [hplain, hc]
      simp [bs, hjl] at hj
      subst hj
      simp [hjl]
    · intro v' w' h2 h3 _
      refine hK _ _ (h v' w' ?_ h3)
      rw [bs_append, List.length_append]
      exact h2

/-- '[]byte{}'. -/
theorem own_empty {W : World} {base : Nat} (hb : base ≤ W.heap.size) : (W.alloc (.cells #[] 5)).ownsRow base 5 1 (.slice (some ⟨W.heap.size, 0, none⟩) 0 0) ([] : List Nat).length (bs []) :=
  World.ownsRow_lit W #[] 0 hb (by decide) rfl
theorem own_off {W W' : World} {b : Nat} {v : Value} {n : Nat} {xs : List Value} (h : W.ownsRow (b + 1) 5 1 v n xs) (ho : Off b W W') : W'.ownsRow (b + 1) 5 1 v n xs := by
  obtain ⟨h1, h2⟩ := h
  refine ⟨h1, ?_⟩
  rcases h2 with h2 | ⟨g, cap, cur, hv, hg, hh, r⟩
  · exact .inl h2
  · exact .inr ⟨g, cap, cur, hv, hg, (ho.block g (by omega)).trans hh, r⟩
theorem own_bytes {W : World} {b : Nat} {v : Value} {l : List Nat} (h : W.ownsRow (b + 1) 5 1 v l.length (bs l)) : ∃ A c, v = .slice A l.length c ∧ BytesAt W b A l ∧ (∀ a, A = some a → b < a.block) := by
  by_cases e : l.length = 0
  · rcases h.2 with ⟨rfl, _⟩ | ⟨g, cap, cur, rfl, hg, _⟩
    · exact ⟨none, 0, by rw [e], fun i hi => by omega, fun a ha => by cases ha⟩
    · exact ⟨_, _, rfl, fun i hi => by omega, fun a ha => by cases ha; show b < g; omega⟩
  · have hh := h
    obtain ⟨g, cap, rfl, hg, _⟩ := h.form (by omega)
    refine ⟨_, _, rfl, fun i hi => ⟨g, 0, rfl, by omega, ?_⟩, fun a ha => by cases ha; show b < g; omega⟩
    rw [Nat.zero_add, hh.cellAt i (by omega)]
    simp [bs, hi]
theorem ownBlock_le {W : World} {base : Nat} {v : Value} {n : Nat} {xs : List Value} (h : W.ownsRow base 5 1 v n xs) : ∀ k, v.ownBlock = some k → base ≤ k := by
  intro k hk
  rcases h.2 with ⟨rfl, _⟩ | ⟨g, cap, cur, rfl, hg, _⟩
  · cases hk
  · simp [Value.ownBlock] at hk; omega
theorem Own.grown {m b n : Nat} {w W W' : World} {r : Option Nat} (h : Own m b n w W) (hg : W.grownBy W' r) (hr : ∀ k, r = some k → b + 1 ≤ k) : Own m b n w W' :=
  ⟨h.is.of_block (hg.block b h.is.lt (fun e => by have := hr b e.symm; omega)), h.le, h.old.grown hg (Nat.le_trans h.le (Nat.le_of_lt h.is.lt)) (fun k hk => by have := hr k hk; have := h.le; omega)⟩
theorem InB.below {w W : World} {A : Option Addr} {l : List Nat} (h : InB w A l) (hb : Below w.heap.size w W) : InB W A l := by
  intro i hi
  obtain ⟨c, o, e, hc⟩ := h i hi
  exact ⟨c, o, e, (hb.cell (p := ⟨c, o + i, none⟩) (World.block_lt_of_cell? _ _ hc)).trans hc⟩
theorem more_n {N : Nat} (b n s : Nat) (A : Option Addr) (l : List Nat) (c : Nat) (w : World) (hN : l.length = N) (hs : s < 65536) (hb : Cr.Bytes l) (hl : N ≤ 9223372036854775807) (h : Is w b n) (hn : n + 1 < 4611686018427387904) (hA : BytesAt w b A l) :
    Calls Try.prog 30 #[.pointer (some ⟨b, 0, none⟩), .int .u16 s, .slice A N c] w fun e w' => e = .returned (.int .u16 (Cr.more s l)) ∧ Is w' b (n + 1) ∧ Off b w w' := by
  subst hN; exact more_c b n s A l c w hs hb hl h hn hA
theorem of_n {N : Nat} (b n : Nat) (A : Option Addr) (l : List Nat) (c : Nat) (w : World) (hN : l.length = N) (hb : Cr.Bytes l) (hl : N ≤ 9223372036854775807) (h : Is w b n) (hn : n + 1 < 4611686018427387904) (hA : BytesAt w b A l) :
    Calls Try.prog 27 #[.pointer (some ⟨b, 0, none⟩), .slice A N c] w fun e w' => e = .returned (.int .u16 (Cr.more 65535 l)) ∧ Is w' b (n + 1) ∧ Off b w w' := by
  subst hN; exact of_c b n A l c w hb hl h hn hA
end Crc
end Go.Proofs.Ytegjkbebnnpdcaa
