/- Slices of packets: that came in, and that append makes. -/
import Derived.Test.YtegjkbebnnpdcaaLinkLawKit
import Derived.Deep.Slices
import Derived.Deep.AppendLies
namespace Go.Proofs.Ytegjkbebnnpdcaa
namespace Lw
open Go.RowKit Go.WideShapes Go.ChangeShapes Go.ChangeAt

instance : Inhabited Ln.Pk := ⟨Ln.zero⟩

/-- Packets that came in. -/
structure Pks (w : World) (A : Option Addr) (n : Nat) (T : Nat → Ln.Pk) : Prop where
  len : n ≤ 9223372036854775807
  at_ : ∀ i, i < n → ∃ b o, A = some ⟨b, o, none⟩ ∧ b < w.heap.size ∧ w.rangeAt b (o + i * 14) (pl (T i))

theorem open_pks {H : Type} {enc : TypeId × Value → H} {W : World} {base : Nat} {v : Value} {d : DataW H} {ps : List MemPlace} (hv : Value.okWide Try.prog W .any base 40 v) (h : DataW.Trod enc Try.prog W 0 (fun _ => true) true 40 v d ps) :
    ∃ (A : Option Addr) (n c : Nat) (T : Nat → Ln.Pk), v = .slice A n c ∧ Pks W A n T := by
  obtain ⟨a0, len0, cap0, rfl⟩ := okWide_slice Try.underlying40 hv
  obtain ⟨fuel, hf⟩ := h
  rcases Go.Deep.open_slice Try.underlying40 hf with ⟨hc, _⟩ | ⟨a, len, cap, m, n, D, Pl, hc, _, hlc, hm, hmm, _, hx⟩
  · simp only [Value.cells, List.cons.injEq, Value.slice.injEq, and_true] at hc
    obtain ⟨rfl, rfl, rfl⟩ := hc
    exact ⟨none, 0, 0, fun _ => default, rfl, ⟨by decide, fun i hi => by omega⟩⟩
  · simp only [Value.cells, List.cons.injEq, Value.slice.injEq, and_true] at hc
    obtain ⟨rfl, rfl, rfl⟩ := hc
    simp only [if_true] at hmm
    subst hmm
    unfold maxLen at hm
    rw [cells_pk] at hx
    have each : ∀ i, i < len0 → ∃ p : Ln.Pk, W.cells? 0 (a.add (i * 14)) 14 = some (pl p) := by
      intro i hi
      obtain ⟨cs', h1, h2⟩ := hx i (by omega)
      obtain ⟨p, rfl⟩ := pk_cells h2
      exact ⟨p, h1⟩
    obtain ⟨T, hT⟩ := Go.Deep.choose_lt (n := len0) each
    refine ⟨some a, len0, m, T, rfl, ⟨by omega, fun i hi => ?_⟩⟩
    have h1 := hT i hi
    have hbl := World.cells?_block h1 (by decide)
    obtain ⟨_, h3, h4⟩ := World.cells?_some h1
    obtain ⟨b, off, spot⟩ := a
    have hspot : spot = none := by
      obtain ⟨_, _, h5⟩ := World.cells?_some (hT 0 (by omega))
      have := h5 0 (by decide)
      have h0 : (pl (T 0))[0]? = some (.int .i64 (T 0).f) := rfl
      rw [h0] at this
      simpa [Addr.add] using World.cell?_spot this
    subst hspot
    rw [Addr.add_mid] at hbl h4
    refine ⟨b, off, rfl, hbl, fun j v hv => ?_⟩
    have hj : j < 14 := by
      rcases Nat.lt_or_ge j 14 with g | g
      · exact g
      · rw [List.getElem?_eq_none (by show 14 ≤ j; exact g)] at hv; cases hv
    have := h4 j hj
    rw [hv] at this
    rw [← this, Addr.add_mid]

/-- A packet loaded out of the midst of a block. -/
theorem ld_mid {ops : Array Oper} {rest : List Oper} {o : Oper} {a : Act} {w : World} {Q : Exit → Act → World → Prop} (hw : Region.wanted o (yielded ops a.tmps) = true) (x : Operand) (ho : o.op = .load 26 x)
    (b off : Nat) (p : Ln.Pk) (hx : a.eval x = .pointer (some ⟨b, off, none⟩)) (hP : w.rangeAt b off (pl p))
    (h : wpList Try.prog ops Q rest (a.put o.dst (.agg (pc p))) w) : wpList Try.prog ops Q (o :: rest) a w :=
  Crc.wpList_wanted hw fun _ hK => wp_load_mid 26 x ho b off hx (pl p) _ hP Try.underlying26 rfl (pl_len p) (hK _ _ h)

/-- The cells of packets, one behind the other. -/
def cl (l : List Ln.Pk) : List Value := l.flatMap pl
theorem cl_len (l : List Ln.Pk) : (cl l).length = l.length * 14 := by
  induction l with
  | nil => rfl
  | cons p l ih =>
    show (pl p ++ cl l).length = _
    rw [List.length_append, ih, List.length_cons]
    show 14 + _ = _
    omega
theorem cl_snoc (l : List Ln.Pk) (p : Ln.Pk) : cl (l ++ [p]) = cl l ++ pl p := by simp [cl]
theorem cl_at {l : List Ln.Pk} {i : Nat} (hi : i < l.length) {j : Nat} {v : Value} (hv : (pl (l.getD i Ln.zero))[j]? = some v) : (cl l)[i * 14 + j]? = some v := by
  have hj : j < 14 := by
    rcases Nat.lt_or_ge j 14 with g | g
    · exact g
    · rw [List.getElem?_eq_none (by show 14 ≤ j; exact g)] at hv; cases hv
  induction l generalizing i with
  | nil => simp at hi
  | cons p l ih =>
    show (pl p ++ cl l)[i * 14 + j]? = some v
    cases i with
    | zero =>
      rw [Nat.zero_mul, Nat.zero_add, List.getElem?_append_left (by show j < 14; exact hj)]
      exact hv
    | succ i =>
      rw [List.getElem?_append_right (by show 14 ≤ _; omega), show (i + 1) * 14 + j - (pl p).length = i * 14 + j from by show (i + 1) * 14 + j - 14 = _; omega]
      exact ih (by simpa using hi) hv
theorem pl_one {p : Ln.Pk} {u : Value} (h : u ∈ pl p) : u.oneCell' = true := (Array.all_eq_true_iff_forall_mem.1 (pc_one p)) u (by simpa [pl] using h)
/-- Packets of the call's own, read. -/
theorem own_range {W : World} {b : Nat} {g cap : Nat} {l : List Ln.Pk} (h : W.ownsRow b 26 14 (.slice (some ⟨g, 0, none⟩) l.length cap) l.length (cl l)) {i : Nat} (hi : i < l.length) : W.rangeAt g (i * 14) (pl (l.getD i Ln.zero)) := by
  intro j v hv
  have h1 := cl_at hi hv
  have hlt : i * 14 + j < l.length * 14 := by
    have : i * 14 + j < (cl l).length := (List.getElem?_eq_some_iff.1 h1).1
    rwa [cl_len] at this
  rw [h.cellAt _ hlt, h1]
theorem info_pk3 : ∃ i, Try.prog.info? 26 = some i ∧ i.zero = some (.agg (pc Ln.zero)) ∧ i.size = 14 ∧ i.bytes ≤ 1000 := by
  have h : (Try.prog.info? 26).map (fun i => (i.zero, i.size, decide (i.bytes ≤ 1000))) = some (some (.agg (pc Ln.zero)), 14, true) := by kernel_rfl
  obtain ⟨i, hi, hz⟩ := Option.map_eq_some_iff.1 h
  simp only [Prod.mk.injEq, decide_eq_true_eq] at hz
  exact ⟨i, hi, hz.1, hz.2.1, hz.2.2⟩
theorem own_keep {W W' : World} {b e sz : Nat} {u : Value} {n : Nat} {xs : List Value} {r : Option Nat} (h : W.ownsRow b e sz u n xs) (hg : W.grownBy W' r) (hr : ∀ k, u.ownBlock = some k → some k ≠ r) : W'.ownsRow b e sz u n xs := by
  obtain ⟨h1, h2⟩ := h
  refine ⟨h1, ?_⟩
  rcases h2 with h2 | ⟨g, cap, cur, hv, hgb, hh, r2⟩
  · exact .inl h2
  · exact .inr ⟨g, cap, cur, hv, hgb, (hg.block g (Array.getElem?_eq_some_iff.1 hh).1 (hr g (by rw [hv]; rfl))).trans hh, r2⟩
theorem own_grow' {W W' : World} {b e sz : Nat} {v : Value} {n : Nat} {xs : List Value} (h : W.ownsRow b e sz v n xs) (hb : Below W.heap.size W W') : W'.ownsRow b e sz v n xs := by
  obtain ⟨h1, h2⟩ := h
  refine ⟨h1, ?_⟩
  rcases h2 with h2 | ⟨g, cap, cur, hv, hg, hh, r⟩
  · exact .inl h2
  · exact .inr ⟨g, cap, cur, hv, hg, (hb.block g (Array.getElem?_eq_some_iff.1 hh).1).trans hh, r⟩
theorem own_lt {W : World} {b e sz : Nat} {v : Value} {n : Nat} {xs : List Value} (h : W.ownsRow b e sz v n xs) : ∀ k, v.ownBlock = some k → b ≤ k ∧ k < W.heap.size := by
  intro k hk
  rcases h.2 with ⟨rfl, _⟩ | ⟨g, cap, cur, rfl, hg, hh, _⟩
  · cases hk
  · cases hk; exact ⟨hg, (Array.getElem?_eq_some_iff.1 hh).1⟩

/-- Bytes and packets of the call's own, apart. -/
structure Tw (b : Nat) (W0 W : World) (v u : Value) (E : List Nat) (ws : List Ln.Pk) : Prop where
  own : W.ownsRow b 5 1 v E.length (Crc.bs E)
  pks : W.ownsRow b 26 14 u ws.length (cl ws)
  sep : ∀ k, v.ownBlock = some k → u.ownBlock ≠ some k
  old : Below b W0 W
  le : b ≤ W.heap.size
namespace Tw
variable {b : Nat} {W0 W W' : World} {v u : Value} {E : List Nat} {ws : List Ln.Pk}
theorem grow (h : Tw b W0 W v u E ws) (hb : Below W.heap.size W W') : Tw b W0 W' v u E ws :=
  ⟨own_grow' h.own hb, own_grow' h.pks hb, h.sep, h.old.trans (hb.mono h.le), Nat.le_trans h.le hb.size⟩
theorem start (W : World) : Tw W.heap.size W W (.slice none 0 0) (.slice none 0 0) [] [] :=
  ⟨⟨rfl, .inl ⟨rfl, rfl⟩⟩, ⟨rfl, .inl ⟨rfl, rfl⟩⟩, (fun k hk => by cases hk), Below.refl _ _, Nat.le_refl _⟩
end Tw
/-- Bytes put behind the bytes. -/
theorem app_v {ops : Array Oper} {Q : Exit → Act → World → Prop} {a : Act} {w : World} {rest : List Oper} {o : Oper} (hgd : o.guard = none)
    (s x : Operand) (ho : o.op = .call { callee := .builtin .append, args := #[s, x], argTypes := #[27, 27] })
    {b : Nat} {W0 : World} {v u : Value} {E : List Nat} {ws : List Ln.Pk} (hs : a.eval s = v) (ht : Tw b W0 w v u E ws) (g : Nat) (l : List Nat) (c : Nat) (hx : a.eval x = .slice (some ⟨g, 0, none⟩) 32 c) (hl : l.length = 32) (hA : Crc.RowB w g l) (hm : E.length ≤ 10000)
    (h : ∀ v' w', Tw b W0 w' v' u (E ++ l) ws → wpList Try.prog ops Q rest (a.put o.dst v') w') : wpList Try.prog ops Q (o :: rest) a w := by
  obtain ⟨i, hi, hz, hsz, hby⟩ := Crc.byte_split
  refine wpList_append_lies w hgd s x 27 ho b 5 i (.int .u8 0) 1 1 Try.underlying27 hi hz hsz hby rfl (by decide) v E.length (Crc.bs E) hs ht.own ⟨g, 0, none⟩ 32 c (Crc.bs l) hx (by rw [Crc.bs_length, hl]) ?_ (fun u hu => Crc.bs_one hu) (by decide) (by unfold maxLen; omega) (by omega) ht.le _ rfl ?_
  · intro j u hj
    have hjl : j < l.length := by
      rcases Nat.lt_or_ge j l.length with h | h
      · exact h
      · rw [List.getElem?_eq_none (by rw [Crc.bs_length]; exact h)] at hj; cases hj
    rw [Addr.add_mid, Nat.zero_add, hA.cell hjl]
    simp [Crc.bs, hjl] at hj
    subst hj
    simp [hjl]
  · intro g' cap w' h1 h2 h3 h4
    refine h _ w' ⟨?_, ?_, ?_, ?_, Nat.le_trans ht.le h2.size⟩
    · rw [Crc.bs_append, List.length_append, hl]; exact h1
    · exact own_keep ht.pks h2 (fun k hk e => ht.sep k e.symm hk)
    · intro k hk hu
      have hkg : g' = k := by simpa [Value.ownBlock] using hk
      subst hkg
      rcases h3 with h3 | h3
      · exact ht.sep _ h3 hu
      · have := (own_lt ht.pks _ hu).2; omega
    · exact (ht.old.grown h2 ht.le (fun k hk => (own_lt ht.own k hk).1))
/-- A packet put behind the packets. -/
theorem app_u {ops : Array Oper} {Q : Exit → Act → World → Prop} {a : Act} {w : World} {rest : List Oper} {o : Oper} (hgd : o.guard = none)
    (s x : Operand) (ho : o.op = .call { callee := .builtin .append, args := #[s, x], argTypes := #[40, 40] })
    {b : Nat} {W0 : World} {v u : Value} {E : List Nat} {ws : List Ln.Pk} (hs : a.eval s = u) (ht : Tw b W0 w v u E ws) (g : Nat) (p : Ln.Pk) (c : Nat) (hx : a.eval x = .slice (some ⟨g, 0, none⟩) 1 c) (hA : w.rangeAt g 0 (pl p)) (hm : ws.length ≤ 10000)
    (h : ∀ u' w', Tw b W0 w' v u' E (ws ++ [p]) → wpList Try.prog ops Q rest (a.put o.dst u') w') : wpList Try.prog ops Q (o :: rest) a w := by
  obtain ⟨i, hi, hz, hsz, hby⟩ := info_pk3
  refine wpList_append_lies w hgd s x 40 ho b 26 i (.agg (pc Ln.zero)) 14 i.bytes Try.underlying40 hi hz hsz rfl rfl (by decide) u ws.length (cl ws) hs ht.pks ⟨g, 0, none⟩ 1 c (pl p) hx rfl ?_ (fun u hu => pl_one hu) (by decide) (by unfold maxLen; omega) ?_ ht.le _ rfl ?_
  · intro j u hj
    rw [Addr.add_mid]
    exact hA j u hj
  · have : (ws.length + 1) * i.bytes ≤ 10001 * 1000 := Nat.mul_le_mul (by omega) hby
    omega
  · intro g' cap w' h1 h2 h3 h4
    refine h _ w' ⟨?_, ?_, ?_, ?_, Nat.le_trans ht.le h2.size⟩
    · exact own_keep ht.own h2 (fun k hk e => ht.sep k hk e.symm)
    · rw [cl_snoc, List.length_append, List.length_singleton]; exact h1
    · intro k hk hu
      have hkg : g' = k := by simpa [Value.ownBlock] using hu
      subst hkg
      rcases h3 with h3 | h3
      · exact ht.sep _ hk h3
      · have := (own_lt ht.own _ hk).2; omega
    · exact (ht.old.grown h2 ht.le (fun k hk => (own_lt ht.pks k hk).1))
end Lw
end Go.Proofs.Ytegjkbebnnpdcaa
