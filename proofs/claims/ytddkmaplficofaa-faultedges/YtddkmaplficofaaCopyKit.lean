/- General, over any program: rows whose elements are of several cells, copied into, stored into. -/
import Derived.Test.YtddkmaplficofaaAppKit
import Derived.Deep.MidRow
import Derived.Laws.CopyOwn
namespace Go.Proofs.Ytddkmaplficofaa
namespace Lk
open Go Go.RowKit

theorem splice_cons {α : Type} (L : List α) (o : Nat) (v : α) (r : List α) (h : o < L.length) : splice (L.set o v) (o + 1) r = splice L o (v :: r) := by
  unfold splice
  rw [List.take_set, List.drop_set, if_pos (by omega), List.take_add_one, List.getElem?_eq_getElem h, List.set_append, if_neg (by rw [List.length_take]; omega)]
  have e : o - (L.take o).length = 0 := by rw [List.length_take]; omega
  rw [e, List.length_cons, show o + 1 + r.length = o + (r.length + 1) from by omega]
  simp
theorem setCells_row : ∀ (vs : List Value) (w : World) (g o : Nat) (cur : Array Value) (t : TypeId), w.heap[g]? = some (.cells cur t (0, 0)) → o + vs.length ≤ cur.size → w.setCells g o vs = w.setRow g (splice cur.toList o vs).toArray
  | [], w, g, o, cur, t, hg, _ => by
    rw [World.setCells]
    have : splice cur.toList o [] = cur.toList := by simp [splice]
    rw [this, Array.toArray_toList, setRow_self w g cur t (0, 0) hg]
  | v :: r, w, g, o, cur, t, hg, h => by
    have ho : o < cur.toList.length := by simp at h; simp; omega
    rw [World.setCells, setCell_eq_setRow w g o cur t (0, 0) v hg, setCells_row r _ g (o + 1) (cur.setIfInBounds o v) t (setRow_heap w g cur _ t _ hg) (by simp at h ⊢; omega), setRow_setRow]
    rw [Array.toList_setIfInBounds, splice_cons _ _ _ _ ho]

section
variable {P : Program}
theorem run_copy_sz (w : World) (dT sT ty elem : TypeId) (sz g o dLen dCap : Nat) (a : Addr) (sLen sCap m : Nat) (cur : Array Value) (t : TypeId) (cs : List Value)
    (hu : P.underlying dT = some (.slice elem)) (hs : (P.info? elem).map (·.size) = some sz) (hg : w.heap[g]? = some (.cells cur t (0, 0))) (hm : Nat.min sLen dLen = m) (hn : cs.length = m * sz)
    (hsrc : ∀ j v, cs[j]? = some v → w.cell? (a.add j) = some v) (hfit : o + cs.length ≤ cur.size) (h1 : ∀ v ∈ cs, v.oneCell' = true) :
    (Builtin.copy_ #[dT, sT] ty #[.slice (some ⟨g, o, none⟩) dLen dCap, .slice (some a) sLen sCap]).run P w = .ok (goInt m) (w.setRow g (splice cur.toList o cs).toArray) := by
  have hl := run_firstCells_some (P := P) w sz m a sLen sCap cs hn hsrc
  have hst := run_storeCells_at P g o t cs 0 cur w hg (by simpa using hfit) h1
  simp only [Nat.add_zero, List.append_assoc] at hst
  cases hq : P.info? elem with
  | none => simp [hq] at hs
  | some i =>
    have hi : i.size = sz := by simpa [hq] using hs
    simp [Builtin.copy_, run_underlying hu, Builtin.lenOf, sizeOf, typeInfo, hq, hi, hm, hl, hst, splice]

/-- copy(d, s), its run known by an equation. -/
theorem wp_copy_eq {o : Oper} {a : Act} {w : World} {K : Act → World → Prop} {Q : Exit → Act → World → Prop} (d s : Operand) (t t' : TypeId)
    (ho : o.op = .call { callee := .builtin .copy, args := #[d, s], argTypes := #[t, t'] }) {v u v' : Value} {w' : World} (hd : a.eval d = v) (hs : a.eval s = u)
    (hr : (Builtin.copy_ #[t, t'] o.type #[v, u]).run P w = .ok v' w') (h : K (a.put o.dst v') w') : o.wp P a w K Q := by
  unfold Oper.wp execOp
  simp only [ho, resolve, invoke, builtin, Sem.run_bind, Sem.run_pure, Result.andThen_ok, List.map_toArray, List.map_cons, List.map_nil, hd, hs, hr]
  exact h
theorem wpList_copy_eq {ops : Array Oper} {rest : List Oper} {o : Oper} {a : Act} {w : World} {Q : Exit → Act → World → Prop} (hw : Region.wanted o (yielded ops a.tmps) = true) (d s : Operand) (t t' : TypeId)
    (ho : o.op = .call { callee := .builtin .copy, args := #[d, s], argTypes := #[t, t'] }) {v u v' : Value} {w' : World} (hd : a.eval d = v) (hs : a.eval s = u)
    (hr : (Builtin.copy_ #[t, t'] o.type #[v, u]).run P w = .ok v' w') (h : wpList P ops Q rest (a.put o.dst v') w') : wpList P ops Q (o :: rest) a w :=
  Lk.wanted hw fun _ hK => wp_copy_eq d s t t' ho hd hs hr (hK _ _ h)
/-- As one step of a region that draws. -/
theorem step_copy_eq {ops : Array Oper} {o : Oper} {a : Act} {w : World} {K : Act → World → Prop} {Q : Exit → Act → World → Prop} {E : Prop} (hg : o.guard = none) (d s : Operand) (t t' : TypeId)
    (ho : o.op = Op.call { callee := Callee.builtin Builtin.copy, args := #[d, s], argTypes := #[t, t'] }) {v u v' : Value} {w' : World} (hd : a.eval d = v) (hs : a.eval s = u)
    (hr : (Builtin.copy_ #[t, t'] o.type #[v, u]).run P w = .ok v' w') (h : K (a.put o.dst v') w') : if Region.wanted o (yielded ops a.tmps) = true then Oper.wp P o a w K Q else E := by
  rw [if_pos (by simp [Region.wanted, hg])]
  exact wp_copy_eq d s t t' ho hd hs hr h
end

/-! ### a row of the call's own -/
section
variable {α : Type} {e sz base : Nat} {f : α → List Value} {W W' : World} {v : Value} {l : List α}
theorem flat_take (hf : ∀ a, (f a).length = sz) : ∀ (l : List α) (k : Nat), (l.flatMap f).take (k * sz) = (l.take k).flatMap f
  | [], k => by simp
  | a :: l, 0 => by simp
  | a :: l, k + 1 => by
    rw [List.flatMap_cons, List.take_succ_cons, List.flatMap_cons, Nat.succ_mul, Nat.add_comm, ← flat_take hf l k, ← hf a, List.take_length_add_append]
theorem flat_drop (hf : ∀ a, (f a).length = sz) : ∀ (l : List α) (k : Nat), (l.flatMap f).drop (k * sz) = (l.drop k).flatMap f
  | [], k => by simp
  | a :: l, 0 => by simp
  | a :: l, k + 1 => by
    rw [List.flatMap_cons, List.drop_succ_cons, Nat.succ_mul, Nat.add_comm, ← flat_drop hf l k, ← hf a, List.drop_length_add_append]
/-- The row, its cells known. -/
theorem Rw.open (h : Rw e sz f W base v l) (hl : 0 < l.length) : ∃ g cap cur, v = .slice (some ⟨g, 0, none⟩) l.length cap ∧ base ≤ g ∧ W.heap[g]? = some (.cells cur e (0, 0)) ∧ l.length ≤ cap ∧ cap ≤ maxLen ∧ cur.size = cap * sz ∧ cur.toList.take (l.length * sz) = l.flatMap f := by
  rcases h.2 with ⟨_, h0⟩ | ⟨g, cap, cur, h1⟩
  · omega
  · exact ⟨g, cap, cur, h1⟩
theorem Rw.make (hf : ∀ a, (f a).length = sz) {g cap : Nat} {cur : Array Value} (hg : base ≤ g) (hb : W.heap[g]? = some (.cells cur e (0, 0))) (hc : l.length ≤ cap) (hm : cap ≤ maxLen) (hs : cur.size = cap * sz) (ht : cur.toList.take (l.length * sz) = l.flatMap f) :
    Rw e sz f W base (.slice (some ⟨g, 0, none⟩) l.length cap) l := ⟨Rw.flat_len hf l, .inr ⟨g, cap, cur, rfl, hg, hb, hc, hm, hs, ht⟩⟩
/-- The row with one element laid anew. -/
theorem splice_set (hf : ∀ a, (f a).length = sz) {cur : List Value} {i : Nat} (b : α) (hi : i < l.length) (ht : cur.take (l.length * sz) = l.flatMap f) : (splice cur (i * sz) (f b)).take (l.length * sz) = (l.set i b).flatMap f := by
  have h1 : (i + 1) * sz ≤ l.length * sz := Nat.mul_le_mul_right _ (by omega)
  have e1 : (i + 1) * sz = i * sz + sz := Nat.succ_mul i sz
  have e2 : cur = l.flatMap f ++ cur.drop (l.length * sz) := by rw [← ht, List.take_append_drop]
  have hL := Rw.flat_len hf l
  have e3 : splice cur (i * sz) (f b) = (l.set i b).flatMap f ++ cur.drop (l.length * sz) := by
    unfold splice
    rw [hf, ← e1]
    have t1 : cur.take (i * sz) = (l.take i).flatMap f := by rw [e2, List.take_append_of_le_length (by omega), flat_take hf]
    have t2 : cur.drop ((i + 1) * sz) = (l.drop (i + 1)).flatMap f ++ cur.drop (l.length * sz) := by
      conv => lhs; rw [e2]
      rw [List.drop_append_of_le_length (by omega), flat_drop hf]
    rw [t1, t2, List.set_eq_take_append_cons_drop, if_pos hi, List.flatMap_append, List.flatMap_cons]
    simp
  rw [e3, List.take_append_of_le_length (by rw [Rw.flat_len hf, List.length_set]; exact Nat.le_refl _)]
  exact List.take_of_length_le (by rw [Rw.flat_len hf, List.length_set]; exact Nat.le_refl _)
theorem Rw.set (hf : ∀ a, (f a).length = sz) {g cap i : Nat} (h : Rw e sz f W base (.slice (some ⟨g, 0, none⟩) l.length cap) l) (b : α) (hi : i < l.length) : Rw e sz f (W.setCells g (i * sz) (f b)) base (.slice (some ⟨g, 0, none⟩) (l.set i b).length cap) (l.set i b) := by
  obtain ⟨g', cap', cur, e1, hg, hb, hc, hm, hs, ht⟩ := h.open (by omega)
  injection e1 with e1 _ e2
  injection e1 with e1
  injection e1 with e1
  subst e1; subst e2
  have h1 : (i + 1) * sz ≤ l.length * sz := Nat.mul_le_mul_right _ (by omega)
  have h2 : l.length * sz ≤ cap * sz := Nat.mul_le_mul_right _ hc
  have e3 : (i + 1) * sz = i * sz + sz := Nat.succ_mul i sz
  rw [setCells_row (f b) W g (i * sz) cur e hb (by rw [hf, hs]; omega)]
  refine Rw.make hf hg (setRow_heap W g cur _ e _ hb) (by rw [List.length_set]; exact hc) hm ?_ ?_
  · rw [List.size_toArray, length_splice _ _ _ (by rw [hf, Array.length_toList, hs]; omega), Array.length_toList, hs]
  · rw [List.length_set]
    exact splice_set hf b hi ht
/-- Two splices: room is made, and filled. -/
theorem splice_ins (hf : ∀ a, (f a).length = sz) {cur : List Value} {k : Nat} (b : α) (hk : k ≤ l.length) (hn : (l.length + 1) * sz ≤ cur.length) (ht : cur.take (k * sz) = (l.take k).flatMap f) :
    (splice (splice cur ((k + 1) * sz) ((l.drop k).flatMap f)) (k * sz) (f b)).take ((l.length + 1) * sz) = (l.take k ++ b :: l.drop k).flatMap f := by
  have e1 : (k + 1) * sz = k * sz + sz := Nat.succ_mul k sz
  have hD : ((l.drop k).flatMap f).length = (l.length - k) * sz := by rw [Rw.flat_len hf, List.length_drop]
  have e2 : (l.length + 1) * sz = k * sz + (sz + (l.length - k) * sz) := by
    rw [← Nat.add_assoc, ← e1, ← Nat.add_mul]; congr 1; omega
  have hA : ((l.take k).flatMap f).length = k * sz := by rw [Rw.flat_len hf, List.length_take, Nat.min_eq_left hk]
  generalize hDD : (l.drop k).flatMap f = D at hD
  generalize hAA : (l.take k).flatMap f = A at hA ht
  rw [List.flatMap_append, List.flatMap_cons, hAA, hDD]
  have hF := hf b
  generalize f b = F at hF
  unfold splice
  rw [hF, ← e1]
  have t1 : (cur.take ((k + 1) * sz) ++ (D ++ cur.drop ((k + 1) * sz + D.length))).take (k * sz) = A := by
    rw [List.take_append_of_le_length (by rw [List.length_take]; omega), List.take_take, Nat.min_eq_left (by omega), ht]
  have t2 : (cur.take ((k + 1) * sz) ++ (D ++ cur.drop ((k + 1) * sz + D.length))).drop ((k + 1) * sz) = D ++ cur.drop ((k + 1) * sz + D.length) := by
    rw [List.drop_append, List.length_take, Nat.min_eq_left (by omega), List.drop_of_length_le (by rw [List.length_take]; omega)]
    simp
  rw [t1, t2, e2, ← List.append_assoc, ← List.append_assoc, ← List.append_assoc, List.take_append_of_le_length (by simp; omega)]
  exact List.take_of_length_le (by simp; omega)
theorem splice_ins' (hf : ∀ a, (f a).length = sz) {cur : List Value} {k : Nat} (b : α) (hk : k ≤ l.length) (ht : cur.take (k * sz) = (l.take k).flatMap f) :
    (splice (splice cur (k * sz) (f b)) ((k + 1) * sz) ((l.drop k).flatMap f)).take ((l.length + 1) * sz) = (l.take k ++ b :: l.drop k).flatMap f := by
  have e1 : (k + 1) * sz = k * sz + sz := Nat.succ_mul k sz
  have hD : ((l.drop k).flatMap f).length = (l.length - k) * sz := by rw [Rw.flat_len hf, List.length_drop]
  have e2 : (l.length + 1) * sz = k * sz + (sz + (l.length - k) * sz) := by
    rw [← Nat.add_assoc, ← e1, ← Nat.add_mul]; congr 1; omega
  have hA : ((l.take k).flatMap f).length = k * sz := by rw [Rw.flat_len hf, List.length_take, Nat.min_eq_left hk]
  generalize hDD : (l.drop k).flatMap f = D at hD
  generalize hAA : (l.take k).flatMap f = A at hA ht
  rw [List.flatMap_append, List.flatMap_cons, hAA, hDD]
  have hF := hf b
  generalize f b = F at hF
  have t1 : (splice cur (k * sz) F).take ((k + 1) * sz) = A ++ F := by
    unfold splice
    rw [ht, ← List.append_assoc, List.take_append_of_le_length (by simp; omega)]
    exact List.take_of_length_le (by simp; omega)
  rw [splice, t1, e2, ← List.append_assoc, List.take_append_of_le_length (by simp; omega), List.append_assoc]
  exact List.take_of_length_le (by simp; omega)
/-- append(s, x...): s a row of the call's own, x whatever: nil, empty or not. -/
theorem wp_app_many {P : Program} {Q : Exit → Act → World → Prop} {a : Act} {w : World} {o : Oper} {K : Act → World → Prop} (hf : ∀ a, (f a).length = sz)
    (s x : Operand) (t : TypeId) (ho : o.op = .call { callee := .builtin .append, args := #[s, x], argTypes := #[t, t] }) (ht : P.underlying t = some (.slice e)) (z : Value) (bytes : Nat)
    (hinfo : ∃ i, P.info? e = some i ∧ i.zero = some z ∧ i.size = sz ∧ i.bytes = bytes) (hz : z.cells.size = sz) (hsz : 0 < sz) (h1 : ∀ a, ∀ u ∈ f a, u.oneCell' = true) (hby : bytes ≤ 1000)
    (hs : a.eval s = v) (hown : Rw e sz f w base v l) {ao : Option Addr} {m c : Nat} {l2 : List α} (hx : a.eval x = .slice ao m c) (hl2 : l2.length = m) (hnone : ao = none → m = 0 ∧ c = 0)
    (hA : ∀ ad, ao = some ad → ∀ j u, (l2.flatMap f)[j]? = some u → w.cell? (ad.add j) = some u) (hm : l.length + m ≤ 1000000) (hbase : base ≤ w.heap.size)
    (h : ∀ v' w', Rw e sz f w' base v' (l ++ l2) → Below base w w' → K (a.put o.dst v') w') : o.wp P a w K Q := by
  obtain ⟨i, hi, hzz, hsize, hbb⟩ := hinfo
  have hone : ∀ u ∈ l2.flatMap f, u.oneCell' = true := fun u hu => by
    obtain ⟨b, _, h2⟩ := List.mem_flatMap.1 hu
    exact h1 b u h2
  cases ao with
  | none =>
    obtain ⟨rfl, rfl⟩ := hnone rfl
    obtain rfl := List.eq_nil_of_length_eq_zero hl2
    have hrun := run_append_owned_none (P := P) w base t o.type e i sz ht hi v l.length (l.flatMap f) hown
    unfold Oper.wp
    simp only [execOp, ho, resolve, invoke, builtin, hs, hx, hrun, Sem.run_bind, Sem.run_pure, Result.andThen_ok, List.map_toArray, List.map_cons, List.map_nil]
    exact h v w (by rw [List.append_nil]; exact hown) (Below.refl _ _)
  | some ad =>
    refine wp_append_own w s x t ho base e i z sz bytes ht hi hzz hsize hbb hz hsz v l.length (l.flatMap f) hs hown ad m c (l2.flatMap f) hx (by rw [Rw.flat_len hf, hl2]) (hA ad rfl) hone (by unfold maxLen; omega) ?_ hbase ?_
    · have : (l.length + m) * bytes ≤ 1000000 * 1000 := Nat.mul_le_mul hm hby
      omega
    · intro v' w' h2 h3 _
      refine h v' w' ?_ ((Below.refl base w).grown h3 hbase hown.block_le)
      show w'.ownsRow base e sz v' (l ++ l2).length ((l ++ l2).flatMap f)
      rw [List.flatMap_append, List.length_append, hl2]
      exact h2
end
end Lk
end Go.Proofs.Ytddkmaplficofaa
