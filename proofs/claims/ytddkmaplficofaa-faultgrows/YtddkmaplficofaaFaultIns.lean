/- slices.Clone and slices.Insert at records. -/
import Derived.Test.YtddkmaplficofaaFaultRec
import Derived.Lib.Overlaps
import Derived.Lib.SliceRun
import Derived.Lib.AppendZerosOnto
import Derived.Shelf.RegionOpenPlain
namespace Go.Proofs.Ytddkmaplficofaa
namespace Fw
open Go.RowKit Fa Lk
open Sp (R)

theorem Rcs.flat {W : World} {A : Option Addr} {L : List R} (h : Rcs W A L) (hl : 0 < L.length) : ∃ g o, A = some ⟨g, o, none⟩ ∧ g < W.heap.size ∧ W.rangeAt g o (L.flatMap rf_) := by
  obtain ⟨g, o, rfl, hg, _⟩ := h 0 _ (List.getElem?_eq_getElem hl)
  refine ⟨g, o, rfl, hg, fun j v hv => ?_⟩
  have hj : j < L.length * 3 := by
    have := (List.getElem?_eq_some_iff.1 hv).1
    rwa [Rw.flat_len rf_len] at this
  obtain ⟨g', o', e, _, hr⟩ := h (j / 3) _ (List.getElem?_eq_getElem (by omega))
  injection e with e
  injection e with e1 e2
  subst e1; subst e2
  have hk : j % 3 < (rf_ (L[j / 3]'(by omega))).length := by rw [rf_len]; omega
  have h1 := Rw.flat_at rf_len (List.getElem?_eq_getElem (l := L) (i := j / 3) (by omega)) (List.getElem?_eq_getElem hk)
  rw [show j / 3 * 3 + j % 3 = j from by omega, hv] at h1
  injection h1 with h1
  rw [h1, ← hr (j % 3) _ (List.getElem?_eq_getElem hk), Nat.add_assoc, show j / 3 * 3 + j % 3 = j from by omega]

theorem eql_nil (w : World) (a : Option Addr) (n c n' c' : Nat) : (binOp .eql 24 (.slice a n c) (.slice none n' c')).run Try.prog w = .ok (.bool a.isNone) w := Lib.run_eql_slice_nil w _ _ a n c n' c' Try.underlying24
theorem clone_nil (w : World) : Calls Try.prog 22 #[.slice none 0 0] w fun e w' => e = .returned (.slice none 0 0) ∧ w = w' := by
  have q22 := eql_nil
  go_enter Try.func22, Try.ntmps22
  go_wp2_with fail
  go_ret
  exact ⟨rfl, rfl⟩
set_option maxHeartbeats 1600000 in
theorem clone_some (b o n c : Nat) (L : List R) (hL : L.length = n) (hn : n ≤ 1000) (w : World) (hA : w.rangeAt b o (L.flatMap rf_)) :
    Calls Try.prog 22 #[.slice (some ⟨b, o, none⟩) n c] w fun e w' => ∃ v', e = .returned v' ∧ Row w' w.heap.size v' L ∧ Below w.heap.size w w' := by
  have HA := Lib.hid hA
  have HL := Lib.hid hL
  clear hA hL
  obtain ⟨i0, hi, hz0, hz1, hz2⟩ := info_r3
  have q22 := eql_nil
  go_enter Try.func22, Try.ntmps22
  go_wp2_with (at_builtin; refine wpList_append_own _ rfl _ _ 24 rfl w.heap.size 30 i0 _ 3 24 Try.underlying24 hi hz0 hz1 hz2 rfl (by omega) _ _ _ rfl (World.ownsRow_made w #[] 0 (Nat.le_refl _) (Nat.zero_le _) (by simp)) ⟨b, o, none⟩ n c (L.flatMap rf_) rfl ?q1 ?q2 ?q3 ?q4 ?q5 ?q6 ?_)
  case q1 => rw [Rw.flat_len rf_len, HL.out]
  case q2 =>
    intro j u hj
    rw [Addr.add_mid]
    have h1 := HA.out j u hj
    exact (World.cell?_of_block (w := w) (a := ⟨b, o + j, none⟩) (Below.heap_alloc _ _ _ (World.block_lt_of_cell? _ _ h1))).trans h1
  case q3 => exact flat_one L
  case q4 => rw [Nat.zero_add]; unfold maxLen; omega
  case q5 => omega
  case q6 => simp
  intro v' w1 hown hgrow _
  rw [← HL.out] at hown
  have HR : Hid (Row w1 w.heap.size v' L) := hown
  have HB : Hid (Below w.heap.size w w1) := ((Below.refl _ w).alloc (Nat.le_refl _) _).grown hgrow (by simp) (by intro k hk; simp [Value.ownBlock] at hk; omega)
  clear hown hgrow
  go_wp2_with fail
  go_ret
  exact ⟨v', rfl, HR.out, HB.out⟩
/-- A list of records that is nil where it is empty. -/
theorem clone_c (A : Option Addr) (n c : Nat) (L : List R) (hL : L.length = n) (hn : n ≤ 1000) (hz : n = 0 → A = none ∧ c = 0) (w : World) (hA : Rcs w A L) :
    Calls Try.prog 22 #[.slice A n c] w fun e w' => ∃ v', e = .returned v' ∧ Row w' w.heap.size v' L ∧ (n = 0 → v' = .slice none 0 0) ∧ Below w.heap.size w w' := by
  by_cases h0 : n = 0
  · obtain ⟨rfl, rfl⟩ := hz h0
    subst h0
    obtain rfl := List.eq_nil_of_length_eq_zero hL
    refine (clone_nil w).mono ?_
    rintro e w' ⟨rfl, rfl⟩
    exact ⟨_, rfl, Rw.nil _ _ _ _ _, fun _ => rfl, Below.refl _ _⟩
  · obtain ⟨g, o, rfl, _, hr⟩ := hA.flat (by omega)
    refine (clone_some g o n c L hL hn w hr).mono ?_
    rintro e w' ⟨v', rfl, h1, h2⟩
    exact ⟨v', rfl, h1, fun h => absurd h h0, h2⟩

/-- One element put behind the others. -/
theorem app_r {ops : Array Oper} {Q : Exit → Act → World → Prop} {a : Act} {w : World} {rest : List Oper} {o : Oper} (hw : Region.wanted o (yielded ops a.tmps) = true)
    (s x : Operand) (ho : o.op = .call { callee := .builtin .append, args := #[s, x], argTypes := #[24, 24] })
    (base : Nat) (v : Value) (l : List R) (hs : a.eval s = v) (hown : Row w base v l) (g c : Nat) (b : R) (hx : a.eval x = .slice (some ⟨g, 0, none⟩) 1 c) (hA : w.rangeAt g 0 (rf_ b))
    (hm : l.length ≤ 1000000) (hbase : base ≤ w.heap.size)
    (h : ∀ v' w', Row w' base v' (l ++ [b]) → Below base w w' → wpList Try.prog ops Q rest (a.put o.dst v') w') : wpList Try.prog ops Q (o :: rest) a w :=
  app_one hw s x 24 ho Try.underlying24 _ 24 info_r3 rfl (by decide) rf_len rf_one (by decide) base v l hs hown g c b hx hA hm hbase h

set_option maxHeartbeats 4000000 in
set_option maxRecDepth 100000 in
theorem insert_nil (base vb : Nat) (r : R) (w : World) (hb : base ≤ w.heap.size) (hv : w.rangeAt vb 0 (rf_ r)) :
    Calls Try.prog 31 #[.slice none 0 0, .int .i64 0, .slice (some ⟨vb, 0, none⟩) 1 1] w fun e w' => ∃ v', e = .returned v' ∧ Row w' base v' [r] ∧ Below base w w' := by
  have HV := Lib.hid hv
  clear hv
  go_enter Try.func31, Try.ntmps31
  go_wp2_with (at_builtin; refine app_r rfl _ _ rfl base _ [] rfl (Rw.nil _ _ _ _ _) vb 1 r rfl HV.out (by simp) hb ?_)
  intro v' w' h1 h2
  have H1 := Lib.hid h1
  have H2 := Lib.hid h2
  clear h1 h2
  go_wp2_with fail
  go_ret
  exact ⟨v', rfl, H1.out, H2.out⟩
set_option maxHeartbeats 4000000 in
set_option maxRecDepth 100000 in
theorem insert_end (base g n cap vb : Nat) (l : List R) (hl : l.length = n) (hn : n ≤ 1000) (r : R) (w : World) (hb : base ≤ w.heap.size) (ho : Row w base (.slice (some ⟨g, 0, none⟩) n cap) l) (hv : w.rangeAt vb 0 (rf_ r)) :
    Calls Try.prog 31 #[.slice (some ⟨g, 0, none⟩) n cap, .int .i64 n, .slice (some ⟨vb, 0, none⟩) 1 1] w fun e w' => ∃ v', e = .returned v' ∧ Row w' base v' (l ++ [r]) ∧ Below base w w' := by
  have HV := Lib.hid hv
  have HO := Lib.hid ho
  have HL := Lib.hid hl
  clear hv ho hl
  go_enter Try.func31, Try.ntmps31
  go_wp2_with (at_builtin; refine app_r rfl _ _ rfl base _ l rfl HO.out vb 1 r rfl HV.out (by rw [HL.out]; omega) hb ?_)
  all_goals
    intro v' w' h1 h2
    have H1 := Lib.hid h1
    have H2 := Lib.hid h2
    clear h1 h2
    go_wp2_with fail
    go_ret
    exact ⟨v', rfl, H1.out, H2.out⟩
theorem size_r (w : World) : (Go.sizeOf 30).run Try.prog w = .ok 3 w := by
  obtain ⟨i0, hi, _, hz1, _⟩ := info_r3
  simp [sizeOf, typeInfo, hi, hz1]
theorem overlaps_c (vb g off lb cb : Nat) (r : R) (cur : Array Value) (w : World) (hne : vb ≠ g) (hv : w.heap[vb]? = some (.cells (rcs r) 30 (0, 0))) (hg : w.heap[g]? = some (.cells cur 30 (0, 0))) (hs : cur.size ≠ 0) :
    (callFunc 35 #[.slice (some ⟨vb, 0, none⟩) 1 1, .slice (some ⟨g, off, none⟩) lb cb]).run Try.prog w = .ok (.value (.bool false)) w := by
  rw [run_callFunc_extern Try.func35 (by kernel_rfl) (by kernel_rfl) (by kernel_rfl) (e := Extern.SlicesOverlaps.overlaps #[24, 24] #[4]) (by kernel_rfl),
    Lib.run_overlaps_apart w 24 4 30 Try.underlying24 3 size_r ⟨vb, 0, none⟩ ⟨g, off, none⟩ 1 1 lb cb hne 30 30 3 cur.size (by simp [World.shape?, hv]) (by simp [World.shape?, hg]) hs (by simp [World.frozen?, hv]) (by simp [World.frozen?, hv])]
  rfl

set_option maxHeartbeats 4000000 in
set_option maxRecDepth 100000 in
theorem insert_room (base g n k cap vb : Nat) (l : List R) (hl : l.length = n) (hk : k < n) (hc : n + 1 ≤ cap) (hm : cap ≤ maxLen) (r : R) (w : World) (ho : Row w base (.slice (some ⟨g, 0, none⟩) n cap) l) (hne : vb ≠ g) (hv : w.heap[vb]? = some (.cells (rcs r) 30 (0, 0))) :
    Calls Try.prog 31 #[.slice (some ⟨g, 0, none⟩) n cap, .int .i64 k, .slice (some ⟨vb, 0, none⟩) 1 1] w fun e w' => ∃ v', e = .returned v' ∧ Row w' base v' (l.take k ++ r :: l.drop k) ∧ Below base w w' := by
  subst hl
  obtain ⟨g', cap', cur, e1, hg, hb, hc0, hm0, hs, ht⟩ := ho.open (by omega)
  injection e1 with e1 _ e2
  injection e1 with e1
  injection e1 with e1
  subst e1; subst e2
  have hct : cur.toList.length = cap * 3 := by simpa using hs
  have hL := Rw.flat_len rf_len (l.drop k)
  rw [List.length_drop] at hL
  -- the second half is copied one further on
  have c1 : ∀ (ty : TypeId) (dc sc : Nat), (Builtin.copy_ #[24, 24] ty #[.slice (some ⟨g, (k + 1) * 3, none⟩) (l.length - k) dc, .slice (some ⟨g, k * 3, none⟩) (l.length + 1 - k) sc]).run Try.prog w.drew = .ok (goInt ((l.length - k : Nat) : Int)) (w.drew.setRow g (splice cur.toList ((k + 1) * 3) ((l.drop k).flatMap rf_)).toArray) := fun ty dc sc => by
    refine run_copy_sz w.drew _ _ ty 30 3 g ((k + 1) * 3) (l.length - k) dc ⟨g, k * 3, none⟩ (l.length + 1 - k) sc (l.length - k) cur 30 ((l.drop k).flatMap rf_) Try.underlying24 info_rs hb (by simp only [Nat.min_def]; split <;> omega) hL ?_ (by rw [hL, hs]; omega) (flat_one _)
    intro j v hj
    rw [Addr.add_mid]
    show w.cell? _ = _
    rw [← flat_drop rf_len, List.getElem?_drop, ← ht, List.getElem?_take] at hj
    split at hj
    · rw [cell_of_row w g _ cur 30 (0, 0) hb]
      simpa using hj
    · cases hj
  obtain ⟨cur1, hcur1⟩ : ∃ cur1 : Array Value, (splice cur.toList ((k + 1) * 3) ((l.drop k).flatMap rf_)).toArray = cur1 := ⟨_, rfl⟩
  have hs1 : cur1.size = cap * 3 := by rw [← hcur1, List.size_toArray, length_splice _ _ _ (by rw [hL, hct]; omega), hct]
  rw [hcur1] at c1
  have hb1 : (w.drew.setRow g cur1).heap[g]? = some (.cells cur1 30 (0, 0)) := setRow_heap w.drew g cur cur1 _ _ hb
  -- the new one is laid between
  have c2 : ∀ (ty : TypeId) (dc : Nat), (Builtin.copy_ #[24, 24] ty #[.slice (some ⟨g, k * 3, none⟩) (l.length + 1 - k) dc, .slice (some ⟨vb, 0, none⟩) 1 1]).run Try.prog (w.drew.setRow g cur1) = .ok (goInt ((1 : Nat) : Int)) ((w.drew.setRow g cur1).setRow g (splice cur1.toList (k * 3) (rf_ r)).toArray) := fun ty dc => by
    refine run_copy_sz _ _ _ ty 30 3 g (k * 3) (l.length + 1 - k) dc ⟨vb, 0, none⟩ 1 1 1 cur1 30 (rf_ r) Try.underlying24 info_rs hb1 (by simp only [Nat.min_def]; split <;> omega) rfl ?_ (by rw [rf_len, hs1]; omega) (rf_one r)
    intro j v hj
    rw [Addr.add_mid, Nat.zero_add]
    refine (World.cell?_of_block (w := w) (a := ⟨vb, j, none⟩) (setRow_other w.drew g vb cur1 hne)).trans ?_
    exact (Joins.cell_of_block hv j).trans (by simpa using hj)
  have hfin : Row ((w.drew.setRow g cur1).setRow g (splice cur1.toList (k * 3) (rf_ r)).toArray) base (.slice (some ⟨g, 0, none⟩) (l.length + 1) cap) (l.take k ++ r :: l.drop k) := by
    have hlen : (l.take k ++ r :: l.drop k).length = l.length + 1 := by simp; omega
    rw [← hlen]
    refine Rw.make rf_len hg (setRow_heap _ g cur1 _ _ _ hb1) (by rw [hlen]; exact hc) hm ?_ ?_
    · rw [List.size_toArray, length_splice _ _ _ (by rw [rf_len, Array.length_toList, hs1]; omega), Array.length_toList, hs1]
    · rw [hlen, List.toList_toArray, ← hcur1, List.toList_toArray]
      refine splice_ins rf_len r (by omega) (by rw [hct]; omega) ?_
      have : cur.toList.take (k * 3) = (cur.toList.take (l.length * 3)).take (k * 3) := by rw [List.take_take, Nat.min_eq_left (by omega)]
      rw [this, ht, flat_take rf_len]
  have hbel : Below base w ((w.drew.setRow g cur1).setRow g (splice cur1.toList (k * 3) (rf_ r)).toArray) := below_setRow (below_setRow (Below.refl base w).drew hg cur1) hg _
  have hov := fun lb cb => overlaps_c vb g ((k + 1) * 3) lb cb r cur w hne hv hb (by rw [hs]; omega)
  have HF := Lib.hid hfin
  have HB := Lib.hid hbel
  have C1 := Lib.hid c1
  have C2 := Lib.hid c2
  unfold maxLen at hm
  clear hfin hbel c1 c2 hb1 hs1 hcur1 hL hb hc0 hm0 hs ht hv ho
  generalize (splice cur1.toList (k * 3) (rf_ r)).toArray = cur2 at HF HB C2
  generalize l.length = n at *
  have z1 : ¬ ((k : Int) = (n : Int)) := by omega
  have z2 : ¬ ((cap : Int) < (n : Int) + 1) := by omega
  have z3 : (k : Int) ≤ (n : Int) := by omega
  have z4 : (n : Int) + 1 ≤ (cap : Int) := by omega
  have z5 : (k : Int) + 1 ≤ (n : Int) + 1 := by omega
  have z6 : IntKind.i64.wrap ((k : Int) + 1) = (k : Int) + 1 := by rw [IntKind.wrap_i64]; omega
  have z7 : ((k : Int) + 1).toNat = k + 1 := by omega
  have z8 : (0 : Int) ≤ (k : Int) + 1 := by omega
  have z9 : ¬ cap = k + 1 := by omega
  have z10 : ¬ cap = k := by omega
  have z11 : (k : Int) ≤ (n : Int) + 1 := by omega
  have z12 : n + 1 - (k + 1) = n - k := by omega
  have mixed : Try.prog.follows Departure.mixedOrders = true := by kernel_rfl
  go_enter Try.func31, Try.ntmps31
  go_wp2_with (simp only [hov])
  go_region_law_o (refine step_copy_eq rfl _ _ 24 24 rfl (by simp [Act.eval, Act.put]) (by simp [Act.eval, Act.put]) (C1.out _ (cap - (k + 1)) (cap - k)) ?_)
  go_wp2_with (first | (refine wpList_copy_eq rfl _ _ 24 24 rfl rfl rfl (C2.out _ _) ?_) | fail)
  go_ret
  exact ⟨_, rfl, HF.out, HB.out⟩

theorem zero_cells (m : Nat) : (Builtin.zeroCells (Value.agg (rcs ⟨0, 0, false⟩)).cells m).size = m * 3 := by rw [size_zeroCells]; rfl
set_option maxHeartbeats 4000000 in
set_option maxRecDepth 100000 in
theorem insert_grow (base g n k cap vb : Nat) (l : List R) (hl : l.length = n) (hn : n ≤ 1000) (hk : k < n) (hc : cap < n + 1) (r : R) (w : World) (hbase : base ≤ w.heap.size) (ho : Row w base (.slice (some ⟨g, 0, none⟩) n cap) l) (hv : w.heap[vb]? = some (.cells (rcs r) 30 (0, 0))) :
    Calls Try.prog 31 #[.slice (some ⟨g, 0, none⟩) n cap, .int .i64 k, .slice (some ⟨vb, 0, none⟩) 1 1] w fun e w' => ∃ v', e = .returned v' ∧ Row w' base v' (l.take k ++ r :: l.drop k) ∧ Below base w w' := by
  subst hl
  obtain ⟨g', cap', cur, e1, hg, hb, hc0, hm0, hs, ht⟩ := ho.open (by omega)
  injection e1 with e1 _ e2
  injection e1 with e1
  injection e1 with e1
  subst e1; subst e2
  obtain rfl : cap = l.length := by omega
  have hgl : g < w.heap.size := (Array.getElem?_eq_some_iff.1 hb).1
  have hvl : vb < w.heap.size := (Array.getElem?_eq_some_iff.1 hv).1
  have hT : ((l.take k).flatMap rf_).length = k * 3 := by rw [Rw.flat_len rf_len, List.length_take, Nat.min_eq_left (by omega)]
  have hD : ((l.drop k).flatMap rf_).length = (l.length - k) * 3 := by rw [Rw.flat_len rf_len, List.length_drop]
  have cell : ∀ j, j < l.length * 3 → w.cell? ⟨g, j, none⟩ = (l.flatMap rf_)[j]? := fun j hj => by
    rw [cell_of_row w g j cur 30 (0, 0) hb, ← ht, List.getElem?_take, if_pos hj]
    simp
  obtain ⟨i0, hi, hz0, hz1, hz2⟩ := info_r3
  -- a new row: the first ones, then zeros
  obtain ⟨G, hG⟩ : ∃ G, grownCap w (l.length + 1) l.length 30 = G := ⟨_, rfl⟩
  have hGn : l.length + 1 ≤ G := by rw [← hG]; exact grownCap_ge w _ _ _
  have hGm : G ≤ maxLen := by rw [← hG]; exact grownCap_le_maxLen w _ _ _ (by unfold maxLen; omega)
  obtain ⟨row, hrow⟩ : ∃ row : Array Value, ((l.take k).flatMap rf_).toArray ++ Builtin.zeroCells (Value.agg (rcs ⟨0, 0, false⟩)).cells (l.length + 1 - k) ++ Builtin.zeroCells (Value.agg (rcs ⟨0, 0, false⟩)).cells (G - (l.length + 1)) = row := ⟨_, rfl⟩
  have hrs : row.size = G * 3 := by rw [← hrow]; simp only [Array.size_append, zero_cells, List.size_toArray, hT]; omega
  have hrt : row.toList.take (k * 3) = (l.take k).flatMap rf_ := by
    rw [← hrow]
    simp only [Array.toList_append]
    rw [List.append_assoc, List.take_append_of_le_length (by rw [hT]; exact Nat.le_refl _)]
    exact List.take_of_length_le (by rw [hT]; exact Nat.le_refl _)
  have hrl : row.toList.length = G * 3 := by simpa using hrs
  have c0 : ∀ ty : TypeId, (Builtin.append_ #[24, 3] ty #[.slice (some ⟨g, 0, none⟩) k l.length, .int .i64 ((l.length : Int) + 1 - (k : Int))]).run Try.prog w = .ok (.slice (some ⟨w.heap.size, 0, none⟩) (l.length + 1) G) (w.drew.alloc (.cells row 30)) := fun ty => by
    have e1 : (l.length : Int) + 1 - (k : Int) = ((l.length + 1 - k : Nat) : Int) := by omega
    have e2 : k + (l.length + 1 - k) = l.length + 1 := by omega
    have h := Lib.run_append_grow_zeros w 24 3 ty 30 i0 _ .i64 .i64 Try.underlying24 Try.underlying3 hi hz0 (some ⟨g, 0, none⟩) k l.length ((l.take k).flatMap rf_)
      (by rw [hz1]; exact run_firstCells_some w.drew 3 k ⟨g, 0, none⟩ k l.length _ hT (fun j v hj => by
        rw [Addr.add_mid, Nat.zero_add]
        have hj2 : j < k * 3 := by have := (List.getElem?_eq_some_iff.1 hj).1; omega
        rw [← flat_take rf_len, List.getElem?_take, if_pos hj2] at hj
        exact (cell j (by omega)).trans hj)) (l.length + 1 - k) (by omega) (by omega) (by omega) (by omega) (by rw [hz2]; omega) (by rw [hz2, e2]; exact growslice_fits (by omega) (by omega))
    rw [e2, hG, hrow] at h
    rw [e1]
    exact h
  obtain ⟨W1, hW1⟩ : ∃ W1, w.drew.alloc (.cells row 30) = W1 := ⟨_, rfl⟩
  have hb1 : W1.heap[w.heap.size]? = some (.cells row 30 (0, 0)) := by rw [← hW1]; exact heap_alloc_last w.drew _
  have hold : ∀ b, b < w.heap.size → W1.heap[b]? = w.heap[b]? := fun b hb => by rw [← hW1]; exact Below.heap_alloc w.drew _ b hb
  -- the new one
  obtain ⟨cur1, hcur1⟩ : ∃ cur1 : Array Value, (splice row.toList (k * 3) (rf_ r)).toArray = cur1 := ⟨_, rfl⟩
  have hl1 : cur1.toList.length = G * 3 := by rw [← hcur1, List.toList_toArray, length_splice _ _ _ (by rw [rf_len, hrl]; omega), hrl]
  have hs1 : cur1.size = G * 3 := by simpa using hl1
  have c1 : ∀ (W : World) (ty : TypeId) (dc : Nat), W.heap = W1.heap → (Builtin.copy_ #[24, 24] ty #[.slice (some ⟨w.heap.size, k * 3, none⟩) (l.length + 1 - k) dc, .slice (some ⟨vb, 0, none⟩) 1 1]).run Try.prog W = .ok (goInt ((1 : Nat) : Int)) (W.setRow w.heap.size cur1) := fun W ty dc hW => by
    rw [← hcur1]
    refine run_copy_sz _ _ _ ty 30 3 w.heap.size (k * 3) (l.length + 1 - k) dc ⟨vb, 0, none⟩ 1 1 1 row 30 (rf_ r) Try.underlying24 info_rs (by rw [hW]; exact hb1) (by simp only [Nat.min_def]; split <;> omega) rfl ?_ (by rw [rf_len, hrs]; omega) (rf_one r)
    intro j v hj
    rw [Addr.add_mid, Nat.zero_add]
    refine (World.cell?_of_block (w := w) (a := ⟨vb, j, none⟩) (by rw [hW]; exact hold vb hvl)).trans ?_
    exact (Joins.cell_of_block hv j).trans (by simpa using hj)
  -- the others behind it
  obtain ⟨cur2, hcur2⟩ : ∃ cur2 : Array Value, (splice cur1.toList ((k + 1) * 3) ((l.drop k).flatMap rf_)).toArray = cur2 := ⟨_, rfl⟩
  have hb2 : (W1.setRow w.heap.size cur1).heap[w.heap.size]? = some (.cells cur1 30 (0, 0)) := setRow_heap W1 w.heap.size row cur1 _ _ hb1
  have hold2 : ∀ b, b < w.heap.size → (W1.setRow w.heap.size cur1).heap[b]? = w.heap[b]? := fun b hb => (setRow_other W1 w.heap.size b cur1 (by omega)).trans (hold b hb)
  have c2 : ∀ (W : World) (ty : TypeId) (dc sc : Nat), W.heap = (W1.setRow w.heap.size cur1).heap → (Builtin.copy_ #[24, 24] ty #[.slice (some ⟨w.heap.size, (k + 1) * 3, none⟩) (l.length - k) dc, .slice (some ⟨g, k * 3, none⟩) (l.length - k) sc]).run Try.prog W = .ok (goInt ((l.length - k : Nat) : Int)) (W.setRow w.heap.size cur2) := fun W ty dc sc hW => by
    rw [← hcur2]
    refine run_copy_sz _ _ _ ty 30 3 w.heap.size ((k + 1) * 3) (l.length - k) dc ⟨g, k * 3, none⟩ (l.length - k) sc (l.length - k) cur1 30 ((l.drop k).flatMap rf_) Try.underlying24 info_rs (by rw [hW]; exact hb2) (by simp only [Nat.min_def]; split <;> omega) hD ?_ (by rw [hD, hs1]; omega) (flat_one _)
    intro j v hj
    rw [Addr.add_mid]
    refine (World.cell?_of_block (w := w) (a := ⟨g, k * 3 + j, none⟩) (by rw [hW]; exact hold2 g hgl)).trans ?_
    have hj2 : j < (l.length - k) * 3 := by have := (List.getElem?_eq_some_iff.1 hj).1; omega
    rw [← flat_drop rf_len, List.getElem?_drop] at hj
    exact (cell (k * 3 + j) (by omega)).trans hj
  have hfin : ∀ W : World, W.heap = ((W1.setRow w.heap.size cur1).setRow w.heap.size cur2).heap → Row W base (.slice (some ⟨w.heap.size, 0, none⟩) (l.length + 1) G) (l.take k ++ r :: l.drop k) := fun W hW => by
    have hlen : (l.take k ++ r :: l.drop k).length = l.length + 1 := by simp; omega
    rw [← hlen]
    refine Rw.make rf_len hbase (cur := cur2) (by rw [hW]; exact setRow_heap _ w.heap.size cur1 cur2 _ _ hb2) (by rw [hlen]; exact hGn) hGm ?_ ?_
    · rw [← hcur2, List.size_toArray, length_splice _ _ _ (by rw [hD, hl1]; omega), hl1]
    · rw [hlen, ← hcur2, List.toList_toArray, ← hcur1, List.toList_toArray]
      exact splice_ins' rf_len r (by omega) hrt
  have hbel : ∀ W : World, W.heap = ((W1.setRow w.heap.size cur1).setRow w.heap.size cur2).heap → W.os = w.os → W.tape = w.tape → W.output = w.output → Below base w W := fun W hW h1 h2 h3 => by
    refine ⟨h1, h2, h3, ?_, fun b hb => ?_⟩
    · rw [hW, setRow_size, setRow_size, ← hW1]
      simp
    · rw [hW, setRow_other _ _ _ _ (by omega), hold2 b (by omega)]
  have C0 := Lib.hid c0
  have HF := Lib.hid hfin
  have HB := Lib.hid hbel
  have C1 := Lib.hid c1
  have C2 := Lib.hid c2
  have hGm2 := hGm
  unfold maxLen at hGm2
  subst hW1
  clear hfin hbel c0 c1 c2 hb1 hs1 hl1 hcur1 hcur2 hb2 hold hold2 hrl hrt hrs hrow hG hz0 hz1 hz2 hi cell hD hT hb hc0 hm0 hs ht hv ho hGm hc hg
  generalize l.length = n at *
  have z1 : ¬ ((k : Int) = (n : Int)) := by omega
  have z2 : (n : Int) < (n : Int) + 1 := by omega
  have z3 : (k : Int) ≤ (n : Int) := by omega
  have z5 : (k : Int) + 1 ≤ (n : Int) + 1 := by omega
  have z6 : IntKind.i64.wrap ((k : Int) + 1) = (k : Int) + 1 := by rw [IntKind.wrap_i64]; omega
  have z7 : ((k : Int) + 1).toNat = k + 1 := by omega
  have z8 : (0 : Int) ≤ (k : Int) + 1 := by omega
  have z9 : ¬ G = k + 1 := by omega
  have z10 : ¬ G = k := by omega
  have z11 : (k : Int) ≤ (n : Int) + 1 := by omega
  have z12 : n + 1 - (k + 1) = n - k := by omega
  have z13 : ¬ n = k := by omega
  have mixed : Try.prog.follows Departure.mixedOrders = true := by kernel_rfl
  go_enter Try.func31, Try.ntmps31
  go_wp2_with (first
    | (at_builtin; refine Lib.wpList_append_run _ rfl _ _ _ _ rfl _ _ rfl rfl _ _ (C0.out _) ?_)
    | (refine wpList_copy_eq rfl _ _ 24 24 rfl rfl rfl (C1.out _ _ _ rfl) ?_)
    | fail)
  go_region_law_o (refine step_copy_eq rfl _ _ 24 24 rfl (by simp [Act.eval, Act.put]) (by simp [Act.eval, Act.put]) (C2.out _ _ (G - (k + 1)) (n - k) rfl) ?_)
  go_wp2_with fail
  go_ret
  exact ⟨_, rfl, HF.out _ rfl, HB.out _ rfl rfl rfl rfl⟩

theorem range_b {w : World} {vb : Nat} {r : R} (hv : w.heap[vb]? = some (.cells (rcs r) 30 (0, 0))) : w.rangeAt vb 0 (rf_ r) := fun j u hu => by
  rw [Nat.zero_add]
  exact (Joins.cell_of_block hv j).trans (by simpa using hu)
/-- **Insert**, of one record that lies in a block of its own, into a row of the call's own. -/
theorem insert_c (base k n c vb : Nat) (A : Option Addr) (l : List R) (hL : l.length = n) (hk : k ≤ n) (hn : n ≤ 1000) (r : R) (w : World) (hb : base ≤ w.heap.size) (ho : Row w base (.slice A n c) l) (hz : n = 0 → A = none ∧ c = 0)
    (hne : ∀ a, A = some a → vb ≠ a.block) (hv : w.heap[vb]? = some (.cells (rcs r) 30 (0, 0))) :
    Calls Try.prog 31 #[.slice A n c, .int .i64 k, .slice (some ⟨vb, 0, none⟩) 1 1] w fun e w' => ∃ v', e = .returned v' ∧ Row w' base v' (l.take k ++ r :: l.drop k) ∧ Below base w w' := by
  by_cases h0 : n = 0
  · obtain ⟨rfl, rfl⟩ := hz h0
    obtain rfl : k = 0 := by omega
    subst h0
    obtain rfl := List.eq_nil_of_length_eq_zero hL
    exact insert_nil base vb r w hb (range_b hv)
  · obtain ⟨g, cap, cur, e1, hg, hgb, hc0, hm0, hs, ht⟩ := ho.open (by omega)
    injection e1 with e1 e3 e2
    subst e1; subst e2; subst hL
    by_cases h1 : k = l.length
    · subst h1
      have := insert_end base g l.length c vb l rfl hn r w hb ho (range_b hv)
      rwa [List.take_length, List.drop_length]
    · by_cases h2 : l.length + 1 ≤ c
      · exact insert_room base g l.length k c vb l rfl (by omega) h2 hm0 r w ho (hne _ rfl) hv
      · exact insert_grow base g l.length k c vb l rfl hn (by omega) (by omega) r w hb ho hv
end Fw
end Go.Proofs.Ytddkmaplficofaa
