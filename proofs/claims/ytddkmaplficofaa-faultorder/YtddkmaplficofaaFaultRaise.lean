/- fault.Raise: one more of a record, at its place. -/
import Derived.Test.YtddkmaplficofaaFaultFirst
import Derived.Test.YtddkmaplficofaaFaultIns
namespace Go.Proofs.Ytddkmaplficofaa
namespace Fw
open Go.RowKit Fa Lk
open Sp (R)

theorem heap_two (w : World) (o1 o2 : Obj) : ((w.alloc o1).alloc o2).heap[w.heap.size]? = (w.alloc o1).heap[w.heap.size]? := Below.heap_alloc _ _ _ (by simp)
theorem below_two (w : World) (o1 o2 : Obj) : Below w.heap.size w ((w.alloc o1).alloc o2) := ((Below.refl _ _).alloc (Nat.le_refl _) _).alloc (by simp) _

theorem heap_last2 (w : World) (o1 o2 : Obj) : ((w.alloc o1).alloc o2).heap[w.heap.size + 1]? = some o2 := by
  have := heap_alloc_last (w.alloc o1) o2
  rwa [World.size_alloc] at this
set_option maxHeartbeats 4000000 in
theorem by_c (r : R) (h : 0 ≤ r.cnt) (w : World) : Calls Try.prog 24 #[.agg (rcs r)] w fun e w' => e = .returned (.agg (rcs (bump r))) ∧ Below w.heap.size w w' := by
  obtain ⟨rk, rt, rl⟩ := r
  simp only at h
  by_cases h1 : rt ≤ 65534
  · have hm : min rt 65534 = rt := by omega
    by_cases h2 : 3 ≤ rt + 1
    · have d : decide (3 ≤ rt + 1) = true := decide_eq_true h2
      have HX : Hid (bump ⟨rk, rt, rl⟩ = ⟨rk, rt + 1, true⟩) := by show _ = _; unfold bump; simp only [hm, d, Bool.or_true]
      cases rl
      all_goals
        go_enter Try.func24, Try.ntmps24
        go_wp2_with fail
        refine bodyPost_ret (results_cell_row rfl _ _ (w.heap.size + 1) 30 _ (0, 0) _ rfl (heap_last2 w _ _) Try.underlying30 rfl info_rs) rfl ?_
        refine ⟨?_, below_two w _ _⟩
        rw [HX.out]
    · have d : decide (3 ≤ rt + 1) = false := decide_eq_false h2
      have HX : Hid (bump ⟨rk, rt, rl⟩ = ⟨rk, rt + 1, rl⟩) := by show _ = _; unfold bump; simp only [hm, d, Bool.or_false]
      cases rl
      all_goals
        go_enter Try.func24, Try.ntmps24
        go_wp2_with fail
        refine bodyPost_ret (results_cell_row rfl _ _ (w.heap.size + 1) 30 _ (0, 0) _ rfl (heap_last2 w _ _) Try.underlying30 rfl info_rs) rfl ?_
        refine ⟨?_, below_two w _ _⟩
        rw [HX.out]
  · have hm : min rt 65534 = 65534 := by omega
    have HX : Hid (bump ⟨rk, rt, rl⟩ = ⟨rk, 65535, true⟩) := by show _ = _; unfold bump; simp only [hm]; simp
    cases rl
    all_goals
      go_enter Try.func24, Try.ntmps24
      go_wp2_with fail
      refine bodyPost_ret (results_cell_row rfl _ _ (w.heap.size + 1) 30 _ (0, 0) _ rfl (heap_last2 w _ _) Try.underlying30 rfl info_rs) rfl ?_
      refine ⟨?_, below_two w _ _⟩
      rw [HX.out]

/-- A record stored into the midst of a block. -/
theorem stm {ops : Array Oper} {rest : List Oper} {op : Oper} {a : Act} {w : World} {Q : Exit → Act → World → Prop} (hw : Region.wanted op (yielded ops a.tmps) = true) (x y : Operand) (ho : op.op = .store 30 x y)
    (b off : Nat) (r : R) (hx : a.eval x = .pointer (some ⟨b, off, none⟩)) (hy : a.eval y = .agg (rcs r)) (hT : w.there b off 3)
    (c : wpList Try.prog ops Q rest (a.put op.dst undef) (w.setCells b off (rf_ r))) : wpList Try.prog ops Q (op :: rest) a w :=
  Lk.wanted hw fun _ hK => wp_store_mid 30 x y ho b off (rcs r) hx hy hT info_rs (by simp [Value.oneCell']) (hK _ _ c)
/-- An element of a row of the call's own: where it lies, and what the row is when it is laid anew. -/
theorem row_at {W : World} {base g n c k : Nat} {l : List R} {r : R} (h : Row W base (.slice (some ⟨g, 0, none⟩) n c) l) (hn : l.length = n) (hk : l[k]? = some r) : W.rangeAt g (k * 3) (rcs r).toList ∧ W.there g (k * 3) 3 ∧ k < n := by
  have hkl : k < l.length := (List.getElem?_eq_some_iff.1 hk).1
  subst hn
  have cl : ∀ j, j < 3 → W.cell? ⟨g, k * 3 + j, none⟩ = (rf_ r)[j]? := fun j hj => by
    have h1 := World.ownsRow.cellAt h (k * 3 + j) (by omega)
    rw [h1]
    exact (Rw.flat_at rf_len hk (List.getElem?_eq_getElem (by rw [rf_len]; exact hj))).trans (List.getElem?_eq_getElem _).symm
  refine ⟨fun j v hv => ?_, fun j hj => ⟨?_, World.ownsRow.frozenAt h _⟩, hkl⟩
  · have hj : j < 3 := (List.getElem?_eq_some_iff.1 hv).1
    rw [cl j hj]
    exact hv
  · rw [cl j hj, List.getElem?_eq_getElem (by rw [rf_len]; exact hj)]
    rfl
theorem row_set {W : World} {base g n c k : Nat} {l : List R} (r : R) (h : Row W base (.slice (some ⟨g, 0, none⟩) n c) l) (hn : l.length = n) (hk : k < n) : Row (W.setCells g (k * 3) (rf_ r)) base (.slice (some ⟨g, 0, none⟩) n c) (l.set k r) := by
  subst hn
  have := Rw.set rf_len h r hk
  rwa [List.length_set] at this
theorem below_cells {base g : Nat} {w W : World} (h : Below base w W) (hg : base ≤ g) : ∀ (vs : List Value) (o : Nat), Below base w (W.setCells g o vs) := by
  intro vs
  induction vs generalizing W with
  | nil => intro o; exact h
  | cons v vs ih => intro o; rw [World.setCells]; exact ih (h.setCell (p := ⟨g, o, none⟩) hg v) (o + 1)
/-- A row of the call's own, opened. -/
theorem row_open {W : World} {base n : Nat} {v : Value} {l : List R} (h : Row W base v l) (hn : l.length = n) (h0 : 0 < n) : ∃ g c, v = .slice (some ⟨g, 0, none⟩) n c ∧ base ≤ g := by
  subst hn
  obtain ⟨g, c, cur, e, hg, _⟩ := h.open h0
  exact ⟨g, c, e, hg⟩

set_option maxRecDepth 100000 in
set_option maxHeartbeats 8000000 in
theorem change_found (A : Option Addr) (n cp : Nat) (L : List R) (c : Int) (hL : L.length = n) (hn : n ≤ 1000) (hf : Few L) (hz : n = 0 → A = none ∧ cp = 0) (r : R) (hr : L[at_ (eqB c) L]? = some r) (w : World) (hA : Rcs w A L) :
    Calls Try.prog 23 #[.slice A n cp, .int .i64 c, .func (.func 24) #[] #[]] w fun e w' => ∃ v', e = .returned v' ∧ Row w' w.heap.size v' (L.set (at_ (eqB c) L) (bump r)) ∧ Below w.heap.size w w' := by
  obtain ⟨k, hk⟩ : ∃ k, at_ (eqB c) L = k := ⟨_, rfl⟩
  rw [hk] at hr ⊢
  have hkn : k < n := by rw [← hL]; exact (List.getElem?_eq_some_iff.1 hr).1
  have h0 := (hf r (List.mem_of_getElem? hr)).1
  have hb : Below w.heap.size w (w.alloc (.cells #[.int .i64 c] 3)) := (Below.refl _ _).alloc (Nat.le_refl _) _
  have HC := Lib.hid (clone_c A n cp L hL hn hz (w.alloc (.cells #[.int .i64 c] 3)) (hA.below hb))
  have HX := Lib.hid (BoxV.new w 3 #[.int .i64 c])
  have HB := Lib.hid hb
  have HL := Lib.hid hL
  have HR := Lib.hid hr
  have HK := Lib.hid hk
  clear hA hb hz hL hr hk hf
  go_enter Try.func23, Try.ntmps23
  go_wp2_with fail
  refine HC.out.mono ?_
  rintro e W1 ⟨v1, rfl, h1, _, hb1⟩
  obtain ⟨g, c1, rfl, hg⟩ := row_open h1 HL.out (by omega)
  have H1 := Lib.hid h1
  have HB1 := Lib.hid (HB.out.trans (hb1.mono (by simp)))
  have HX1 := Lib.hid (HX.out.below hb1 (by simp))
  have HF : Hid (Calls Try.prog 25 #[.slice (some ⟨g, 0, none⟩) n c1, fv 29 w.heap.size] W1 fun e w' => e = .returned (.int .i64 k) ∧ Below W1.heap.size W1 w') := by
    obtain ⟨A', c', e', _, hR⟩ := Row.form h1
    rw [HL.out] at e'
    injection e' with e1 _ e2
    subst e1; subst e2
    have := first_c _ n c1 29 c (eqB c) (.inr (.inl ⟨rfl, rfl⟩)) w.heap.size L HL.out hn W1 HX1.out hR
    rwa [HK.out] at this
  clear h1 hb1 HC HX HB
  have hkn2 : (k : Int) < n := by omega
  have hkn3 : ((k : Int) == (n : Int)) = false := by simp; omega
  go_wp2_with fail
  refine HF.out.mono ?_
  rintro e W2 ⟨rfl, hb2⟩
  have H2 := Lib.hid (H1.out.below hb2)
  have HB2 := Lib.hid (HB1.out.trans (hb2.mono HB1.out.size))
  clear hb2 HF H1 HB1 HX1
  obtain ⟨hr1, hr2, _⟩ := row_at H2.out HL.out HR.out
  have HR1 := Lib.hid hr1
  have HR2 := Lib.hid hr2
  clear hr1 hr2
  have HY := Lib.hid (fun W => by_c r h0 W)
  go_wp2_with (first | (refine ldrm rfl _ rfl _ _ r rfl HR1.out ?_) | fail)
  refine (HY.out _).mono ?_
  rintro e W3 ⟨rfl, hb3⟩
  have H3 := Lib.hid (H2.out.below hb3)
  have HB3 := Lib.hid (HB2.out.trans (hb3.mono HB2.out.size))
  obtain ⟨_, hr3, _⟩ := row_at H3.out HL.out HR.out
  have HR3 := Lib.hid hr3
  clear hb3 hr3 H2 HB2 HR1 HR2 HY
  go_wp2_with (first | (refine stm rfl _ _ rfl g (k * 3) (bump r) rfl rfl HR3.out ?_) | fail)
  go_ret
  have hgw : w.heap.size ≤ g := by simp at hg; omega
  exact ⟨_, rfl, (row_set (bump r) H3.out HL.out hkn).base_le (by simp), below_cells HB3.out hgw _ _⟩

set_option maxRecDepth 100000 in
set_option maxHeartbeats 8000000 in
theorem change_new (A : Option Addr) (n cp : Nat) (L : List R) (c : Int) (hL : L.length = n) (hn : n ≤ 1000) (hz : n = 0 → A = none ∧ cp = 0) (hr : at_ (eqB c) L = n) (w : World) (hA : Rcs w A L) :
    Calls Try.prog 23 #[.slice A n cp, .int .i64 c, .func (.func 24) #[] #[]] w fun e w' => ∃ v', e = .returned v' ∧ Row w' w.heap.size v' ((L.take (at_ (gtB c) L) ++ ⟨c, 0, false⟩ :: L.drop (at_ (gtB c) L)).set (at_ (gtB c) L) (bump ⟨c, 0, false⟩)) ∧ Below w.heap.size w w' := by
  have hgk := at_le (gtB c) L
  obtain ⟨k, hk⟩ : ∃ k, at_ (gtB c) L = k := ⟨_, rfl⟩
  rw [hk] at hgk ⊢
  have hb : Below w.heap.size w (w.alloc (.cells #[.int .i64 c] 3)) := (Below.refl _ _).alloc (Nat.le_refl _) _
  have HC := Lib.hid (clone_c A n cp L hL hn hz (w.alloc (.cells #[.int .i64 c] 3)) (hA.below hb))
  have HX := Lib.hid (BoxV.new w 3 #[.int .i64 c])
  have HB := Lib.hid hb
  have HL := Lib.hid hL
  have HR := Lib.hid hr
  have HK := Lib.hid hk
  clear hA hb hz hr hk
  rw [hL] at hgk
  clear hL
  obtain ⟨M, hM⟩ : ∃ M, L.take k ++ (⟨c, 0, false⟩ : R) :: L.drop k = M := ⟨_, rfl⟩
  rw [hM]
  have HM := Lib.hid hM
  clear hM
  go_enter Try.func23, Try.ntmps23
  go_wp2_with fail
  refine HC.out.mono ?_
  rintro e W1 ⟨v1, rfl, h1, hz1, hb1⟩
  obtain ⟨A1, c1, e1, hc1, hR1⟩ := Row.form h1
  rw [HL.out] at e1
  subst e1
  have HZ1 : Hid (n = 0 → A1 = none ∧ c1 = 0) := fun h => by
    have := hz1 h
    injection this with e1 _ e2
    exact ⟨e1, e2⟩
  have H1 := Lib.hid h1
  have HR1 := Lib.hid hR1
  have HB1 := Lib.hid (HB.out.trans (hb1.mono (by simp)))
  have HX1 := Lib.hid (HX.out.below hb1 (by simp))
  have HF : Hid (∀ W, Below W1.heap.size W1 W → Calls Try.prog 25 #[.slice A1 n c1, fv 29 w.heap.size] W fun e w' => e = .returned (.int .i64 n) ∧ Below W.heap.size W w') := fun W hW => by
    have := first_c A1 n c1 29 c (eqB c) (.inr (.inl ⟨rfl, rfl⟩)) w.heap.size L HL.out hn W (HX1.out.below hW HX1.out.lt) (HR1.out.below hW)
    rwa [HR.out] at this
  have HG : Hid (∀ W, Below W1.heap.size W1 W → Calls Try.prog 25 #[.slice A1 n c1, fv 30 w.heap.size] W fun e w' => e = .returned (.int .i64 k) ∧ Below W.heap.size W w') := fun W hW => by
    have := first_c A1 n c1 30 c (gtB c) (.inr (.inr ⟨rfl, rfl⟩)) w.heap.size L HL.out hn W (HX1.out.below hW HX1.out.lt) (HR1.out.below hW)
    rwa [HK.out] at this
  have hbase : (w.alloc (.cells #[.int .i64 c] 3)).heap.size = w.heap.size + 1 := by simp
  rw [hbase] at H1
  have HS : Hid (w.heap.size < W1.heap.size) := HX1.out.lt
  clear h1 hb1 hc1 hR1 hz1 HC HX HB hbase
  go_wp2_with fail
  refine (HF.out _ (Below.refl _ _)).mono ?_
  rintro e W2 ⟨rfl, hb2⟩
  have HB2 := Lib.hid hb2
  clear hb2 HF
  go_wp2_with fail
  refine (HG.out _ HB2.out).mono ?_
  rintro e W3 ⟨rfl, hb3⟩
  have HB3 := Lib.hid (HB2.out.trans (hb3.mono HB2.out.size))
  have c0 := (HX1.out.below HB3.out HX1.out.lt).cell 0
  simp only [List.getElem?_toArray, List.getElem?_cons_zero] at c0
  clear hb3 HG HB2
  have hkn : (k : Int) ≤ n := by omega
  go_wp2_with fail
  have h3 := (H1.out.below HB3.out).alloc (.cells (rcs ⟨c, 0, false⟩) 30)
  have hs3 := HB3.out.size
  have hs1 := HS.out
  have HI := Lib.hid (insert_c (w.heap.size + 1) k n c1 W3.heap.size A1 L HL.out hgk hn ⟨c, 0, false⟩ (W3.alloc (.cells (rcs ⟨c, 0, false⟩) 30)) (by simp; omega) h3 HZ1.out (fun a ha => by
    subst ha
    have := World.ownsRow.lt (H1.out.below HB3.out) a.block rfl
    omega) (heap_alloc_last W3 _))
  have HB4 : Hid (Below w.heap.size w (W3.alloc (.cells (rcs ⟨c, 0, false⟩) 30))) := (HB1.out.trans (HB3.out.mono HB1.out.size)).trans (((Below.refl _ _).alloc (Nat.le_refl _) _).mono (by omega))
  clear h3 c0 HZ1 H1 HR1 HX1 HB1 HB3
  refine HI.out.mono ?_
  rintro e W4 ⟨v4, rfl, h4, hb4⟩
  rw [HM.out] at h4
  have hlen : M.length = n + 1 := by
    have := HL.out
    rw [← HM.out]
    simp
    omega
  have hat : M[k]? = some ⟨c, 0, false⟩ := by
    have := HL.out
    rw [← HM.out, List.getElem?_append_right (by rw [List.length_take]; omega), List.length_take, Nat.min_eq_left (by omega)]
    simp
  obtain ⟨g, c4, rfl, hg⟩ := row_open h4 hlen (by omega)
  have HB5 := Lib.hid (HB4.out.trans (hb4.mono (by omega)))
  have HL4 := Lib.hid hlen
  have HA4 := Lib.hid hat
  have H4 := Lib.hid h4
  obtain ⟨hr1, _, hk4⟩ := row_at h4 hlen hat
  have HR4 := Lib.hid hr1
  have HY := Lib.hid (fun W => by_c ⟨c, 0, false⟩ (by simp) W)
  have hk5 : (k : Int) < n + 1 := by omega
  clear h4 hb4 hlen hat hr1 HI HB4 hs3 hs1 HS HM
  go_wp2_with (first | (refine ldrm rfl _ rfl _ _ ⟨c, 0, false⟩ rfl HR4.out ?_) | fail)
  refine (HY.out _).mono ?_
  rintro e W5 ⟨rfl, hb5⟩
  have H5 := Lib.hid (H4.out.below hb5)
  have HB6 := Lib.hid (HB5.out.trans (hb5.mono HB5.out.size))
  obtain ⟨_, hr5, _⟩ := row_at H5.out HL4.out HA4.out
  have HR5 := Lib.hid hr5
  clear hb5 hr5 H4 HB5 HR4 HY
  go_wp2_with (first | (refine stm rfl _ _ rfl g (k * 3) (bump ⟨c, 0, false⟩) rfl rfl HR5.out ?_) | fail)
  go_ret
  exact ⟨_, rfl, Rw.base_le (base := w.heap.size + 1) (base' := w.heap.size) (row_set (bump ⟨c, 0, false⟩) H5.out HL4.out hk4) (by omega), below_cells HB6.out (by omega) _ _⟩

/-- **change**, of records that rise. -/
theorem change_c (A : Option Addr) (n cp : Nat) (L : List R) (c : Int) (hL : L.length = n) (hn : n ≤ 1000) (hf : Few L) (hu : Rising L) (hz : n = 0 → A = none ∧ cp = 0) (w : World) (hA : Rcs w A L) :
    Calls Try.prog 23 #[.slice A n cp, .int .i64 c, .func (.func 24) #[] #[]] w fun e w' => ∃ v', e = .returned v' ∧ Row w' w.heap.size v' (put c L) ∧ Below w.heap.size w w' := by
  have hp := put_at (c := c) hu
  cases hr : L[at_ (eqB c) L]? with
  | some r =>
    rw [hr] at hp
    rw [hp]
    exact change_found A n cp L c hL hn hf hz r hr w hA
  | none =>
    rw [hr] at hp
    rw [hp]
    exact change_new A n cp L c hL hn hz (by have h1 := List.getElem?_eq_none_iff.1 hr; have h2 := at_le (eqB c) L; omega) w hA

/-- A list as the laws hold it: a row of the call's own, nil where it is empty. -/
structure Lst (W : World) (base : Nat) (A : Option Addr) (n cp : Nat) (L : List R) : Prop where
  row : Row W base (.slice A n cp) L
  len : L.length = n
  nil : n = 0 → A = none ∧ cp = 0
namespace Lst
variable {W W' : World} {base n cp : Nat} {A : Option Addr} {L : List R}
theorem below (h : Lst W base A n cp L) (hb : Below W.heap.size W W') : Lst W' base A n cp L := ⟨h.row.below hb, h.len, h.nil⟩
theorem rcs (h : Lst W base A n cp L) : Rcs W A L := by
  obtain ⟨A', c', e, _, hR⟩ := Row.form h.row
  injection e with e1 _ e2
  subst e1
  exact hR
theorem none (W : World) (base : Nat) : Lst W base none 0 0 [] := ⟨Rw.nil _ _ _ _ _, rfl, fun _ => ⟨rfl, rfl⟩⟩
theorem le {base' : Nat} (h : Lst W base A n cp L) (hb : base' ≤ base) : Lst W base' A n cp L := ⟨h.row.base_le hb, h.len, h.nil⟩
theorem cap (h : Lst W base A n cp L) : n ≤ cp := by
  obtain ⟨A', c', e, hc, _⟩ := Row.form h.row
  injection e with _ e1 e2
  omega
end Lst
theorem lst_of {W : World} {base : Nat} {v : Value} {L : List R} (h : Row W base v L) (hz : L.length = 0 → v = .slice none 0 0) : ∃ A cp, v = .slice A L.length cp ∧ Lst W base A L.length cp L := by
  obtain ⟨A, c, rfl, _, _⟩ := Row.form h
  refine ⟨A, c, rfl, h, rfl, fun h0 => ?_⟩
  have := hz h0
  injection this with e1 _ e2
  exact ⟨e1, e2⟩

theorem put_pos (c : Int) (L : List R) : (put c L).length ≠ 0 := fun h => put_ne c L (List.eq_nil_of_length_eq_zero h)
set_option maxRecDepth 100000 in
set_option maxHeartbeats 4000000 in
/-- **Raise**, of records that rise. -/
theorem raise_c (A : Option Addr) (n cp : Nat) (L : List R) (c : Int) (m : Nat) (hg : Fa.Good L m) (hm : m ≤ 1000) (w : World) (base : Nat) (h : Lst w base A n cp L) :
    Calls Try.prog 10 #[.slice A n cp, .int .i64 c] w fun e w' => ∃ A' cp', e = .returned (.tuple #[.slice A' (raise L c).length cp', .int .i64 (err c)]) ∧ Lst w' w.heap.size A' (raise L c).length cp' (raise L c) ∧ Below w.heap.size w w' := by
  have hn : n ≤ 1000 := by have := hg.len; have := h.len; omega
  by_cases hc : okC c = true
  · have hc2 : 1 ≤ c ∧ c ≤ 255 := of_decide_eq_true hc
    have H1 := Lib.hid (within_t hc2 w)
    have e1 : raise L c = put c L := if_pos hc
    have e2 : err c = 0 := if_pos hc
    rw [e1, e2]
    have H2 := Lib.hid (change_c A n cp L c h.len hn hg.few hg.up h.nil w h.rcs)
    clear h hg
    go_enter Try.func10, Try.ntmps10
    go_wp2_with (first | (go_at_call 21; refine H1.out.mono ?_; rintro e w' ⟨rfl, rfl⟩) | fail)
    refine H2.out.mono ?_
    rintro e W1 ⟨v', rfl, h1, hb1⟩
    obtain ⟨A', cp', rfl, h2⟩ := lst_of h1 (fun h => absurd h (put_pos c L))
    have H3 := Lib.hid h2
    have HB := Lib.hid hb1
    clear h1 h2 hb1 H1 H2
    go_wp2_with fail
    go_ret2
    exact ⟨A', cp', rfl, H3.out, HB.out⟩
  · have hc2 : ¬ (1 ≤ c ∧ c ≤ 255) := fun x => hc (decide_eq_true x)
    have H1 := Lib.hid (within_f hc2 w)
    have e1 : raise L c = L := if_neg hc
    have e2 : err c = 1 := if_neg hc
    rw [e1, e2]
    have H2 := Lib.hid (clone_c A n cp L h.len hn h.nil w h.rcs)
    have HL := Lib.hid h.len
    clear h hg
    go_enter Try.func10, Try.ntmps10
    go_wp2_with (first | (go_at_call 21; refine H1.out.mono ?_; rintro e w' ⟨rfl, rfl⟩) | fail)
    refine H2.out.mono ?_
    rintro e W1 ⟨v', rfl, h1, hz, hb1⟩
    obtain ⟨A', cp', rfl, h2⟩ := lst_of h1 (fun h => hz (by rw [← HL.out]; exact h))
    have H3 := Lib.hid h2
    have HB := Lib.hid hb1
    clear h1 h2 hb1 hz H1 H2
    go_wp2_with fail
    go_ret2
    exact ⟨A', cp', rfl, H3.out, HB.out⟩

/-- Results of which the first is a record in a cell. -/
theorem res2 {fn : Func} {p u : Tmp} (h : fn.results = #[.cell p 30, .tmp u]) (tmps : Array Value) (w : World) (g : Nat) (r : R) (hp : tmps.getD p undef = .pointer (some ⟨g, 0, none⟩)) (hP : w.heap[g]? = some (.cells (rcs r) 30 (0, 0))) :
    (results fn tmps).run Try.prog w = .ok (.tuple #[.agg (rcs r), tmps.getD u undef]) w := by
  rw [results_cell_tmp h, hp]
  simp [asAddr, run_loadVar_row (P := Try.prog) w g 30 30 (rcs r) (0, 0) _ hP Try.underlying30 rfl info_rs]
/-- A record's block, stored into. -/
theorem there_b {W : World} {g : Nat} {r : R} (h : W.heap[g]? = some (.cells (rcs r) 30 (0, 0))) : W.there g 0 3 := fun j hj => by
  rw [Nat.zero_add, Joins.cell_of_block h]
  refine ⟨?_, by simp [World.frozen?, h]⟩
  match j, hj with
  | 0, _ => rfl
  | 1, _ => rfl
  | 2, _ => rfl
theorem stored_b {W : World} {g : Nat} {r : R} (s : R) (h : W.heap[g]? = some (.cells (rcs r) 30 (0, 0))) : (W.setCells g 0 (rf_ s)).heap[g]? = some (.cells (rcs s) 30 (0, 0)) := by
  rw [setCells_row (rf_ s) W g 0 (rcs r) 30 h (Nat.le_refl 3)]
  exact setRow_heap W g (rcs r) _ _ _ h

theorem got_some {c : Int} {L : List R} {r : R} (h : L[at_ (eqB c) L]? = some r) : got c L = r ∧ has c L = true := by
  rw [← find_at] at h
  unfold got has
  rw [h]
  exact ⟨rfl, rfl⟩
theorem got_none {c : Int} {L : List R} (h : at_ (eqB c) L = L.length) : got c L = zero ∧ has c L = false := by
  have : find c L = none := by rw [find_at, h]; simp
  unfold got has
  rw [this]
  exact ⟨rfl, rfl⟩

set_option maxRecDepth 100000 in
set_option maxHeartbeats 4000000 in
/-- **Find**. -/
theorem find_c (A : Option Addr) (n cp : Nat) (L : List R) (c : Int) (hn : n ≤ 1000) (w : World) (base : Nat) (h : Lst w base A n cp L) :
    Calls Try.prog 13 #[.slice A n cp, .int .i64 c] w fun e w' => e = .returned (.tuple #[.agg (rcs (got c L)), .bool (has c L)]) ∧ Below w.heap.size w w' := by
  have hb := below_two w (.cells #[.int .i64 c] 3) (.cells (rcs zero) 30)
  have HX := Lib.hid ((BoxV.new w 3 #[.int .i64 c]).alloc (.cells (rcs zero) 30))
  have HZ := Lib.hid (heap_last2 w (.cells #[.int .i64 c] 3) (.cells (rcs zero) 30))
  have HC := Lib.hid (first_c A n cp 26 c (eqB c) (.inl ⟨rfl, rfl⟩) w.heap.size L h.len hn _ HX.out (h.rcs.below hb))
  have HB := Lib.hid hb
  have HL := Lib.hid h.len
  have hsz : ((w.alloc (.cells #[.int .i64 c] 3)).alloc (.cells (rcs zero) 30)).heap.size = w.heap.size + 2 := by simp
  have hk := at_le (eqB c) L
  have HR := Lib.hid h.rcs
  have HE : Hid ((∀ r, L[at_ (eqB c) L]? = some r → got c L = r ∧ has c L = true) ∧ (at_ (eqB c) L = L.length → got c L = zero ∧ has c L = false)) := ⟨fun r => got_some, got_none⟩
  obtain ⟨k, hkk⟩ : ∃ k, at_ (eqB c) L = k := ⟨_, rfl⟩
  rw [hkk] at HC hk HE
  rw [HL.out] at hk HE
  obtain ⟨x, hx⟩ : ∃ x, got c L = x := ⟨_, rfl⟩
  obtain ⟨y, hy⟩ : ∃ y, has c L = y := ⟨_, rfl⟩
  rw [hx, hy] at HE ⊢
  clear h hb hkk hx hy
  go_enter Try.func13, Try.ntmps13
  go_wp2_with fail
  refine HC.out.mono ?_
  rintro e W1 ⟨rfl, hb1⟩
  have HB1 := Lib.hid (HB.out.trans (hb1.mono (by omega)))
  have hz1 := (hb1.block (w.heap.size + 1) (by omega)).trans HZ.out
  have HZ1 := Lib.hid hz1
  have HT1 := Lib.hid (there_b hz1)
  clear hb1 hz1 HX HZ HC HB hsz
  by_cases hkn : k = n
  · subst hkn
    obtain ⟨rfl, rfl⟩ := HE.out.2 rfl
    clear HE
    go_wp2_with (first | (refine stm rfl _ _ rfl (w.heap.size + 1) 0 zero rfl rfl HT1.out ?_) | fail)
    have HP := Lib.hid (stored_b zero HZ1.out)
    refine bodyPost_ret (res2 rfl _ _ _ _ rfl HP.out) rfl ?_
    exact ⟨rfl, below_cells HB1.out (by omega) _ _⟩
  · obtain ⟨r, hr⟩ : ∃ r, L[k]? = some r := ⟨L[k]'(by rw [HL.out]; omega), List.getElem?_eq_getElem _⟩
    obtain ⟨rfl, rfl⟩ := HE.out.1 r hr
    obtain ⟨g, o, rfl, hg, hrg⟩ := HR.out k _ hr
    have HRg : Hid (W1.rangeAt g (o + k * 3) (rcs x).toList) := fun j v hv => (HB1.out.cell (p := ⟨g, o + k * 3 + j, none⟩) hg).trans (hrg j v hv)
    have hkn2 : (k : Int) < n := by omega
    have hkn3 : ((k : Int) == (n : Int)) = false := by simp; omega
    clear HE hr hrg hkn
    go_wp2_with (first | (refine ldrm rfl _ rfl _ _ x rfl HRg.out ?_) | (refine stm rfl _ _ rfl (w.heap.size + 1) 0 x rfl rfl HT1.out ?_) | fail)
    have HP := Lib.hid (stored_b x HZ1.out)
    refine bodyPost_ret (res2 rfl _ _ _ _ rfl HP.out) rfl ?_
    exact ⟨rfl, below_cells HB1.out (by omega) _ _⟩
end Fw
end Go.Proofs.Ytddkmaplficofaa
