/- Run: the closure that tells the cutoffs, one behind the other; the row of them. -/
import Derived.Test.YtdfihcbmojggoaaCutoffCalls
import Derived.Test.YtdfihcbmojggoaaOrdKit
import Derived.Deep.DeepCutAuto
import Derived.Deep.RegionHeld3
namespace Go.Proofs.Ytdfihcbmojggoaa
namespace Ow
open Go.RowKit Lk

theorem cuts_c (t k : Int) (w : World) :
    Calls Try.prog 13 #[.int .i64 t, .int .i64 k] w fun e w' => e = .returned (.func (.func 18) #[] #[.pointer (some ⟨w.heap.size, 0, none⟩), .pointer (some ⟨w.heap.size + 1, 0, none⟩), .pointer (some ⟨w.heap.size + 2, 0, none⟩)]) ∧
      ((w.alloc (io t)).alloc (io k)).alloc (co 0 false) = w' := by
  go_enter Try.func13, Try.ntmps13
  go_wp2
  go_ret
  exact ⟨rfl, rfl⟩

set_option maxRecDepth 100000 in
set_option maxHeartbeats 4000000 in
/-- The closure: the next cutoff. -/
theorem next_c {t k q a b p : Int} {s r u : Bool} (hp : Cu.cq t q a b = p) (hu : Cu.cs t k q s a b r = u) (b1 b2 b3 : Nat) (w : World) (h1 : w.heap[b1]? = some (io t)) (h2 : w.heap[b2]? = some (io k)) (h3 : w.heap[b3]? = some (co q s)) :
    Calls Try.prog 18 #[.agg (pc a b), .bool r, .pointer (some ⟨b1, 0, none⟩), .pointer (some ⟨b2, 0, none⟩), .pointer (some ⟨b3, 0, none⟩)] w fun e w' => e = .returned (.agg (cc p u)) ∧ Below b3 w w' ∧ w'.heap[b3]? = some (co p u) := by
  have l3 : b3 < w.heap.size := (Array.getElem?_eq_some_iff.1 h3).1
  have H0 : Hm b3 w w [(b1, io t), (b2, io k), (b3, co q s)] := ⟨fun e he => by
    simp only [List.mem_cons, List.not_mem_nil, or_false] at he
    rcases he with rfl | rfl | rfl
    · exact h1
    · exact h2
    · exact h3, Below.refl _ _, Nat.le_of_lt l3⟩
  have C := Lib.hid (fun W => step_v hp hu W)
  have HV := Lib.hid ((H0.made (po a b)).made (co 0 false))
  have c1 := Joins.cell_of_block (HV.out.has (b1, io t) (by simp)) 0
  have c2 := Joins.cell_of_block (HV.out.has (b2, io k) (by simp)) 0
  simp only [List.getElem?_toArray, List.getElem?_cons_zero] at c1 c2
  have hne : w.heap.size + 1 ≠ b3 := by omega
  have hle : b3 ≤ w.heap.size + 1 := by omega
  simp only [World.size_alloc] at HV
  clear H0 h1 h2 h3 hp hu
  go_enter Try.func18, Try.ntmps18
  go_wp2_with (first
    | (refine ldc rfl _ rfl b3 _ _ rfl (HV.out.has (b3, co q s) (.tail _ (.tail _ (.tail _ (.tail _ (.head _)))))) ?_)
    | (go_at_call 12; (with_reducible refine (C.out _).mono ?_); rintro e W ⟨rfl, hb⟩; replace HV := Lib.hid (HV.out.grow hb); clear hb c1 c2)
    | (refine stc rfl _ _ rfl rfl b3 q _ s _ rfl rfl (HV.out.has (b3, co q s) (.tail _ (.tail _ (.tail _ (.tail _ (.head _)))))) ?_; intro w2 hP hO; replace HV := Lib.hid (HV.out.turn hO hP [(w.heap.size + 1, co 0 false)] (by simp) (by simpa using hne) (Nat.le_refl _)); clear hP hO)
    | (refine ldc rfl _ rfl b3 _ _ rfl HV.out.head ?_)
    | (refine stc rfl _ _ rfl rfl (w.heap.size + 1) 0 _ false _ rfl rfl (HV.out.has (w.heap.size + 1, co 0 false) (.tail _ (.head _))) ?_; intro w3 hP hO; replace HV := Lib.hid (HV.out.turn hO hP [(b3, co p u)] (by simp) (by simpa using hne.symm) hle); clear hP hO)
    | fail)
  refine bodyPost_ret (res_c rfl _ _ _ _ _ rfl HV.out.head) rfl ?_
  exact ⟨rfl, HV.out.old, HV.out.has (b3, co p u) (by simp)⟩

theorem info_c2 : (Try.prog.info? 28).map (fun i => (i.zero, i.size, i.bytes)) = some (some (.agg #[.int .i64 0, .bool false]), 2, 16) := by kernel_rfl
/-- The cells of cutoffs of which the first k are laid. -/
def fw (c : Nat → Int × Bool) (k j : Nat) : Value := if j < 2 * k then (if j % 2 = 0 then .int .i64 (c (j / 2)).1 else .bool (c (j / 2)).2) else if j % 2 = 0 then .int .i64 0 else .bool false
theorem fw_step {c : Nat → Int × Bool} {k j : Nat} {p : Int} {u : Bool} (h : c k = (p, u)) : (if j = k * 2 + 1 then Value.bool u else if j = k * 2 then .int .i64 p else fw c k j) = fw c (k + 1) j := by
  unfold fw
  by_cases h1 : j = k * 2 + 1
  · subst h1
    rw [if_pos rfl, if_pos (by omega), if_neg (by omega), show (k * 2 + 1) / 2 = k by omega, h]
  rw [if_neg h1]
  by_cases h2 : j = k * 2
  · subst h2
    rw [if_pos rfl, if_pos (by omega), if_pos (by omega), show k * 2 / 2 = k by omega, h]
  rw [if_neg h2]
  by_cases h3 : j < 2 * k
  · rw [if_pos h3, if_pos (show j < 2 * (k + 1) by omega)]
  · rw [if_neg h3, if_neg (show ¬ j < 2 * (k + 1) by omega)]
section
variable {ops : Array Oper} {rest : List Oper} {op : Oper} {u : Act} {w : World} {Q : Exit → Act → World → Prop}
/-- Cutoffs that are made. -/
theorem make_c (hgd : op.guard = none) (x y : Operand) (ho : op.op = .makeSlice 25 x y) (m : Nat) (hm : m ≤ 1000) (hx : u.eval x = .int .i64 m) (hy : u.eval y = .int .i64 m)
    (c : ∀ W, (∀ f, W.rowIs w.heap.size 28 (2 * m) (fw f 0)) → Below w.heap.size w W → w.heap.size < W.heap.size → wpList Try.prog ops Q rest (u.put op.dst (.slice (some ⟨w.heap.size, 0, none⟩) m m)) W) : wpList Try.prog ops Q (op :: rest) u w := by
  obtain ⟨i, hi, hz0, hz1, hz2⟩ := info_parts info_c2
  refine wpList_plain hgd fun K hK => ?_
  have hrun := run_make (P := Try.prog) w 25 28 i _ Try.underlying25 hi hz0 .i64 .i64 m m (by omega) (Int.le_refl _) (by rw [hz2]; omega) (by omega)
  simp only [Int.toNat_natCast, hz1] at hrun
  unfold Oper.wp
  simp only [execOp, ho, hx, hy, hrun, Sem.run_bind, Result.andThen, Sem.run_pure]
  refine hK _ _ (c _ (fun f => ?_) ((Below.refl _ _).alloc (Nat.le_refl _) _) (by simp))
  have := World.rowIs_alloc w (madeCells (Value.cells (.agg #[.int .i64 0, .bool false])) (m * 2)) 28 (fw f 0) (fun i hi => by
    rw [size_madeCells] at hi
    have h2 : i % 2 = 0 ∨ i % 2 = 1 := by omega
    rcases h2 with h2 | h2 <;> simp [madeCells, hi, Value.cells, h2, fw])
  rw [size_madeCells, Nat.mul_comm] at this
  rw [Nat.mul_comm m 2]
  exact this
end
theorem row_there {W : World} {g o M : Nat} {f : Nat → Value} (h : W.rowIs g 28 M f) (ho : o + 2 ≤ M) : W.there g o 2 := fun j hj => ⟨by rw [h.cell (by omega)]; rfl, h.frozen _⟩
theorem row_put {W : World} {g o M : Nat} {f : Nat → Value} (h : W.rowIs g 28 M f) (p : Int) (u : Bool) :
    (W.setCells g o (cc p u).toList).rowIs g 28 M (fun j => if j = o + 1 then .bool u else if j = o then .int .i64 p else f j) ∧ Off g W (W.setCells g o (cc p u).toList) :=
  ⟨(h.set o (.int .i64 p)).set (o + 1) (.bool u), ((Off.refl g W).set o _).set (o + 1) _⟩

/-- What the walk of Run knows. -/
structure Rn (w W : World) (g B n : Nat) (t k : Int) (c : Nat → Int × Bool) (m : Nat) (q : Int) (s : Bool) : Prop where
  old : Below w.heap.size w W
  ge : w.heap.size ≤ g
  gb : g < B
  row : W.rowIs g 28 (2 * n) (fw c m)
  b1 : W.heap[B]? = some (io t)
  b2 : W.heap[B + 1]? = some (io k)
  b3 : W.heap[B + 2]? = some (co q s)
namespace Rn
variable {w W W' : World} {g B n m : Nat} {t k q p : Int} {s u : Bool} {c : Nat → Int × Bool}
theorem drew (h : Rn w W g B n t k c m q s) : Rn w W.drew g B n t k c m q s := ⟨h.old.drew, h.ge, h.gb, h.row.drew, h.b1, h.b2, h.b3⟩
theorem call (h : Rn w W g B n t k c m q s) (hb : Below (B + 2) W W') (hc : W'.heap[B + 2]? = some (co p u)) : Rn w W' g B n t k c m p u :=
  ⟨h.old.trans (hb.mono (by have := h.ge; have := h.gb; omega)), h.ge, h.gb, h.row.of_block (hb.block g (by have := h.gb; omega)), (hb.block B (by omega)).trans h.b1, (hb.block (B + 1) (by omega)).trans h.b2, hc⟩
theorem put (h : Rn w W g B n t k c m q s) (hc : c m = (q, s)) : Rn w (W.setCells g (m * 2) (cc q s).toList) g B n t k c (m + 1) q s := by
  obtain ⟨h1, h2⟩ := row_put (o := m * 2) h.row q s
  have hg := h.gb
  exact ⟨h.old.trans (h2.below h.ge), h.ge, h.gb, h1.congr fun _ _ => fw_step hc, (h2.block B (by omega)).trans h.b1, (h2.block (B + 1) (by omega)).trans h.b2, (h2.block (B + 2) (by omega)).trans h.b3⟩
theorem ct (h : Rn w W g B n t k c n q s) : Ct W g n c := by
  refine ⟨h.row.lt, fun m hm j v hv => ?_⟩
  have hj : j < 2 := (List.getElem?_eq_some_iff.1 hv).1
  rw [h.row.cell (by omega), fw, if_pos (by omega)]
  obtain rfl | rfl : j = 0 ∨ j = 1 := by omega
  · rw [if_pos (by omega), show (m * 2 + 0) / 2 = m by omega]
    exact hv
  · rw [if_neg (by omega), show (m * 2 + 1) / 2 = m by omega]
    exact hv
end Rn

theorem ord_r : Lk.orderedB (Lk.opsOf Try.f9 6) [(0, false), (1, false), (2, false), (3, false), (4, false), (5, false), (6, false), (7, false), (8, false), (9, false), (10, false), (11, false), (12, false), (13, false), (14, false), (15, false), (16, false), (17, true), (18, false), (19, true)] = true := by kernel_rfl
abbrev SP (g o m : Nat) (a b : Int) (V : World) : Prop := V.rangeAt g (o + m * 2) (pc a b).toList
abbrev SB (g o m : Nat) (r : Bool) (V : World) : Prop := V.cell? ⟨g, o + m, none⟩ = some (.bool r)

set_option maxRecDepth 100000 in
set_option maxHeartbeats 8000000 in
/-- **Run**. -/
theorem run_c (t k : Int) (A D : Option Addr) (n cp nr cq : Nat) (L : List (Int × Int)) (R : List Bool) (hn : L.length = n) (hr : R.length = nr) (hl : n ≤ 1000) (w : World) (hA : Prs w A L) (hD : Bls w D R) :
    Calls Try.prog 9 #[.int .i64 t, .int .i64 k, .slice A n cp, .slice D nr cq] w fun e w' => (∃ g, e = .returned (.slice (some ⟨g, 0, none⟩) n n) ∧ w.heap.size ≤ g ∧ Ct w' g n (fun m => Cu.st t k L R (m + 1))) ∧ Below w.heap.size w w' := by
  have HN := Lib.hid hn
  have HNr := Lib.hid hr
  have HA := Lib.hid hA
  have HD := Lib.hid hD
  clear hn hr hA hD
  go_enter Try.func9, Try.ntmps9
  go_wp2_with (first
    | (refine make_c rfl _ _ rfl n hl rfl rfl ?_; intro W1 hr1 hb1 hs1; have H1 := Lib.hid hr1; have HB1 := Lib.hid hb1; have HS1 := Lib.hid hs1; clear hr1 hb1 hs1)
    | (go_at_call 13; (with_reducible refine (cuts_c t k _).mono ?_); rintro e W2 ⟨rfl, hw2⟩)
    | fail)
  have HR : Hid (Rn w W2 w.heap.size W1.heap.size n t k (fun m => Cu.st t k L R (m + 1)) 0 0 false) := by
    have h1 := (H1.out (fun m => Cu.st t k L R (m + 1)))
    have hb := HB1.out
    have hs := HS1.out
    have x1 : ((W1.alloc (io t)).alloc (io k)).alloc (co 0 false) = W2 := hw2
    subst x1
    refine Lib.hid ⟨((hb.alloc hb.size _).alloc (by simp; omega) _).alloc (by simp; omega) _, Nat.le_refl _, hs, ((h1.alloc _).alloc _).alloc _, ?_, ?_, ?_⟩
    · exact ((Below.refl (W1.heap.size + 1) _).alloc (by simp) _).alloc (by simp) _ |>.block _ (by omega) |>.trans (heap_alloc_last W1 _)
    · have := heap_alloc_last (W1.alloc (io t)) (io k)
      simp only [World.size_alloc] at this
      exact ((Below.refl (W1.heap.size + 2) _).alloc (by simp) _ |>.block _ (by omega)).trans this
    · have := heap_alloc_last ((W1.alloc (io t)).alloc (io k)) (co 0 false)
      simp only [World.size_alloc] at this
      exact this
  generalize w.heap.size = g at *
  generalize W1.heap.size = B at *
  clear H1 HB1 HS1 hw2
  go_loopw [11, 20] (fun _ i wr => ∃ m : Nat, m ≤ n ∧ i = .int .i64 m ∧ Rn w wr g B n t k (fun m => Cu.st t k L R (m + 1)) m (Cu.st t k L R m).1 (Cu.st t k L R m).2) (fun _ i _ => n - (intOf i).toNat)
  case atStart => exact ⟨0, Nat.zero_le _, rfl, HR.out⟩
  case round =>
    clear HR
    obtain ⟨m, hm, rfl, hw⟩ := hrel
    have HR := Lib.hid hw
    clear hw
    by_cases hlt : m < n
    · have hlt2 : (m : Int) < n := by omega
      obtain ⟨⟨a, b⟩, hp⟩ : ∃ p, L[m]? = some p := ⟨L[m]'(by rw [HN.out]; exact hlt), List.getElem?_eq_getElem _⟩
      obtain ⟨ga, oa, rfl, hga, hra⟩ := HA.out m (a, b) hp
      have HPa : Hid (∀ V, Below w.heap.size w V → SP ga oa m a b V) := Lib.hid (fun V hV j v hv => (hV.cell (p := ⟨ga, oa + m * 2 + j, none⟩) hga).trans (hra j v hv))
      obtain ⟨rv, hrv⟩ : ∃ rv, R.getD m false = rv := ⟨_, rfl⟩
      obtain ⟨q, hq⟩ : ∃ q, (Cu.st t k L R m).1 = q := ⟨_, rfl⟩
      obtain ⟨s, hs⟩ : ∃ s, (Cu.st t k L R m).2 = s := ⟨_, rfl⟩
      obtain ⟨p, hcq⟩ : ∃ p, Cu.cq t q a b = p := ⟨_, rfl⟩
      obtain ⟨u, hcu⟩ : ∃ u, Cu.cs t k q s a b rv = u := ⟨_, rfl⟩
      have hst : Cu.st t k L R (m + 1) = (p, u) := by
        have e1 : L.getD m (0, 0) = (a, b) := by rw [List.getD_eq_getElem?_getD, hp]; rfl
        rw [Cu.st, e1, hrv, Cu.stp, hq, hs, hcq, hcu]
      have HC : Hid ((fun m => Cu.st t k L R (m + 1)) m = (p, u)) := Lib.hid hst
      have C : Hid (∀ (W : World), W.heap[B]? = some (io t) → W.heap[B + 1]? = some (io k) → W.heap[B + 2]? = some (co q s) → Calls Try.prog 18 #[.agg (pc a b), .bool rv, .pointer (some ⟨B, 0, none⟩), .pointer (some ⟨B + 1, 0, none⟩), .pointer (some ⟨B + 2, 0, none⟩)] W fun e w' => e = .returned (.agg (Ow.cc p u)) ∧ Below (B + 2) W w' ∧ w'.heap[B + 2]? = some (co p u)) := Lib.hid (fun W h1 h2 h3 => next_c hcq hcu B (B + 1) (B + 2) W h1 h2 h3)
      rw [hq, hs] at HR
      have h1 : (Cu.st t k L R (m + 1)).1 = p := by rw [hst]
      have h2 : (Cu.st t k L R (m + 1)).2 = u := by rw [hst]
      have HQ := Lib.hid h1
      have HU := Lib.hid h2
      clear hp hra hcq hcu hst hq hs h1 h2
      by_cases hmr : m < nr
      · have hmr2 : (m : Int) < nr := by omega
        obtain ⟨x, hx⟩ : ∃ x, R[m]? = some x := ⟨R[m]'(by rw [HNr.out]; exact hmr), List.getElem?_eq_getElem _⟩
        obtain rfl : x = rv := by rw [← hrv, List.getD_eq_getElem?_getD, hx]; rfl
        obtain ⟨gb, ob, rfl, hgb, hrb⟩ := HD.out m x hx
        have HBa : Hid (∀ V, Below w.heap.size w V → SB gb ob m x V) := Lib.hid (fun V hV => (hV.cell (p := ⟨gb, ob + m, none⟩) hgb).trans hrb)
        clear hx hrb hrv
        go_upto_region 6 with fail
        refine wp_region_noPanic (Lk.wp_region_ordered ord_r (fun V => SP ga oa m a b V ∧ SB gb ob m x V) (by kernel_rfl) (by kernel_rfl) (fun _ _ _ _ _ h => h) (by first | (with_reducible exact ⟨HPa.out _ HR.out.old, HBa.out _ HR.out.old⟩) | (with_reducible exact ⟨HPa.out _ HR.out.drew.old, HBa.out _ HR.out.drew.old⟩)) ?_)
        replace HR := Lib.hid HR.out.drew
        iterate 17 (refine Lk.ord_take ?_ rfl rfl ?_ ?_; rotate_left; (focus (intro w' hS; obtain ⟨s1, s2⟩ := hS; first | (refine (rP _ rfl _ _ rfl s1).trans ?_; with_reducible rfl) | (go_simp; try with_reducible rfl))); simp only [Act.put, List.setIfInBounds_toArray, List.set_cons_zero, List.set_cons_succ])
        refine Lk.ord_step rfl rfl (fun K hK => ?_)
        go_simp
        (with_reducible refine (C.out _ HR.out.b1 HR.out.b2 HR.out.b3).mono ?_)
        rintro e W3 ⟨rfl, hb3, hc3⟩
        replace HR := Lib.hid (HR.out.call hb3 hc3)
        clear hb3 hc3 C
        refine hK.out _ _ (by first | (with_reducible exact ⟨HPa.out _ HR.out.old, HBa.out _ HR.out.old⟩) | (with_reducible exact ⟨HPa.out _ HR.out.drew.old, HBa.out _ HR.out.drew.old⟩)) ?_
        clear hK K
        try simp only [Act.put, List.setIfInBounds_toArray, List.set_cons_zero, List.set_cons_succ]
        iterate 1 (refine Lk.ord_take ?_ rfl rfl ?_ ?_; rotate_left; (focus (intro w' hS; obtain ⟨s1, s2⟩ := hS; first | (go_simp; try with_reducible rfl))); simp only [Act.put, List.setIfInBounds_toArray, List.set_cons_zero, List.set_cons_succ])
        refine Lk.ord_step rfl rfl (fun K hK => ?_)
        refine wp_store_mid 28 _ _ rfl g (m * 2) (Ow.cc p u) rfl rfl (row_there HR.out.row (by omega)) info_c (by simp [Value.oneCell']) ?_
        replace HR := Lib.hid (HR.out.put HC.out)
        refine hK.out _ _ (by first | (with_reducible exact ⟨HPa.out _ HR.out.old, HBa.out _ HR.out.old⟩) | (with_reducible exact ⟨HPa.out _ HR.out.drew.old, HBa.out _ HR.out.drew.old⟩)) ?_
        clear hK K
        generalize W3.setCells g (m * 2) (Ow.cc p u).toList = W4 at *
        refine Lk.ord_nil (NoPanic.normal ?_)
        go_wp2_with fail
        go_roundw
        case rel => exact ⟨m + 1, by omega, by go_num, by rw [HQ.out, HU.out]; exact HR.out⟩
        case measure => simp only [intOf, Int.toNat_natCast]; omega
      · have hmr2 : decide ((m : Int) < nr) = false := decide_eq_false (by omega)
        obtain rfl : false = rv := by rw [← hrv, List.getD_eq_getElem?_getD, List.getElem?_eq_none (by rw [HNr.out]; omega)]; rfl
        clear hrv
        go_upto_region 6 with fail
        refine wp_region_noPanic (Lk.wp_region_ordered ord_r (SP ga oa m a b) (by kernel_rfl) (by kernel_rfl) (fun _ _ _ _ _ h => h) (by first | (with_reducible exact HPa.out _ HR.out.old) | (with_reducible exact HPa.out _ HR.out.drew.old)) ?_)
        replace HR := Lib.hid HR.out.drew
        iterate 12 (refine Lk.ord_take ?_ rfl rfl ?_ ?_; rotate_left; (focus (intro w' hS; have s1 := hS; clear hS; first | (refine (rP _ rfl _ _ rfl s1).trans ?_; with_reducible rfl) | (go_simp; try with_reducible rfl))); simp only [Act.put, List.setIfInBounds_toArray, List.set_cons_zero, List.set_cons_succ])
        iterate 4 (refine Lk.ord_skip rfl rfl ?_; simp only [Act.put, List.setIfInBounds_toArray, List.set_cons_zero, List.set_cons_succ])
        iterate 1 (refine Lk.ord_take ?_ rfl rfl ?_ ?_; rotate_left; (focus (intro w' hS; have s1 := hS; clear hS; first | (go_simp; try with_reducible rfl))); simp only [Act.put, List.setIfInBounds_toArray, List.set_cons_zero, List.set_cons_succ])
        refine Lk.ord_step rfl rfl (fun K hK => ?_)
        go_simp
        (with_reducible refine (C.out _ HR.out.b1 HR.out.b2 HR.out.b3).mono ?_)
        rintro e W3 ⟨rfl, hb3, hc3⟩
        replace HR := Lib.hid (HR.out.call hb3 hc3)
        clear hb3 hc3 C
        refine hK.out _ _ (by first | (with_reducible exact HPa.out _ HR.out.old) | (with_reducible exact HPa.out _ HR.out.drew.old)) ?_
        clear hK K
        try simp only [Act.put, List.setIfInBounds_toArray, List.set_cons_zero, List.set_cons_succ]
        iterate 1 (refine Lk.ord_take ?_ rfl rfl ?_ ?_; rotate_left; (focus (intro w' hS; have s1 := hS; clear hS; first | (go_simp; try with_reducible rfl))); simp only [Act.put, List.setIfInBounds_toArray, List.set_cons_zero, List.set_cons_succ])
        refine Lk.ord_step rfl rfl (fun K hK => ?_)
        refine wp_store_mid 28 _ _ rfl g (m * 2) (Ow.cc p u) rfl rfl (row_there HR.out.row (by omega)) info_c (by simp [Value.oneCell']) ?_
        replace HR := Lib.hid (HR.out.put HC.out)
        refine hK.out _ _ (by first | (with_reducible exact HPa.out _ HR.out.old) | (with_reducible exact HPa.out _ HR.out.drew.old)) ?_
        clear hK K
        generalize W3.setCells g (m * 2) (Ow.cc p u).toList = W4 at *
        refine Lk.ord_nil (NoPanic.normal ?_)
        go_wp2_with fail
        go_roundw
        case rel => exact ⟨m + 1, by omega, by go_num, by rw [HQ.out, HU.out]; exact HR.out⟩
        case measure => simp only [intOf, Int.toNat_natCast]; omega
    · obtain rfl : m = n := by omega
      go_wp2_with fail
      go_ret
      exact ⟨⟨g, rfl, HR.out.ge, HR.out.ct⟩, HR.out.old⟩
end Ow
end Go.Proofs.Ytdfihcbmojggoaa
