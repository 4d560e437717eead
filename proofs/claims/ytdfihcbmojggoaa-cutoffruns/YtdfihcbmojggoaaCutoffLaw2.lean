/- The walk of CutoffRuns. -/
import Derived.Test.YtdfihcbmojggoaaCutoffAwake
import Derived.Test.YtdfihcbmojggoaaHeldWp
import Derived.BigQuiet
namespace Go.Proofs.Ytdfihcbmojggoaa
namespace Ow
open Go.RowKit Lk

/-- What the walk knows: the cutoffs of the Run, and the one that is told beside them. -/
structure Rl (w W : World) (g M n : Nat) (c : Nat → Int × Bool) (q : Int) (s : Bool) : Prop where
  old : Below w.heap.size w W
  ct : Ct W g n c
  cur : W.heap[M]? = some (co q s)
  ge : w.heap.size ≤ M
  ne : g ≠ M
namespace Rl
variable {w W W' : World} {g M n : Nat} {c : Nat → Int × Bool} {q p : Int} {s u : Bool}
theorem drew (h : Rl w W g M n c q s) : Rl w W.drew g M n c q s := ⟨h.old.drew, ⟨h.ct.lt, h.ct.has⟩, h.cur, h.ge, h.ne⟩
theorem grow (h : Rl w W g M n c q s) (hb : Below W.heap.size W W') : Rl w W' g M n c q s :=
  ⟨h.old.trans (hb.mono h.old.size), h.ct.grow hb, (hb.block M (Array.getElem?_eq_some_iff.1 h.cur).1).trans h.cur, h.ge, h.ne⟩
theorem turn (h : Rl w W g M n c q s) (ho : Off M W W') (hc : W'.heap[M]? = some (co p u)) : Rl w W' g M n c p u :=
  ⟨h.old.trans (ho.below h.ge), h.ct.off ho h.ne, hc, h.ge, h.ne⟩
end Rl
theorem heldQ_skip {P : Program} {ops : Array Oper} {S : World → Prop} {Lq : Act → Prop} {o : Oper} {rest : List Oper} {a : Act} (hw : Region.wanted o (yielded ops a.tmps) = false)
    (k : Lk.wpHeldQ P ops S Lq rest (a.put o.dst undef)) : Lk.wpHeldQ P ops S Lq (o :: rest) a := ⟨undef, .inr ⟨hw, rfl⟩, k⟩
abbrev SM (M : Nat) (q : Int) (s : Bool) (ga oa m : Nat) (a b : Int) (V : World) : Prop := V.heap[M]? = some (co q s) ∧ V.cell? ⟨ga, oa + m * 2, none⟩ = some (.int .i64 a) ∧ V.cell? ⟨ga, oa + m * 2 + 1, none⟩ = some (.int .i64 b)

theorem ord_q : Lk.orderedB (Lk.opsOf Try.f3 10) [(0, false), (1, false), (2, false), (3, false), (4, false), (5, false), (6, false), (7, false), (8, false), (9, false), (10, false), (11, false)] = true := by kernel_rfl
abbrev SQ (g m M : Nat) (p : Int) (u : Bool) (V : World) : Prop := V.rangeAt g (m * 2) (cc p u).toList ∧ V.heap[M]? = some (co p u)
set_option maxRecDepth 100000 in
set_option maxHeartbeats 8000000 in
theorem runs_go (t k : Int) (A D : Option Addr) (n cp nr cq : Nat) (L : List (Int × Int)) (R : List Bool) (hn : L.length = n) (hr : R.length = nr) (w : World) (hA : Prs w A L) (hD : Bls w D R) :
    Calls Try.prog 3 #[.int .i64 t, .int .i64 k, .slice A n cp, .slice D nr cq] w fun e w' => e = .returned (.bool true) ∧ Below w.heap.size w w' := by
  have AW := Lib.hid (fun W => awake_c W)
  have HB := Lib.hid (Below.refl w.heap.size w)
  by_cases h200 : n ≤ 200
  · have k2 : decide ((200 : Int) < n) = false := decide_eq_false (by omega)
    have CW : Hid (∀ W, Below w.heap.size w W → Calls Try.prog 9 #[.int .i64 t, .int .i64 k, .slice A n cp, .slice D nr cq] W fun e w' => (∃ g, e = .returned (.slice (some ⟨g, 0, none⟩) n n) ∧ W.heap.size ≤ g ∧ Ct w' g n (fun m => Cu.st t k L R (m + 1))) ∧ Below W.heap.size W w') := Lib.hid (fun W hW => run_c t k A D n cp nr cq L R hn hr (by omega) W (hA.below hW) (hD.below hW))
    have HA := Lib.hid hA
    have HD := Lib.hid hD
    have HN := Lib.hid hn
    have HNr := Lib.hid hr
    clear hA hD hn hr
    go_enter Try.func3, Try.ntmps3
    go_upto_region 5 with (first
      | (go_at_call 8; (with_reducible refine (AW.out _).mono ?_); rintro e W ⟨rfl, hb⟩; replace HB := Lib.hid (HB.out.trans (hb.mono HB.out.size)); clear hb)
      | (go_at_call 9; (with_reducible refine (CW.out _ HB.out).mono ?_); rintro e W ⟨⟨g, rfl, hg, hc⟩, hb⟩; replace HB := Lib.hid (HB.out.trans (hb.mono HB.out.size)); have HC := Lib.hid hc; clear hb hg hc CW)
      | fail)
    have HR : Hid (Rl w (W.alloc (co 0 false)) g W.heap.size n (fun m => Cu.st t k L R (m + 1)) 0 false) :=
      Lib.hid ⟨HB.out.alloc HB.out.size _, HC.out.grow ((Below.refl _ _).alloc (Nat.le_refl _) _), heap_alloc_last W _, HB.out.size, Nat.ne_of_lt HC.out.lt⟩
    clear HC HB AW
    go_upto_region 6 with fail
    generalize W.heap.size = M at *
    go_wp2_with fail
    go_loopw [12] (fun i wr => ∃ m : Nat, m ≤ n ∧ i = .int .i64 m ∧ Rl w wr g M n (fun m => Cu.st t k L R (m + 1)) (Cu.st t k L R m).1 (Cu.st t k L R m).2) (fun i _ => n - (intOf i).toNat)
    case atStart => exact ⟨0, Nat.zero_le _, rfl, HR.out⟩
    case round =>
      clear HR
      obtain ⟨m, hm, rfl, hw⟩ := hrel
      have HR := Lib.hid hw
      clear hw
      by_cases hlt : m < n
      · have hlt2 : (m : Int) < n := by omega
        have hlt3 : decide (n ≤ m) = false := decide_eq_false (by omega)
        obtain ⟨⟨a, b⟩, hp⟩ : ∃ p, L[m]? = some p := ⟨L[m]'(by rw [HN.out]; exact hlt), List.getElem?_eq_getElem _⟩
        obtain ⟨ga, oa, rfl, hga, hra⟩ := HA.out m (a, b) hp
        have HPa : Hid (∀ V, Below w.heap.size w V → V.cell? ⟨ga, oa + m * 2, none⟩ = some (.int .i64 a) ∧ V.cell? ⟨ga, oa + m * 2 + 1, none⟩ = some (.int .i64 b)) := Lib.hid (fun V hV => two_cells (fun j v hv => (hV.cell (p := ⟨ga, oa + m * 2 + j, none⟩) hga).trans (hra j v hv)))
        obtain ⟨rv, hrv⟩ : ∃ rv, R.getD m false = rv := ⟨_, rfl⟩
        obtain ⟨q, hq⟩ : ∃ q, (Cu.st t k L R m).1 = q := ⟨_, rfl⟩
        obtain ⟨s, hs⟩ : ∃ s, (Cu.st t k L R m).2 = s := ⟨_, rfl⟩
        obtain ⟨p, hcq⟩ : ∃ p, Cu.cq t q a b = p := ⟨_, rfl⟩
        obtain ⟨u, hcu⟩ : ∃ u, Cu.cs t k q s a b rv = u := ⟨_, rfl⟩
        have hst : Cu.st t k L R (m + 1) = (p, u) := by
          have e1 : L.getD m (0, 0) = (a, b) := by rw [List.getD_eq_getElem?_getD, hp]; rfl
          rw [Cu.st, e1, hrv, Cu.stp, hq, hs, hcq, hcu]
        have HC : Hid ((fun m => Cu.st t k L R (m + 1)) m = (p, u)) := Lib.hid hst
        have C : Hid (∀ W, Calls Try.prog 10 #[.int .i64 t, .int .i64 k, .agg (cc q s), .int .i64 a, .int .i64 b, .bool rv] W fun e w' => e = .returned (.agg (cc p u)) ∧ Below W.heap.size W w') := Lib.hid (fun W => rstep_v hcq hcu W)
        rw [hq, hs] at HR
        have h1 : (Cu.st t k L R (m + 1)).1 = p := by rw [hst]
        have h2 : (Cu.st t k L R (m + 1)).2 = u := by rw [hst]
        have HQ := Lib.hid h1
        have HU := Lib.hid h2
        clear hp hra hcq hcu hst hq hs h1 h2
        by_cases hmr : m < nr
        · have hmr2 : (m : Int) < nr := by omega
          obtain ⟨x, hx⟩ : ∃ x, R[m]? = some x := ⟨R[m]'(by rw [HNr.out]; exact hmr), List.getElem?_eq_getElem _⟩
          obtain rfl : x = rv := by rw [← hrv, List.getD_eq_getElem?_getD, hx]; rfl
          obtain ⟨gb, ob, rfl, hgb, hrb⟩ := HD.out m x hx
          have HBa : Hid (∀ V, Below w.heap.size w V → SB gb ob m x V) := Lib.hid (fun V hV => (hV.cell (p := ⟨gb, ob + m, none⟩) hgb).trans hrb)
          clear hx hrb hrv
          go_upto_region 9 with fail
          refine wp_region_noPanic (Lk.wp_region_ord 23 (fun V => SM M q s ga oa m a b V ∧ SB gb ob m x V) (by kernel_rfl) (by kernel_rfl) (fun _ _ _ _ _ h => h) ⟨⟨HR.out.drew.cur, HPa.out _ HR.out.drew.old⟩, HBa.out _ HR.out.drew.old⟩ ?_)
          replace HR := Lib.hid HR.out.drew
          simp only [List.take_succ_cons, List.take_zero, List.drop_succ_cons, List.drop_zero]
          iterate 23 (refine Lk.wpHeldQ_step ?_ rfl ?_ ?_; rotate_left; (focus (intro w' hS; obtain ⟨⟨s1, s2, s3⟩, s4⟩ := hS; first | (refine (rC _ rfl _ rfl s1).trans ?_; with_reducible rfl) | (go_simp; try with_reducible rfl))); simp only [Act.put, List.setIfInBounds_toArray, List.set_cons_zero, List.set_cons_succ])
          show Lk.wpSeqQ _ _ _ _ _ _ _
          refine Lk.wpSeqQ_step rfl (fun K hK => ?_)
          have HK := Lib.hid hK
          clear hK
          go_simp
          refine (C.out _).mono ?_
          rintro e W2 ⟨rfl, hb⟩
          replace HR := Lib.hid (HR.out.grow hb)
          clear hb C
          refine HK.out _ _ (.inr ⟨⟨HR.out.cur, HPa.out _ HR.out.old⟩, HBa.out _ HR.out.old⟩) ?_
          clear HK K
          try simp only [Act.put, List.setIfInBounds_toArray, List.set_cons_zero, List.set_cons_succ]
          refine Lk.wpSeqQ_step rfl (fun K hK => ?_)
          refine wp_store_row 28 _ _ rfl M (Ow.cc p u) rfl rfl 28 (Ow.cc q s) HR.out.cur info_c rfl (by simp [Value.oneCell']) ?_
          replace HR := Lib.hid (HR.out.turn (Off.row _ M (Ow.cc p u)) (setRow_heap _ M (Ow.cc q s) (Ow.cc p u) 28 (0, 0) HR.out.cur))
          refine hK _ _ (.inl rfl) ?_
          clear hK K
          refine Lk.wpSeqQ_nil ?_
          refine NoPanic.normal ?_
          generalize W2.setRow M (Ow.cc p u) = W3 at *
          clear W2 hmr hmr2 HBa HPa
          go_upto_region 10 with fail
          refine wp_region_noPanic (Lk.wp_region_ordered ord_q (SQ g m M p u) (by kernel_rfl) (by kernel_rfl) (fun _ _ _ _ _ h => h) ⟨HR.out.drew.ct.at_ hlt HC.out, HR.out.drew.cur⟩ ?_)
          replace HR := Lib.hid HR.out.drew
          iterate 12 (refine Lk.ord_take ?_ rfl rfl ?_ ?_; rotate_left; (focus (intro w' hS; obtain ⟨s1, s2⟩ := hS; first | (refine (rM _ rfl _ _ rfl s1).trans ?_; with_reducible rfl) | (refine (rC _ rfl _ rfl s2).trans ?_; with_reducible rfl) | (refine (rN _ _ rfl rfl rfl).trans ?_; with_reducible rfl) | (go_simp; try with_reducible rfl))); simp only [Act.put, List.setIfInBounds_toArray, List.set_cons_zero, List.set_cons_succ])
          refine Lk.ord_nil (NoPanic.normal ?_)
          go_wp2_with fail
          go_roundw
          case rel => exact ⟨m + 1, by omega, by go_num, by rw [HQ.out, HU.out]; exact HR.out⟩
          case measure => simp only [intOf, Int.toNat_natCast]; omega
        · have hmr2 : decide ((m : Int) < nr) = false := decide_eq_false (by omega)
          obtain rfl : false = rv := by rw [← hrv, List.getD_eq_getElem?_getD, List.getElem?_eq_none (by rw [HNr.out]; omega)]; rfl
          clear hrv
          go_upto_region 9 with fail
          refine wp_region_noPanic (Lk.wp_region_ord 23 (SM M q s ga oa m a b) (by kernel_rfl) (by kernel_rfl) (fun _ _ _ _ _ h => h) ⟨HR.out.drew.cur, HPa.out _ HR.out.drew.old⟩ ?_)
          replace HR := Lib.hid HR.out.drew
          simp only [List.take_succ_cons, List.take_zero, List.drop_succ_cons, List.drop_zero]
          iterate 18 (refine Lk.wpHeldQ_step ?_ rfl ?_ ?_; rotate_left; (focus (intro w' hS; obtain ⟨s1, s2, s3⟩ := hS; first | (refine (rC _ rfl _ rfl s1).trans ?_; with_reducible rfl) | (go_simp; try with_reducible rfl))); simp only [Act.put, List.setIfInBounds_toArray, List.set_cons_zero, List.set_cons_succ])
          iterate 4 (refine heldQ_skip rfl ?_; simp only [Act.put, List.setIfInBounds_toArray, List.set_cons_zero, List.set_cons_succ])
          iterate 1 (refine Lk.wpHeldQ_step ?_ rfl ?_ ?_; rotate_left; (focus (intro w' hS; (go_simp; try with_reducible rfl))); simp only [Act.put, List.setIfInBounds_toArray, List.set_cons_zero, List.set_cons_succ])
          show Lk.wpSeqQ _ _ _ _ _ _ _
          refine Lk.wpSeqQ_step rfl (fun K hK => ?_)
          have HK := Lib.hid hK
          clear hK
          go_simp
          refine (C.out _).mono ?_
          rintro e W2 ⟨rfl, hb⟩
          replace HR := Lib.hid (HR.out.grow hb)
          clear hb C
          refine HK.out _ _ (.inr ⟨HR.out.cur, HPa.out _ HR.out.old⟩) ?_
          clear HK K
          try simp only [Act.put, List.setIfInBounds_toArray, List.set_cons_zero, List.set_cons_succ]
          refine Lk.wpSeqQ_step rfl (fun K hK => ?_)
          refine wp_store_row 28 _ _ rfl M (Ow.cc p u) rfl rfl 28 (Ow.cc q s) HR.out.cur info_c rfl (by simp [Value.oneCell']) ?_
          replace HR := Lib.hid (HR.out.turn (Off.row _ M (Ow.cc p u)) (setRow_heap _ M (Ow.cc q s) (Ow.cc p u) 28 (0, 0) HR.out.cur))
          refine hK _ _ (.inl rfl) ?_
          clear hK K
          refine Lk.wpSeqQ_nil ?_
          refine NoPanic.normal ?_
          generalize W2.setRow M (Ow.cc p u) = W3 at *
          clear W2 hmr hmr2 HPa
          go_upto_region 10 with fail
          refine wp_region_noPanic (Lk.wp_region_ordered ord_q (SQ g m M p u) (by kernel_rfl) (by kernel_rfl) (fun _ _ _ _ _ h => h) ⟨HR.out.drew.ct.at_ hlt HC.out, HR.out.drew.cur⟩ ?_)
          replace HR := Lib.hid HR.out.drew
          iterate 12 (refine Lk.ord_take ?_ rfl rfl ?_ ?_; rotate_left; (focus (intro w' hS; obtain ⟨s1, s2⟩ := hS; first | (refine (rM _ rfl _ _ rfl s1).trans ?_; with_reducible rfl) | (refine (rC _ rfl _ rfl s2).trans ?_; with_reducible rfl) | (refine (rN _ _ rfl rfl rfl).trans ?_; with_reducible rfl) | (go_simp; try with_reducible rfl))); simp only [Act.put, List.setIfInBounds_toArray, List.set_cons_zero, List.set_cons_succ])
          refine Lk.ord_nil (NoPanic.normal ?_)
          go_wp2_with fail
          go_roundw
          case rel => exact ⟨m + 1, by omega, by go_num, by rw [HQ.out, HU.out]; exact HR.out⟩
          case measure => simp only [intOf, Int.toNat_natCast]; omega
      · obtain rfl : m = n := by omega
        go_wp2_with fail
        go_ret
        exact ⟨rfl, HR.out.old⟩
  · have k2 : decide ((200 : Int) < n) = true := decide_eq_true (by omega)
    clear hA hD hn hr h200
    go_enter Try.func3, Try.ntmps3
    go_wp2_with (first
      | (go_at_call 8; (with_reducible refine (AW.out _).mono ?_); rintro e W ⟨rfl, hb⟩; replace HB := Lib.hid (HB.out.trans (hb.mono HB.out.size)); clear hb)
      | fail)
    go_ret
    exact ⟨rfl, HB.out⟩

theorem CutoffRuns_walk (t k : Int) (A : Option Addr) (L : List (Int × Int)) (c : Nat) (D : Option Addr) (R : List Bool) (d : Nat) (w : World) (hA : Prs w A L) (hD : Bls w D R) :
    Calls Try.prog 3 #[.int .i64 t, .int .i64 k, .slice A L.length c, .slice D R.length d] w fun e w' => e = .returned (.bool true) ∧ Below w.heap.size w w' := runs_go t k A D _ c _ d L R rfl rfl w hA hD
end Ow
end Go.Proofs.Ytdfihcbmojggoaa
