/- Contracts of the document's own answers for layer 3: Check. -/
import Derived.Test.YthjefnkgfmkijaaGridAt
import Derived.Deep.RegionHeld3
import Derived.Test.YthjefnkgfmkijaaGridKit
namespace Go.Proofs.Ythjefnkgfmkijaa
namespace GridC
open Go.RowKit TabC

set_option maxRecDepth 100000 in
set_option maxHeartbeats 4000000 in
theorem grcheck_len (A B : Option Addr) (ca cb : Nat) (zs : List Int) (n : Nat) (T : Nat → Tv) (w : World) (h : zs.length < 1 ∨ 8 < zs.length ∨ n ≠ zs.length) :
    Calls Try.prog 14 #[.agg #[.slice A zs.length ca, .slice B n cb]] w fun e w' => e = .returned (.int .i64 (Gd.err zs n (X T) (Y T))) ∧ Below w.heap.size w w' := by
  have E := Lib.hid (Gd.err_30 (zs := zs) (n := n) (X := X T) (Y := Y T) (fun k => by have := k.one; have := k.most; have := k.same; omega))
  by_cases h1 : zs.length < 1
  · clear h
    have d1 : decide ((zs.length : Int) < 1) = true := by simp; omega
    go_enter Try.func14, Try.ntmps14
    go_wp2_with fail
    go_ret
    exact ⟨ret_int E.out.symm, (Below.refl _ _).alloc (Nat.le_refl _) _⟩
  · have d1 : decide ((zs.length : Int) < 1) = false := by simp; omega
    by_cases h2 : 8 < zs.length
    · clear h
      have d2 : decide (8 < (zs.length : Int)) = true := by simp; omega
      go_enter Try.func14, Try.ntmps14
      go_wp2_with fail
      go_ret
      exact ⟨ret_int E.out.symm, (Below.refl _ _).alloc (Nat.le_refl _) _⟩
    · have h3 : ((n : Int) != (zs.length : Int)) = true := by simp; omega
      have d2 : decide (8 < (zs.length : Int)) = false := by simp; omega
      clear h
      go_enter Try.func14, Try.ntmps14
      go_wp2_with fail
      go_ret
      exact ⟨ret_int E.out.symm, (Below.refl _ _).alloc (Nat.le_refl _) _⟩

set_option maxRecDepth 100000 in
set_option maxHeartbeats 8000000 in
theorem grcheck_go (A B : Option Addr) (ca cb : Nat) (zs : List Int) (n : Nat) (T : Nat → Tv) (w : World) (hG : GridIn w A B zs n T) (h1 : 1 ≤ zs.length) (h8 : zs.length ≤ 8) (hs : n = zs.length) :
    Calls Try.prog 14 #[.agg #[.slice A zs.length ca, .slice B n cb]] w fun e w' => e = .returned (.int .i64 (Gd.err zs n (X T) (Y T))) ∧ Below w.heap.size w w' := by
  obtain ⟨b1, o1, b2, o2, L⟩ := glies_of hG (by omega) (by omega)
  obtain rfl := L.ea
  obtain rfl := L.eb
  have HL := Lib.hid L
  have HH := Lib.hid (GHeld.new (ca := ca) (cb := cb) hG)
  have HS := Lib.hid hs
  have E1 : Hid (¬ Gd.Ok zs n (X T) (Y T) → Gd.err zs n (X T) (Y T) = 30) := fun h => Gd.err_30 h
  have E2 : Hid (GFine zs T zs.length → Gd.err zs n (X T) (Y T) = 0) := fun h => Gd.err_0 (h.ok h1 h8 hs)
  have d1 : decide ((zs.length : Int) < 1) = false := by simp; omega
  have d2 : decide (8 < (zs.length : Int)) = false := by simp; omega
  have hn3 : ((n : Int) != (zs.length : Int)) = false := by simp [hs]
  have hn8 : n ≤ 8 := by omega
  clear hG L hs
  go_enter Try.func14, Try.ntmps14
  go_wp2_with fail
  go_loopw [3] (fun i wr => ∃ k : Nat, k ≤ zs.length ∧ i = .int .i64 k ∧ GFine zs T k ∧ GHeld w.heap.size (some ⟨b1, o1, none⟩) (some ⟨b2, o2, none⟩) ca cb zs n T w wr) (fun i _ => zs.length - (intOf i).toNat)
  case atStart => exact ⟨0, Nat.zero_le _, rfl, (fun j hj => by omega), HH.out⟩
  case round =>
    clear HH
    obtain ⟨k, hk, rfl, hF, hh⟩ := hrel
    have HF := Lib.hid hF
    have HH := Lib.hid hh
    have c0 := HH.out.c0
    have c1 := HH.out.c1
    clear hF hh
    by_cases hlt : k < zs.length
    · have hltn : k < n := by rw [HS.out]; exact hlt
      have z0 := HH.out.cell (HL.out.zc k hlt)
      have t0 := HH.out.cell (HL.out.tc0 k hltn)
      have t1 := HH.out.cell (HL.out.tc1 k hltn)
      have Z0 := Lib.hid (HL.out.zc k hlt)
      have T0 := Lib.hid (HL.out.tc0 k hltn)
      have T1 := Lib.hid (HL.out.tc1 k hltn)
      have HX : Hid (∀ j, j + 1 = k → wr.cell? ⟨b1, o1 + j, none⟩ = some (.int .i64 (Tb.g zs j))) := fun j hj => HH.out.cell (HL.out.zc j (by omega))
      generalize hz : Tb.g zs k = z at z0 Z0
      have GZ := Lib.hid hz
      clear hz
      by_cases p1 : z < 0
      · have q1 : decide (z < 0) = true := by simp [p1]
        have E := Lib.hid (E1.out (fun o => by have := (o.zb k hlt).1; rw [GZ.out] at this; omega))
        go_wp2_with fail
        go_quiet (fail)
        go_wp2_with fail
        go_ret
        exact ⟨ret_int E.out.symm, below_drewN HH.out.old _⟩
      · have q1 : decide (z < 0) = false := by simp [p1]
        by_cases p2 : 1048576 < z
        · have q2 : decide (1048576 < z) = true := by simp [p2]
          have E := Lib.hid (E1.out (fun o => by have := (o.zb k hlt).2; rw [GZ.out] at this; omega))
          go_wp2_with fail
          go_quiet (fail)
          go_wp2_with fail
          go_ret
          exact ⟨ret_int E.out.symm, below_drewN HH.out.old _⟩
        · have q2 : decide (1048576 < z) = false := by simp [p2]
          cases k with
          | zero =>
            rw [Nat.add_zero] at z0 Z0
            rw [Nat.zero_mul, Nat.add_zero] at t0 t1 T0 T1
            rw [show ((0 : Nat) : Int) = 0 from rfl]
            have q5 : decide ((0 : Int) < 0) = false := by decide
            clear q5
            cases ho : Tb.okB (T 0).xs (T 0).ys with
            | true =>
              have E0 := Lib.hid (show Tb.err (T 0).xs (T 0).ys = 0 by simp [Tb.err, ho])
              have HN : Hid (GFine zs T 1) := fun j hj => by
                obtain rfl : j = 0 := by omega
                rw [GZ.out]; exact ⟨⟨by omega, by omega⟩, fun h => by omega, ho⟩
              clear ho
              have KP : Hid (∀ W, GHeld w.heap.size (some ⟨b1, o1, none⟩) (some ⟨b2, o2, none⟩) ca cb zs n T w W → (fun W => GHeld w.heap.size (some ⟨b1, o1, none⟩) (some ⟨b2, o2, none⟩) ca cb zs n T w W ∧ W.cell? ⟨w.heap.size, 0, none⟩ = some (.slice (some ⟨b1, o1, none⟩) zs.length ca) ∧ W.cell? ⟨w.heap.size, 1, none⟩ = some (.slice (some ⟨b2, o2, none⟩) n cb) ∧ W.cell? ⟨b1, o1, none⟩ = some (.int .i64 z) ∧ W.cell? ⟨b2, o2, none⟩ = some (.slice (T 0).A (T 0).xs.length (T 0).ca) ∧ W.cell? ⟨b2, o2 + 1, none⟩ = some (.slice (T 0).B (T 0).ys.length (T 0).cb)) W) := fun W h => ⟨h, h.c0, h.c1, h.cell Z0.out, h.cell T0.out, h.cell T1.out⟩
              go_wp2_with fail
              refine wp_region_noPanic (Lk.wp_region_lex 38 (fun W => GHeld w.heap.size (some ⟨b1, o1, none⟩) (some ⟨b2, o2, none⟩) ca cb zs n T w W ∧ W.cell? ⟨w.heap.size, 0, none⟩ = some (.slice (some ⟨b1, o1, none⟩) zs.length ca) ∧ W.cell? ⟨w.heap.size, 1, none⟩ = some (.slice (some ⟨b2, o2, none⟩) n cb) ∧ W.cell? ⟨b1, o1, none⟩ = some (.int .i64 z) ∧ W.cell? ⟨b2, o2, none⟩ = some (.slice (T 0).A (T 0).xs.length (T 0).ca) ∧ W.cell? ⟨b2, o2 + 1, none⟩ = some (.slice (T 0).B (T 0).ys.length (T 0).cb)) (by kernel_rfl) (by kernel_rfl) (fun _ _ _ _ _ h => h) (KP.out _ HH.out.drew) ?_)
              simp only [List.take_succ_cons, List.take_zero, List.drop_succ_cons, List.drop_zero]
              iterate 18 (refine Lk.wpHeldQ_step ?_ rfl ?_ ?_; rotate_left; (focus (intro w' hS; obtain ⟨_, h0, h1, h2, h3, h4⟩ := hS; go_simp; try with_reducible rfl)); simp only [Act.put, List.setIfInBounds_toArray, List.set_cons_zero, List.set_cons_succ])
              iterate 12 (refine Lk.wpHeldQ_skip rfl ?_; simp only [Act.put, List.setIfInBounds_toArray, List.set_cons_zero, List.set_cons_succ])
              iterate 8 (refine Lk.wpHeldQ_step ?_ rfl ?_ ?_; rotate_left; (focus (intro w' hS; obtain ⟨_, h0, h1, h2, h3, h4⟩ := hS; go_simp; try with_reducible rfl)); simp only [Act.put, List.setIfInBounds_toArray, List.set_cons_zero, List.set_cons_succ])
              show Lk.wpSeqH _ _ _ _ _ _ _
              replace HH := Lib.hid HH.out.drew
              refine Lk.wpSeqH_step rfl (fun K hK => ?_)
              have HKK := Lib.hid hK
              clear hK
              go_simp
              refine (rcheck_c _ _ _ _ (T 0).xs (T 0).ys _ (HH.out.tab hltn)).mono ?_
              rintro e w9 ⟨rfl, hb⟩
              replace HH := Lib.hid (HH.out.below hb)
              clear hb
              rw [E0.out]
              refine HKK.out _ _ (KP.out _ HH.out) ?_
              clear HKK K
              try simp only [Act.put, List.setIfInBounds_toArray, List.set_cons_zero, List.set_cons_succ]
              refine Lk.wpSeqH_step rfl (fun K hK => ?_)
              have HKK := Lib.hid hK
              clear hK
              go_simp
              refine HKK.out _ _ (KP.out _ HH.out) ?_
              clear HKK K
              try simp only [Act.put, List.setIfInBounds_toArray, List.set_cons_zero, List.set_cons_succ]
              refine Lk.wpSeqH_step rfl (fun K hK => ?_)
              have HKK := Lib.hid hK
              clear hK
              go_simp
              refine HKK.out _ _ (KP.out _ HH.out) ?_
              clear HKK K
              try simp only [Act.put, List.setIfInBounds_toArray, List.set_cons_zero, List.set_cons_succ]
              clear c0 c1 z0 t0 t1
              refine Lk.wpSeqH_nil (NoPanic.normal ?_)
              go_wp2_with fail
              go_roundw
              case rel => exact ⟨1, by omega, by go_num, HN.out, HH.out⟩
              case measure => simp [intOf]; omega
            | false =>
              have E0 := Lib.hid (show Tb.err (T 0).xs (T 0).ys = 20 by simp [Tb.err, ho])
              have E := Lib.hid (E1.out (fun o => by have := o.tab 0 hlt; rw [show X T 0 = (T 0).xs from rfl, show Y T 0 = (T 0).ys from rfl, ho] at this; cases this))
              clear ho
              have KP : Hid (∀ W, GHeld w.heap.size (some ⟨b1, o1, none⟩) (some ⟨b2, o2, none⟩) ca cb zs n T w W → (fun W => GHeld w.heap.size (some ⟨b1, o1, none⟩) (some ⟨b2, o2, none⟩) ca cb zs n T w W ∧ W.cell? ⟨w.heap.size, 0, none⟩ = some (.slice (some ⟨b1, o1, none⟩) zs.length ca) ∧ W.cell? ⟨w.heap.size, 1, none⟩ = some (.slice (some ⟨b2, o2, none⟩) n cb) ∧ W.cell? ⟨b1, o1, none⟩ = some (.int .i64 z) ∧ W.cell? ⟨b2, o2, none⟩ = some (.slice (T 0).A (T 0).xs.length (T 0).ca) ∧ W.cell? ⟨b2, o2 + 1, none⟩ = some (.slice (T 0).B (T 0).ys.length (T 0).cb)) W) := fun W h => ⟨h, h.c0, h.c1, h.cell Z0.out, h.cell T0.out, h.cell T1.out⟩
              go_wp2_with fail
              refine wp_region_noPanic (Lk.wp_region_lex 38 (fun W => GHeld w.heap.size (some ⟨b1, o1, none⟩) (some ⟨b2, o2, none⟩) ca cb zs n T w W ∧ W.cell? ⟨w.heap.size, 0, none⟩ = some (.slice (some ⟨b1, o1, none⟩) zs.length ca) ∧ W.cell? ⟨w.heap.size, 1, none⟩ = some (.slice (some ⟨b2, o2, none⟩) n cb) ∧ W.cell? ⟨b1, o1, none⟩ = some (.int .i64 z) ∧ W.cell? ⟨b2, o2, none⟩ = some (.slice (T 0).A (T 0).xs.length (T 0).ca) ∧ W.cell? ⟨b2, o2 + 1, none⟩ = some (.slice (T 0).B (T 0).ys.length (T 0).cb)) (by kernel_rfl) (by kernel_rfl) (fun _ _ _ _ _ h => h) (KP.out _ HH.out.drew) ?_)
              simp only [List.take_succ_cons, List.take_zero, List.drop_succ_cons, List.drop_zero]
              iterate 18 (refine Lk.wpHeldQ_step ?_ rfl ?_ ?_; rotate_left; (focus (intro w' hS; obtain ⟨_, h0, h1, h2, h3, h4⟩ := hS; go_simp; try with_reducible rfl)); simp only [Act.put, List.setIfInBounds_toArray, List.set_cons_zero, List.set_cons_succ])
              iterate 12 (refine Lk.wpHeldQ_skip rfl ?_; simp only [Act.put, List.setIfInBounds_toArray, List.set_cons_zero, List.set_cons_succ])
              iterate 8 (refine Lk.wpHeldQ_step ?_ rfl ?_ ?_; rotate_left; (focus (intro w' hS; obtain ⟨_, h0, h1, h2, h3, h4⟩ := hS; go_simp; try with_reducible rfl)); simp only [Act.put, List.setIfInBounds_toArray, List.set_cons_zero, List.set_cons_succ])
              show Lk.wpSeqH _ _ _ _ _ _ _
              replace HH := Lib.hid HH.out.drew
              refine Lk.wpSeqH_step rfl (fun K hK => ?_)
              have HKK := Lib.hid hK
              clear hK
              go_simp
              refine (rcheck_c _ _ _ _ (T 0).xs (T 0).ys _ (HH.out.tab hltn)).mono ?_
              rintro e w9 ⟨rfl, hb⟩
              replace HH := Lib.hid (HH.out.below hb)
              clear hb
              rw [E0.out]
              refine HKK.out _ _ (KP.out _ HH.out) ?_
              clear HKK K
              try simp only [Act.put, List.setIfInBounds_toArray, List.set_cons_zero, List.set_cons_succ]
              refine Lk.wpSeqH_step rfl (fun K hK => ?_)
              have HKK := Lib.hid hK
              clear hK
              go_simp
              refine HKK.out _ _ (KP.out _ HH.out) ?_
              clear HKK K
              try simp only [Act.put, List.setIfInBounds_toArray, List.set_cons_zero, List.set_cons_succ]
              refine Lk.wpSeqH_step rfl (fun K hK => ?_)
              have HKK := Lib.hid hK
              clear hK
              go_simp
              refine HKK.out _ _ (KP.out _ HH.out) ?_
              clear HKK K
              try simp only [Act.put, List.setIfInBounds_toArray, List.set_cons_zero, List.set_cons_succ]
              clear c0 c1 z0 t0 t1
              refine Lk.wpSeqH_nil (NoPanic.normal ?_)
              go_wp2_with fail
              go_ret
              exact ⟨ret_int E.out.symm, HH.out.old⟩
          | succ k =>
            have c5 := HX.out k rfl
            have Y0 := Lib.hid (HL.out.zc k (by omega))
            generalize hy : Tb.g zs k = y at c5 Y0
            have GY := Lib.hid hy
            clear hy
            have e5 : IntKind.i64.wrap (k : Int) = k := IntWalk.i64_in _ (by omega)
            have g0 : k < zs.length := by omega
            have g1 : (k : Int) + 1 < (zs.length : Int) := by omega
            have g1' : (k : Int) + 1 < (n : Int) := by omega
            have g2 : 0 ≤ (k : Int) + 1 := by omega
            have g3 : ((k : Int) + 1).toNat = k + 1 := by omega
            have g4 : 0 < (k : Int) + 1 := by omega
            have q6 : decide (0 < (k : Int) + 1) = true := by simp; try omega
            by_cases p5 : z ≤ y
            · have q7 : decide (z ≤ y) = true := by simp [p5]
              have E := Lib.hid (E1.out (fun o => by have := o.up k hlt; rw [GZ.out, GY.out] at this; omega))
              go_wp2_with fail
              go_quiet (fail)
              go_wp2_with fail
              go_ret
              exact ⟨ret_int E.out.symm, below_drewN HH.out.old _⟩
            · have q7 : decide (z ≤ y) = false := by simp [p5]
              cases ho : Tb.okB (T (k + 1)).xs (T (k + 1)).ys with
              | true =>
                have E0 := Lib.hid (show Tb.err (T (k + 1)).xs (T (k + 1)).ys = 0 by simp [Tb.err, ho])
                have HN : Hid (GFine zs T (k + 1 + 1)) := fun j hj => by
                  by_cases e : j = k + 1
                  · subst e
                    rw [GZ.out, show k + 1 - 1 = k from by omega, GY.out]
                    exact ⟨⟨by omega, by omega⟩, fun h => by omega, ho⟩
                  · exact HF.out j (by omega)
                clear ho
                have KP : Hid (∀ W, GHeld w.heap.size (some ⟨b1, o1, none⟩) (some ⟨b2, o2, none⟩) ca cb zs n T w W → (fun W => GHeld w.heap.size (some ⟨b1, o1, none⟩) (some ⟨b2, o2, none⟩) ca cb zs n T w W ∧ W.cell? ⟨w.heap.size, 0, none⟩ = some (.slice (some ⟨b1, o1, none⟩) zs.length ca) ∧ W.cell? ⟨w.heap.size, 1, none⟩ = some (.slice (some ⟨b2, o2, none⟩) n cb) ∧ W.cell? ⟨b1, o1 + (k + 1), none⟩ = some (.int .i64 z) ∧ W.cell? ⟨b2, o2 + (k + 1) * 2, none⟩ = some (.slice (T (k + 1)).A (T (k + 1)).xs.length (T (k + 1)).ca) ∧ W.cell? ⟨b2, o2 + (k + 1) * 2 + 1, none⟩ = some (.slice (T (k + 1)).B (T (k + 1)).ys.length (T (k + 1)).cb) ∧ W.cell? ⟨b1, o1 + k, none⟩ = some (.int .i64 y)) W) := fun W h => ⟨h, h.c0, h.c1, h.cell Z0.out, h.cell T0.out, h.cell T1.out, h.cell Y0.out⟩
                go_wp2_with fail
                refine wp_region_noPanic (Lk.wp_region_lex 38 (fun W => GHeld w.heap.size (some ⟨b1, o1, none⟩) (some ⟨b2, o2, none⟩) ca cb zs n T w W ∧ W.cell? ⟨w.heap.size, 0, none⟩ = some (.slice (some ⟨b1, o1, none⟩) zs.length ca) ∧ W.cell? ⟨w.heap.size, 1, none⟩ = some (.slice (some ⟨b2, o2, none⟩) n cb) ∧ W.cell? ⟨b1, o1 + (k + 1), none⟩ = some (.int .i64 z) ∧ W.cell? ⟨b2, o2 + (k + 1) * 2, none⟩ = some (.slice (T (k + 1)).A (T (k + 1)).xs.length (T (k + 1)).ca) ∧ W.cell? ⟨b2, o2 + (k + 1) * 2 + 1, none⟩ = some (.slice (T (k + 1)).B (T (k + 1)).ys.length (T (k + 1)).cb) ∧ W.cell? ⟨b1, o1 + k, none⟩ = some (.int .i64 y)) (by kernel_rfl) (by kernel_rfl) (fun _ _ _ _ _ h => h) (KP.out _ HH.out.drew) ?_)
                simp only [List.take_succ_cons, List.take_zero, List.drop_succ_cons, List.drop_zero]
                iterate 38 (refine Lk.wpHeldQ_step ?_ rfl ?_ ?_; rotate_left; (focus (intro w' hS; obtain ⟨_, h0, h1, h2, h3, h4, h5⟩ := hS; go_simp; try with_reducible rfl)); simp only [Act.put, List.setIfInBounds_toArray, List.set_cons_zero, List.set_cons_succ])
                show Lk.wpSeqH _ _ _ _ _ _ _
                replace HH := Lib.hid HH.out.drew
                refine Lk.wpSeqH_step rfl (fun K hK => ?_)
                have HKK := Lib.hid hK
                clear hK
                go_simp
                refine (rcheck_c _ _ _ _ (T (k + 1)).xs (T (k + 1)).ys _ (HH.out.tab hltn)).mono ?_
                rintro e w9 ⟨rfl, hb⟩
                replace HH := Lib.hid (HH.out.below hb)
                clear hb
                rw [E0.out]
                refine HKK.out _ _ (KP.out _ HH.out) ?_
                clear HKK K
                try simp only [Act.put, List.setIfInBounds_toArray, List.set_cons_zero, List.set_cons_succ]
                refine Lk.wpSeqH_step rfl (fun K hK => ?_)
                have HKK := Lib.hid hK
                clear hK
                go_simp
                refine HKK.out _ _ (KP.out _ HH.out) ?_
                clear HKK K
                try simp only [Act.put, List.setIfInBounds_toArray, List.set_cons_zero, List.set_cons_succ]
                refine Lk.wpSeqH_step rfl (fun K hK => ?_)
                have HKK := Lib.hid hK
                clear hK
                go_simp
                refine HKK.out _ _ (KP.out _ HH.out) ?_
                clear HKK K
                try simp only [Act.put, List.setIfInBounds_toArray, List.set_cons_zero, List.set_cons_succ]
                clear c0 c1 z0 t0 t1 c5
                refine Lk.wpSeqH_nil (NoPanic.normal ?_)
                go_wp2_with fail
                go_roundw
                case rel => exact ⟨k + 1 + 1, by omega, by go_num, HN.out, HH.out⟩
                case measure => simp [intOf]; omega
              | false =>
                have E0 := Lib.hid (show Tb.err (T (k + 1)).xs (T (k + 1)).ys = 20 by simp [Tb.err, ho])
                have E := Lib.hid (E1.out (fun o => by have := o.tab (k + 1) hlt; rw [show X T (k + 1) = (T (k + 1)).xs from rfl, show Y T (k + 1) = (T (k + 1)).ys from rfl, ho] at this; cases this))
                clear ho
                have KP : Hid (∀ W, GHeld w.heap.size (some ⟨b1, o1, none⟩) (some ⟨b2, o2, none⟩) ca cb zs n T w W → (fun W => GHeld w.heap.size (some ⟨b1, o1, none⟩) (some ⟨b2, o2, none⟩) ca cb zs n T w W ∧ W.cell? ⟨w.heap.size, 0, none⟩ = some (.slice (some ⟨b1, o1, none⟩) zs.length ca) ∧ W.cell? ⟨w.heap.size, 1, none⟩ = some (.slice (some ⟨b2, o2, none⟩) n cb) ∧ W.cell? ⟨b1, o1 + (k + 1), none⟩ = some (.int .i64 z) ∧ W.cell? ⟨b2, o2 + (k + 1) * 2, none⟩ = some (.slice (T (k + 1)).A (T (k + 1)).xs.length (T (k + 1)).ca) ∧ W.cell? ⟨b2, o2 + (k + 1) * 2 + 1, none⟩ = some (.slice (T (k + 1)).B (T (k + 1)).ys.length (T (k + 1)).cb) ∧ W.cell? ⟨b1, o1 + k, none⟩ = some (.int .i64 y)) W) := fun W h => ⟨h, h.c0, h.c1, h.cell Z0.out, h.cell T0.out, h.cell T1.out, h.cell Y0.out⟩
                go_wp2_with fail
                refine wp_region_noPanic (Lk.wp_region_lex 38 (fun W => GHeld w.heap.size (some ⟨b1, o1, none⟩) (some ⟨b2, o2, none⟩) ca cb zs n T w W ∧ W.cell? ⟨w.heap.size, 0, none⟩ = some (.slice (some ⟨b1, o1, none⟩) zs.length ca) ∧ W.cell? ⟨w.heap.size, 1, none⟩ = some (.slice (some ⟨b2, o2, none⟩) n cb) ∧ W.cell? ⟨b1, o1 + (k + 1), none⟩ = some (.int .i64 z) ∧ W.cell? ⟨b2, o2 + (k + 1) * 2, none⟩ = some (.slice (T (k + 1)).A (T (k + 1)).xs.length (T (k + 1)).ca) ∧ W.cell? ⟨b2, o2 + (k + 1) * 2 + 1, none⟩ = some (.slice (T (k + 1)).B (T (k + 1)).ys.length (T (k + 1)).cb) ∧ W.cell? ⟨b1, o1 + k, none⟩ = some (.int .i64 y)) (by kernel_rfl) (by kernel_rfl) (fun _ _ _ _ _ h => h) (KP.out _ HH.out.drew) ?_)
                simp only [List.take_succ_cons, List.take_zero, List.drop_succ_cons, List.drop_zero]
                iterate 38 (refine Lk.wpHeldQ_step ?_ rfl ?_ ?_; rotate_left; (focus (intro w' hS; obtain ⟨_, h0, h1, h2, h3, h4, h5⟩ := hS; go_simp; try with_reducible rfl)); simp only [Act.put, List.setIfInBounds_toArray, List.set_cons_zero, List.set_cons_succ])
                show Lk.wpSeqH _ _ _ _ _ _ _
                replace HH := Lib.hid HH.out.drew
                refine Lk.wpSeqH_step rfl (fun K hK => ?_)
                have HKK := Lib.hid hK
                clear hK
                go_simp
                refine (rcheck_c _ _ _ _ (T (k + 1)).xs (T (k + 1)).ys _ (HH.out.tab hltn)).mono ?_
                rintro e w9 ⟨rfl, hb⟩
                replace HH := Lib.hid (HH.out.below hb)
                clear hb
                rw [E0.out]
                refine HKK.out _ _ (KP.out _ HH.out) ?_
                clear HKK K
                try simp only [Act.put, List.setIfInBounds_toArray, List.set_cons_zero, List.set_cons_succ]
                refine Lk.wpSeqH_step rfl (fun K hK => ?_)
                have HKK := Lib.hid hK
                clear hK
                go_simp
                refine HKK.out _ _ (KP.out _ HH.out) ?_
                clear HKK K
                try simp only [Act.put, List.setIfInBounds_toArray, List.set_cons_zero, List.set_cons_succ]
                refine Lk.wpSeqH_step rfl (fun K hK => ?_)
                have HKK := Lib.hid hK
                clear hK
                go_simp
                refine HKK.out _ _ (KP.out _ HH.out) ?_
                clear HKK K
                try simp only [Act.put, List.setIfInBounds_toArray, List.set_cons_zero, List.set_cons_succ]
                clear c0 c1 z0 t0 t1 c5
                refine Lk.wpSeqH_nil (NoPanic.normal ?_)
                go_wp2_with fail
                go_ret
                exact ⟨ret_int E.out.symm, HH.out.old⟩
    · obtain rfl : k = zs.length := by omega
      have E := Lib.hid (E2.out HF.out)
      go_wp2_with fail
      go_ret
      exact ⟨ret_int E.out.symm, HH.out.old⟩

theorem grcheck_c (A B : Option Addr) (ca cb : Nat) (zs : List Int) (n : Nat) (T : Nat → Tv) (w : World) (hG : GridIn w A B zs n T) :
    Calls Try.prog 14 #[.agg #[.slice A zs.length ca, .slice B n cb]] w fun e w' => e = .returned (.int .i64 (Gd.err zs n (X T) (Y T))) ∧ Below w.heap.size w w' := by
  by_cases h1 : zs.length < 1 ∨ 8 < zs.length ∨ n ≠ zs.length
  · exact grcheck_len A B ca cb zs n T w h1
  · exact grcheck_go A B ca cb zs n T w hG (by omega) (by omega) (by omega)
theorem grcheck_ok (A B : Option Addr) (ca cb : Nat) (zs : List Int) (n : Nat) (T : Nat → Tv) (w : World) (hG : GridIn w A B zs n T) (h : Gd.okB zs n (X T) (Y T) = true) :
    Calls Try.prog 14 #[.agg #[.slice A zs.length ca, .slice B n cb]] w fun e w' => e = .returned (.int .i64 0) ∧ Below w.heap.size w w' := by
  have := grcheck_c A B ca cb zs n T w hG
  rwa [show Gd.err zs n (X T) (Y T) = 0 from by simp [Gd.err, h]] at this
theorem grcheck_no (A B : Option Addr) (ca cb : Nat) (zs : List Int) (n : Nat) (T : Nat → Tv) (w : World) (hG : GridIn w A B zs n T) (h : Gd.okB zs n (X T) (Y T) = false) :
    Calls Try.prog 14 #[.agg #[.slice A zs.length ca, .slice B n cb]] w fun e w' => e = .returned (.int .i64 30) ∧ Below w.heap.size w w' := by
  have := grcheck_c A B ca cb zs n T w hG
  rwa [show Gd.err zs n (X T) (Y T) = 30 from by simp [Gd.err, h]] at this

end GridC
end Go.Proofs.Ythjefnkgfmkijaa
