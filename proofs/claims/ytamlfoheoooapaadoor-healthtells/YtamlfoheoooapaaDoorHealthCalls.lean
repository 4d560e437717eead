/- The contracts of Score, Step, Well. -/
import Derived.Test.YtamlfoheoooapaaDoorHealthIn
namespace Go.Proofs.YtamlfoheoooapaaDoor
namespace Qw
open Go.RowKit Lk

theorem ret_i {a b : Int} (h : a = b) : Ending.returned (.int .i64 a) = .returned (.int .i64 b) := by rw [h]
abbrev ao (d : Int) : Obj := .cells #[.int .i64 d] 39 (0, 0)
/-- What a Score lays: which are lost, the number; and the counts. -/
abbrev Ls (N : Nat) (f : Nat → Bool) (d : Int) (t : TypeId) : List (Nat × Obj) := [(N + 1, ao d), (N, go f), (0, .cells cc t (0, 0))]
theorem two_s {w : World} {t : TypeId} (hR : w.heap[0]? = some (.cells cc t (0, 0))) (f : Nat → Bool) (d : Int) : Hv w ((w.alloc (go f)).alloc (ao d)) (Ls w.heap.size f d t) := by
  have := (((Hv.nil w).add (0, .cells cc t (0, 0)) hR).made (go f)).made (ao d)
  simpa only [World.size_alloc] using this
theorem turn {w W : World} {N : Nat} {f : Nat → Bool} {d : Int} {t : TypeId} (h : Hv w W (Ls N f d t)) (hN : w.heap.size ≤ N) (y : Int) : Hv w (W.setCell ⟨N + 1, 0, none⟩ (.int .i64 y)) (Ls N f y t) :=
  h.change ((Off.refl (N + 1) W).set 0 _) (Joins.block_setCell h.head (i := 0) (.int .i64 y)) (by simp) (by omega)

set_option maxRecDepth 100000 in
set_option maxHeartbeats 4000000 in
theorem score_c (f : Nat → Bool) (q : Int) (t : TypeId) (w : World) (hR : w.heap[0]? = some (.cells cc t (0, 0))) :
    Calls Tryd.prog 9 #[.agg (g5 f), .int .i64 q] w fun r w' => r = .returned (.int .i64 (Hh.sc f q)) ∧ Below w.heap.size w w' := by
  by_cases hq : 5 < q
  · have e : Hh.sc f q = 0 := if_pos hq
    rw [e]
    have HB := Lib.hid ((Hv.nil w).made (go f))
    have k1 : decide (5 < q) = true := by simpa using hq
    clear e hq hR
    go_enter Tryd.func9, Tryd.ntmps9
    go_wp2_with fail
    go_ret
    exact ⟨rfl, HB.out.old⟩
  · have e : Hh.sc f q = max (255 - Hh.tk f 5 - 20 * max q 0) 0 := if_neg hq
    have k1 : decide (5 < q) = false := by simpa using hq
    have h5 := Hh.tk5_in f
    have hq' : q ≤ 5 := by omega
    rw [e]
    have HV := Lib.hid (two_s hR f 0)
    have H2 := Lib.hid (two_s hR f 255)
    clear e hq hR
    go_enter Tryd.func9, Tryd.ntmps9
    go_wp2_with (first
      | (go_at_call 15; (with_reducible refine (Sy.istore _ _ _ _ _ (Joins.cell_of_block HV.out.head 0) (Joins.unfrozen_of_block HV.out.head 0)).mono ?_); rintro r W ⟨rfl, rfl⟩; replace HV := H2; clear H2)
      | (refine ldg rfl _ rfl _ _ rfl HV.out.h2 ?_)
      | fail)
    generalize hN : w.heap.size = N at *
    go_loopw [12] (fun i wr => ∃ k : Nat, k ≤ 5 ∧ i = .int .i64 k ∧ Hv w wr (Ls N f (255 - Hh.tk f k) t)) (fun i _ => 5 - (intOf i).toNat)
    case atStart => exact ⟨0, by decide, rfl, by rw [show (255 : Int) - Hh.tk f 0 = 255 from rfl]; exact HV.out⟩
    case round =>
      obtain ⟨k, hk, rfl, hv⟩ := hrel
      clear HV
      have HV := Lib.hid hv
      clear hv
      replace hN := Nat.le_of_eq hN
      by_cases hlt : k < 5
      · have h6 := Hh.tk_in f k
        obtain ⟨d, ed⟩ : ∃ d, 255 - Hh.tk f k = d := ⟨_, rfl⟩
        have hd0 : -500 ≤ d := by omega
        have hd1 : d ≤ 255 := by omega
        have hf : Hid (255 - Hh.tk f (k + 1) = if f k then d + -Hh.cost k else d) := by
          show _ = _
          simp only [Hh.tk]
          split <;> omega
        rw [ed] at HV
        clear h5 hq' h6 ed hk
        generalize hj : (k : Int) = j at *
        obtain rfl | rfl | rfl | rfl | rfl : k = 0 ∨ k = 1 ∨ k = 2 ∨ k = 3 ∨ k = 4 := by omega
        · obtain rfl : j = 0 := hj.symm
          clear hj
          have c0 : wr.cell? ⟨0, 0, none⟩ = some (.int .i64 60) := Joins.cell_of_block HV.out.h3 0
          obtain ⟨x, hx⟩ : ∃ x, f 0 = x := ⟨_, rfl⟩
          rw [hx] at hf
          cases x with
          | true =>
            replace hf : Hid (255 - Hh.tk f 1 = d + -60) := hf.out
            go_wp2_with (first | (refine ixg rfl _ _ rfl f rfl 0 (by decide) rfl _ hx ?_) | (go_at_call 16; (with_reducible refine (Sy.iadd_n _ _ d _ _ (by omega) (by omega) (Joins.cell_of_block HV.out.head 0) (Joins.unfrozen_of_block HV.out.head 0)).mono ?_); rintro r W ⟨rfl, rfl⟩; replace HV := Lib.hid (fun y => turn HV.out hN y)) | fail)
            go_roundw
            case rel => exact ⟨1, by decide, rfl, by rw [hf.out]; exact HV.out _⟩
            case measure => simp [intOf]
          | false =>
            replace hf : Hid (255 - Hh.tk f 1 = d) := hf.out
            go_wp2_with (first | (refine ixg rfl _ _ rfl f rfl 0 (by decide) rfl _ hx ?_) | fail)
            go_roundw
            case rel => exact ⟨1, by decide, rfl, by rw [hf.out]; exact HV.out⟩
            case measure => simp [intOf]
        · obtain rfl : j = 1 := hj.symm
          clear hj
          have c0 : wr.cell? ⟨0, 1, none⟩ = some (.int .i64 100) := Joins.cell_of_block HV.out.h3 1
          obtain ⟨x, hx⟩ : ∃ x, f 1 = x := ⟨_, rfl⟩
          rw [hx] at hf
          cases x with
          | true =>
            replace hf : Hid (255 - Hh.tk f 2 = d + -100) := hf.out
            go_wp2_with (first | (refine ixg rfl _ _ rfl f rfl 1 (by decide) rfl _ hx ?_) | (go_at_call 16; (with_reducible refine (Sy.iadd_n _ _ d _ _ (by omega) (by omega) (Joins.cell_of_block HV.out.head 0) (Joins.unfrozen_of_block HV.out.head 0)).mono ?_); rintro r W ⟨rfl, rfl⟩; replace HV := Lib.hid (fun y => turn HV.out hN y)) | fail)
            go_roundw
            case rel => exact ⟨2, by decide, rfl, by rw [hf.out]; exact HV.out _⟩
            case measure => simp [intOf]
          | false =>
            replace hf : Hid (255 - Hh.tk f 2 = d) := hf.out
            go_wp2_with (first | (refine ixg rfl _ _ rfl f rfl 1 (by decide) rfl _ hx ?_) | fail)
            go_roundw
            case rel => exact ⟨2, by decide, rfl, by rw [hf.out]; exact HV.out⟩
            case measure => simp [intOf]
        · obtain rfl : j = 2 := hj.symm
          clear hj
          have c0 : wr.cell? ⟨0, 2, none⟩ = some (.int .i64 60) := Joins.cell_of_block HV.out.h3 2
          obtain ⟨x, hx⟩ : ∃ x, f 2 = x := ⟨_, rfl⟩
          rw [hx] at hf
          cases x with
          | true =>
            replace hf : Hid (255 - Hh.tk f 3 = d + -60) := hf.out
            go_wp2_with (first | (refine ixg rfl _ _ rfl f rfl 2 (by decide) rfl _ hx ?_) | (go_at_call 16; (with_reducible refine (Sy.iadd_n _ _ d _ _ (by omega) (by omega) (Joins.cell_of_block HV.out.head 0) (Joins.unfrozen_of_block HV.out.head 0)).mono ?_); rintro r W ⟨rfl, rfl⟩; replace HV := Lib.hid (fun y => turn HV.out hN y)) | fail)
            go_roundw
            case rel => exact ⟨3, by decide, rfl, by rw [hf.out]; exact HV.out _⟩
            case measure => simp [intOf]
          | false =>
            replace hf : Hid (255 - Hh.tk f 3 = d) := hf.out
            go_wp2_with (first | (refine ixg rfl _ _ rfl f rfl 2 (by decide) rfl _ hx ?_) | fail)
            go_roundw
            case rel => exact ⟨3, by decide, rfl, by rw [hf.out]; exact HV.out⟩
            case measure => simp [intOf]
        · obtain rfl : j = 3 := hj.symm
          clear hj
          have c0 : wr.cell? ⟨0, 3, none⟩ = some (.int .i64 40) := Joins.cell_of_block HV.out.h3 3
          obtain ⟨x, hx⟩ : ∃ x, f 3 = x := ⟨_, rfl⟩
          rw [hx] at hf
          cases x with
          | true =>
            replace hf : Hid (255 - Hh.tk f 4 = d + -40) := hf.out
            go_wp2_with (first | (refine ixg rfl _ _ rfl f rfl 3 (by decide) rfl _ hx ?_) | (go_at_call 16; (with_reducible refine (Sy.iadd_n _ _ d _ _ (by omega) (by omega) (Joins.cell_of_block HV.out.head 0) (Joins.unfrozen_of_block HV.out.head 0)).mono ?_); rintro r W ⟨rfl, rfl⟩; replace HV := Lib.hid (fun y => turn HV.out hN y)) | fail)
            go_roundw
            case rel => exact ⟨4, by decide, rfl, by rw [hf.out]; exact HV.out _⟩
            case measure => simp [intOf]
          | false =>
            replace hf : Hid (255 - Hh.tk f 4 = d) := hf.out
            go_wp2_with (first | (refine ixg rfl _ _ rfl f rfl 3 (by decide) rfl _ hx ?_) | fail)
            go_roundw
            case rel => exact ⟨4, by decide, rfl, by rw [hf.out]; exact HV.out⟩
            case measure => simp [intOf]
        · obtain rfl : j = 4 := hj.symm
          clear hj
          have c0 : wr.cell? ⟨0, 4, none⟩ = some (.int .i64 40) := Joins.cell_of_block HV.out.h3 4
          obtain ⟨x, hx⟩ : ∃ x, f 4 = x := ⟨_, rfl⟩
          rw [hx] at hf
          cases x with
          | true =>
            replace hf : Hid (255 - Hh.tk f 5 = d + -40) := hf.out
            go_wp2_with (first | (refine ixg rfl _ _ rfl f rfl 4 (by decide) rfl _ hx ?_) | (go_at_call 16; (with_reducible refine (Sy.iadd_n _ _ d _ _ (by omega) (by omega) (Joins.cell_of_block HV.out.head 0) (Joins.unfrozen_of_block HV.out.head 0)).mono ?_); rintro r W ⟨rfl, rfl⟩; replace HV := Lib.hid (fun y => turn HV.out hN y)) | fail)
            go_roundw
            case rel => exact ⟨5, by decide, rfl, by rw [hf.out]; exact HV.out _⟩
            case measure => simp [intOf]
          | false =>
            replace hf : Hid (255 - Hh.tk f 5 = d) := hf.out
            go_wp2_with (first | (refine ixg rfl _ _ rfl f rfl 4 (by decide) rfl _ hx ?_) | fail)
            go_roundw
            case rel => exact ⟨5, by decide, rfl, by rw [hf.out]; exact HV.out⟩
            case measure => simp [intOf]
      · obtain rfl : k = 5 := by omega
        have hd0 : -45 ≤ 255 - Hh.tk f 5 := by omega
        have hd1 : 255 - Hh.tk f 5 ≤ 255 := by omega
        clear h5
        obtain ⟨d, hD⟩ : ∃ d, 255 - Hh.tk f 5 = d := ⟨_, rfl⟩
        rw [hD] at hd0 hd1 HV
        have HD := Lib.hid hD
        clear hD
        go_wp2_with (first | (go_at_call 16; (with_reducible refine (Sy.iadd_n _ _ d _ _ (by omega) (by omega) (Joins.cell_of_block HV.out.head 0) (Joins.unfrozen_of_block HV.out.head 0)).mono ?_); rintro r W ⟨rfl, rfl⟩; replace HV := Lib.hid (fun y => turn HV.out hN y)) | (go_at_call 17; (with_reducible refine (Sy.iload _ _ _ _ (Joins.cell_of_block (HV.out _).head 0)).mono ?_); rintro r W ⟨rfl, rfl⟩) | fail)
        all_goals
          go_ret
          refine ⟨?_, (HV.out _).old⟩
          refine ret_i ?_
          rename_i h1
          have := HD.out
          first | rw [if_pos h] at h1 | rw [if_neg (by omega)] at h1
          omega

theorem longer_c (q : Int) (w : World) : Calls Tryd.prog 18 #[.int .i64 q] w fun r w' => r = .returned (.int .i64 (Hh.lg q)) ∧ w' = w := by
  go_enter Tryd.func18, Tryd.ntmps18
  go_wp2
  all_goals
    go_ret
    refine ⟨ret_i ?_, rfl⟩
    unfold Hh.lg
    omega

theorem well_c (q s : Int) (w : World) : Calls Tryd.prog 13 #[.agg (hc q s)] w fun r w' => r = .returned (.bool (Hh.well q s)) ∧ Below w.heap.size w w' := by
  have HB := Lib.hid ((Hv.nil w).made (ho q s))
  cases c1 : decide (128 ≤ s) with
  | false =>
    have e : Hh.well q s = false := by rw [Hh.well, c1]; rfl
    rw [e]
    clear e
    go_enter Tryd.func13, Tryd.ntmps13
    go_wp2_with (first | go_big_skip | fail)
    go_ret
    exact ⟨rfl, HB.out.old⟩
  | true =>
    have e : Hh.well q s = decide (q ≤ 5) := by rw [Hh.well, c1]; rfl
    rw [e]
    clear e
    go_enter Tryd.func13, Tryd.ntmps13
    go_wp2_with (first | go_big_skip | fail)
    go_ret
    exact ⟨rfl, HB.out.old⟩

/-- Three boxes, and the counts. -/
theorem three_h {w : World} {t : TypeId} (hR : w.heap[0]? = some (.cells cc t (0, 0))) (q s : Int) (f : Nat → Bool) : Hv w (((w.alloc (ho q s)).alloc (go f)).alloc (ho 0 0)) [(w.heap.size + 1 + 1, ho 0 0), (w.heap.size + 1, go f), (w.heap.size, ho q s), (0, .cells cc t (0, 0))] := by
  have := ((((Hv.nil w).add (0, .cells cc t (0, 0)) hR).made (ho q s)).made (go f)).made (ho 0 0)
  simpa only [World.size_alloc] using this

set_option maxRecDepth 100000 in
set_option maxHeartbeats 4000000 in
theorem step_c (q s : Int) (f : Nat → Bool) (g : Bool) (t : TypeId) (w : World) (hR : w.heap[0]? = some (.cells cc t (0, 0))) :
    Calls Tryd.prog 11 #[.agg (hc q s), .agg (g5 f), .bool g] w fun r w' => r = .returned (.agg (hc (Hh.nq q g) (Hh.sc f (Hh.nq q g)))) ∧ Below w.heap.size w w' := by
  have HV := Lib.hid (three_h hR q s f)
  have CL := Lib.hid (fun W => longer_c q W)
  obtain ⟨p, hp⟩ : ∃ p, Hh.nq q g = p := ⟨_, rfl⟩
  have CS := Lib.hid (fun W hR => score_c f p t W hR)
  rw [hp]
  generalize Hh.sc f p = y at *
  have hn : w.heap.size ≤ w.heap.size + 1 + 1 := by omega
  cases g with
  | true =>
    obtain rfl : 0 = p := hp
    clear CL hR
    go_enter Tryd.func11, Tryd.ntmps11
    go_wp2_with (first
      | (refine ldg rfl _ rfl _ _ rfl HV.out.h2 ?_)
      | (go_at_call 9; (with_reducible refine (CS.out _ HV.out.h4).mono ?_); rintro r W ⟨rfl, hb⟩; replace HV := Lib.hid (HV.out.grow hb); clear hb)
      | (refine sth rfl _ _ rfl rfl _ 0 0 _ _ rfl rfl HV.out.head ?_; intro w' hP hO; replace HV := Lib.hid (HV.out.old.trans (hO.below hn)); replace hP := Lib.hid hP; clear hO)
      | fail)
    refine bodyPost_ret (res_h rfl _ _ _ _ _ rfl hP.out) rfl ?_
    exact ⟨rfl, HV.out⟩
  | false =>
    have CL : Hid (∀ W, Calls Tryd.prog 18 #[.int .i64 q] W fun r w' => r = .returned (.int .i64 p) ∧ w' = W) := by subst hp; exact CL.out
    clear hp hR
    go_enter Tryd.func11, Tryd.ntmps11
    go_wp2_with (first
      | (refine ldg rfl _ rfl _ _ rfl HV.out.h2 ?_)
      | (go_at_call 18; (with_reducible refine (CL.out _).mono ?_); rintro r W ⟨rfl, rfl⟩)
      | (go_at_call 9; (with_reducible refine (CS.out _ HV.out.h4).mono ?_); rintro r W ⟨rfl, hb⟩; replace HV := Lib.hid (HV.out.grow hb); clear hb)
      | (refine sth rfl _ _ rfl rfl _ 0 0 _ _ rfl rfl HV.out.head ?_; intro w' hP hO; replace HV := Lib.hid (HV.out.old.trans (hO.below hn)); replace hP := Lib.hid hP; clear hO)
      | fail)
    refine bodyPost_ret (res_h rfl _ _ _ _ _ rfl hP.out) rfl ?_
    exact ⟨rfl, HV.out⟩
end Qw
end Go.Proofs.YtamlfoheoooapaaDoor
