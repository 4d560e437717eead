/- PlantRests. Printed by gen_law6.py. -/
import Derived.Test.YtioiffhbbhlgeaaPlantLawKit
import Derived.LoopTactic
namespace Go.Proofs.Ytioiffhbbhlgeaa
namespace Plw
open Go.RowKit TabC Lk Ew

theorem ord_r14 : Lk.orderedB (Lk.opsOf Try.f8 14) [(0, false), (1, false), (2, false), (4, false), (5, false), (6, false), (3, true), (7, true), (8, false), (9, false), (10, false), (11, false), (12, false), (13, false)] = true := by kernel_rfl
theorem ord_r17 : Lk.orderedB (Lk.opsOf Try.f8 17) [(0, false), (1, false), (2, false), (3, false), (4, false), (5, false), (6, false), (8, false), (7, true), (9, false), (10, false), (11, false)] = true := by kernel_rfl
/-- The boxes of PlantRests: where it is, its drive, where it should be. -/
abbrev R4 (m s : Nat) (q : Pl.Pt) (d : Pl.Dr) (p : Pl.Pt) (e : Eg) : List (Nat × Obj) := [(m + 1 + 1, po q), (m + 1, dro d), (m, po p), (s, eo e)]
abbrev SN (V : World) (b m : Nat) (r q : Pl.Pt) : Prop := V.cell? ⟨b, 1, none⟩ = some (.int .i64 r.n2) ∧ V.cell? ⟨b, 4, none⟩ = some (.bool r.lit) ∧ V.cell? ⟨m + 1 + 1, 1, none⟩ = some (.int .i64 q.n2)
theorem sn {w V : World} {b m s : Nat} {r q p : Pl.Pt} {d : Pl.Dr} {e : Eg} (h : Hv w V ((b, po r) :: R4 m s q d p e)) : SN V b m r q := ⟨Joins.cell_of_block h.head 1, Joins.cell_of_block h.head 4, Joins.cell_of_block h.h2 1⟩
theorem r4_put {w W W' : World} {m s : Nat} {q r p : Pl.Pt} {d : Pl.Dr} {e : Eg} (h : Hv w W (R4 m s q d p e)) (hO : Off (m + 1 + 1) W W') (hP : W'.heap[m + 1 + 1]? = some (po r)) (hm : s < m) (hs : w.heap.size ≤ s) : Hv w W' (R4 m s r d p e) :=
  h.change hO hP (by intro x hx; simp only [List.mem_cons, List.not_mem_nil, or_false] at hx; rcases hx with rfl | rfl | rfl <;> (dsimp only; omega)) (by omega)
theorem tmod_in {n k : Int} (h : 0 ≤ n) (hk : 0 < k) : 0 ≤ n.tmod k ∧ n.tmod k < k := ⟨Int.tmod_nonneg k h, Int.tmod_lt_of_pos n hk⟩

set_option maxRecDepth 100000 in
set_option maxHeartbeats 16000000 in
theorem rests_few (e : Eg) (f n2 fr : Int) (hf : 0 ≤ f ∧ f ≤ 65535) (w : World) (h1 : fewE e = false) : Calls Try.prog 8 #[.agg (ec e), .int .u16 f, .int .u32 n2, .int .u8 fr] w fun r w' => r = .returned (.bool true) ∧ Below w.heap.size w w' := by
  have HV := Lib.hid (one_e w e)
  have F1 := Lib.hid (Ew.few_v h1)
  have m0 : IntKind.i64.wrap f = f := IntWalk.i64_in _ (by omega)
  clear h1 hf
  go_enter Try.func8, Try.ntmps8
  go_wp2_with (first | go_big_skip | (refine lde rfl _ rfl _ _ rfl HV.out.head ?_) | (go_at_call 9; (with_reducible refine (awake_c _).mono ?_); rintro r W ⟨rfl, hb⟩; replace HV := Lib.hid (HV.out.grow hb); clear hb) | (go_at_call 10; (with_reducible refine (F1.out _).mono ?_); rintro r W ⟨rfl, hb⟩; replace HV := Lib.hid (HV.out.grow hb); clear hb) | (refine ldi rfl _ rfl (w.heap.size) 14 e.lean rfl (Joins.cell_of_block HV.out.head 14) ?_) | fail)
  go_ret
  exact ⟨rfl, HV.out.old⟩
set_option maxRecDepth 100000 in
set_option maxHeartbeats 16000000 in
theorem rests_no (e : Eg) (f n2 fr : Int) (hf : 0 ≤ f ∧ f ≤ 65535) (w : World) (hE : EngIn w e) (h1 : fewE e = true) (h2 : Em.okB (en e) = false) : Calls Try.prog 8 #[.agg (ec e), .int .u16 f, .int .u32 n2, .int .u8 fr] w fun r w' => r = .returned (.bool true) ∧ Below w.heap.size w w' := by
  have HV := Lib.hid (one_e w e)
  have F1 := Lib.hid (Ew.few_v h1)
  have F2 := Lib.hid (fun W (hW : Below w.heap.size w W) => check_no e W (hE.below hW) h2)
  have m0 : IntKind.i64.wrap f = f := IntWalk.i64_in _ (by omega)
  clear h1 h2 hE hf
  go_enter Try.func8, Try.ntmps8
  go_wp2_with (first | go_big_skip | (refine lde rfl _ rfl _ _ rfl HV.out.head ?_) | (go_at_call 9; (with_reducible refine (awake_c _).mono ?_); rintro r W ⟨rfl, hb⟩; replace HV := Lib.hid (HV.out.grow hb); clear hb) | (go_at_call 10; (with_reducible refine (F1.out _).mono ?_); rintro r W ⟨rfl, hb⟩; replace HV := Lib.hid (HV.out.grow hb); clear hb) | (go_at_call 17; (with_reducible refine (F2.out _ HV.out.old).mono ?_); rintro r W ⟨rfl, hb⟩; replace HV := Lib.hid (HV.out.grow hb); clear hb) | (refine ldi rfl _ rfl (w.heap.size) 14 e.lean rfl (Joins.cell_of_block HV.out.head 14) ?_) | fail)
  go_ret
  exact ⟨rfl, HV.out.old⟩
set_option maxRecDepth 100000 in
set_option maxHeartbeats 16000000 in
theorem rests_lean (e : Eg) (f n2 fr : Int) (hf : 0 ≤ f ∧ f ≤ 65535) (w : World) (hE : EngIn w e) (h1 : fewE e = true) (h2 : Em.okB (en e) = true) (k1 : decide (f < e.lean) = true) : Calls Try.prog 8 #[.agg (ec e), .int .u16 f, .int .u32 n2, .int .u8 fr] w fun r w' => r = .returned (.bool true) ∧ Below w.heap.size w w' := by
  have HV := Lib.hid (one_e w e)
  have F1 := Lib.hid (Ew.few_v h1)
  have F2 := Lib.hid (fun W (hW : Below w.heap.size w W) => check_ok e W (hE.below hW) h2)
  have m0 : IntKind.i64.wrap f = f := IntWalk.i64_in _ (by omega)
  clear h1 h2 hE hf
  go_enter Try.func8, Try.ntmps8
  go_wp2_with (first | go_big_skip | (refine lde rfl _ rfl _ _ rfl HV.out.head ?_) | (go_at_call 9; (with_reducible refine (awake_c _).mono ?_); rintro r W ⟨rfl, hb⟩; replace HV := Lib.hid (HV.out.grow hb); clear hb) | (go_at_call 10; (with_reducible refine (F1.out _).mono ?_); rintro r W ⟨rfl, hb⟩; replace HV := Lib.hid (HV.out.grow hb); clear hb) | (go_at_call 17; (with_reducible refine (F2.out _ HV.out.old).mono ?_); rintro r W ⟨rfl, hb⟩; replace HV := Lib.hid (HV.out.grow hb); clear hb) | (refine ldi rfl _ rfl (w.heap.size) 14 e.lean rfl (Joins.cell_of_block HV.out.head 14) ?_) | fail)
  go_ret
  exact ⟨rfl, HV.out.old⟩
set_option maxRecDepth 100000 in
set_option maxHeartbeats 16000000 in
theorem rests_go (e : Eg) (f n2 fr : Int) (hf : 0 ≤ f ∧ f ≤ 65535) (hn2 : 0 ≤ n2 ∧ n2 ≤ 4294967295) (hfr : 0 ≤ fr ∧ fr ≤ 255) (w : World) (hE : EngIn w e) (h1 : fewE e = true) (h2 : Em.okB (en e) = true) (k1 : decide (f < e.lean) = false) : Calls Try.prog 8 #[.agg (ec e), .int .u16 f, .int .u32 n2, .int .u8 fr] w fun r w' => r = .returned (.bool true) ∧ Below w.heap.size w w' := by
  have HV := Lib.hid (one_e w e)
  have F1 := Lib.hid (Ew.few_v h1)
  have F2 := Lib.hid (fun W (hW : Below w.heap.size w W) => check_ok e W (hE.below hW) h2)
  have m0 : IntKind.i64.wrap f = f := IntWalk.i64_in _ (by omega)
  have m1 : IntKind.i64.wrap n2 = n2 := IntWalk.i64_in _ (by omega)
  have m2 : IntKind.i64.wrap fr = fr := IntWalk.i64_in _ (by omega)
  have bx := tmod_in hn2.1 (show (0 : Int) < 1048576 by decide)
  have bN := tmod_in hfr.1 (show (0 : Int) < 50 by decide)
  obtain ⟨x, hx⟩ : ∃ x, n2.tmod 1048576 = x := ⟨_, rfl⟩
  obtain ⟨N, hN⟩ : ∃ N : Nat, fr.tmod 50 = N := ⟨(fr.tmod 50).toNat, by omega⟩
  rw [hx] at bx
  rw [hN] at bN
  have k1' : e.lean ≤ f := Int.not_lt.1 (of_decide_eq_false k1)
  have C1 := Lib.hid (fun W (hW : Below w.heap.size w W) => rest_ok e f W (hE.below hW) h2)
  have hr : Pl.rest (en e) f = ⟨Em.n1 (en e) f, Em.n2 (en e) f, Em.ht (en e) f, f, true⟩ := rfl
  have C2 : Hid (∀ W, Below w.heap.size w W → Calls Try.prog 18 #[.agg (ec e), .agg (pc (Pl.rest (en e) f)), .agg (dc (⟨f, true, false, false, 0, 0, 0, false⟩ : Pl.Dr)), .int .i64 fr] W fun r w' => r = .returned (.agg (pc (Pl.rest (en e) f))) ∧ Below W.heap.size W w') := Lib.hid (fun W hW => by
    have := run_c e (Pl.rest (en e) f) (Pl.burn f) fr W (hE.below hW)
    rwa [if_neg (show ¬ (10000 : Int) < fr by omega), Pl.rest_runs h2 k1' (by omega)] at this)
  have HN : Hid (∀ a b c : Int, 0 ≤ b ∧ b ≤ 1048576 → ∃ a' b' c' : Int, Pl.step (en e) ⟨a, b, c, f, true⟩ (⟨f, true, false, false, 0, 0, 0, false⟩ : Pl.Dr) = ⟨a', b', c', f, true⟩ ∧ (0 ≤ b' ∧ b' ≤ 1048576) ∧ Pl.dist b' (Em.n2 (en e) f) ≤ Pl.dist b (Em.n2 (en e) f)) := Lib.hid (fun a b c a3 => by
    obtain ⟨b1, b2, b3, b4, b5⟩ := Pl.nearer (e := en e) (p := ⟨a, b, c, f, true⟩) h2 (show (en e).lean ≤ f from k1') (by omega) rfl rfl a3.1 a3.2
    refine ⟨Pl.m1 (en e) ⟨a, b, c, f, true⟩ (Pl.burn f), Pl.m2 (en e) ⟨a, b, c, f, true⟩ (Pl.burn f), Pl.mh (en e) ⟨a, b, c, f, true⟩ (Pl.burn f), ?_, ⟨b4, b5⟩, b1⟩
    have z : Pl.step (en e) ⟨a, b, c, f, true⟩ (Pl.burn f) = ⟨Pl.m1 (en e) ⟨a, b, c, f, true⟩ (Pl.burn f), Pl.m2 (en e) ⟨a, b, c, f, true⟩ (Pl.burn f), Pl.mh (en e) ⟨a, b, c, f, true⟩ (Pl.burn f), Pl.vl (en e) ⟨a, b, c, f, true⟩ (Pl.burn f), Pl.lt (en e) ⟨a, b, c, f, true⟩ (Pl.burn f)⟩ := by rw [Pl.step, if_pos h2]; rfl
    rw [b2, b3] at z
    exact z)
  have CS := Lib.hid (fun (q r : Pl.Pt) (h : Pl.step (en e) q (⟨f, true, false, false, 0, 0, 0, false⟩ : Pl.Dr) = r) W (hW : Below w.heap.size w W) => step_v h (hE.below hW))
  have BA : 0 ≤ Em.n2 (en e) f ∧ Em.n2 (en e) f ≤ 1048576 := Em.n2_bd (Pl.fit h2).ok f
  have HA := Lib.hid (fun (n : Int) (hn : 0 ≤ n ∧ n ≤ 1048576) W => apart_c n (Em.n2 (en e) f) W hn BA)
  rw [hr] at C2
  generalize Em.n2 (en e) f = R2 at *
  generalize Em.n1 (en e) f = R1 at *
  generalize Em.ht (en e) f = RH at *
  have hn := Lib.hid (Nat.le_refl w.heap.size)
  have hN5 : N ≤ 50 := by omega
  have BX := Lib.hid (show 0 ≤ x ∧ x ≤ 1048576 by omega)
  clear h1 h2 hE hf hn2 hfr bx bN k1' hr BA
  go_enter Try.func8, Try.ntmps8
  go_upto_region 6 with (first | go_big_skip | (refine lde rfl _ rfl _ _ rfl HV.out.head ?_) | (go_at_call 9; (with_reducible refine (awake_c _).mono ?_); rintro r W ⟨rfl, hb⟩; replace HV := Lib.hid (HV.out.grow hb); clear hb) | (go_at_call 10; (with_reducible refine (F1.out _).mono ?_); rintro r W ⟨rfl, hb⟩; replace HV := Lib.hid (HV.out.grow hb); clear hb) | (go_at_call 17; (with_reducible refine (F2.out _ HV.out.old).mono ?_); rintro r W ⟨rfl, hb⟩; replace HV := Lib.hid (HV.out.grow hb); clear hb) | (refine ldi rfl _ rfl (w.heap.size) 14 e.lean rfl (Joins.cell_of_block HV.out.head 14) ?_) | (go_at_call 19; (with_reducible refine (C1.out _ HV.out.old).mono ?_); rintro r W ⟨rfl, hb⟩; replace HV := Lib.hid (HV.out.grow hb); clear hb) | fail)
  clear F1 F2 C1 k1
  have hm := Lib.hid (show w.heap.size < W.heap.size from HV.out.lt List.mem_cons_self)
  go_upto_region 7 with fail
  replace HV := Lib.hid (HV.out.made (po ⟨R1, R2, RH, f, true⟩))
  go_upto_region 8 with fail
  replace HV := Lib.hid (HV.out.made (dro ⟨f, true, false, false, 0, 0, 0, false⟩))
  simp only [World.size_alloc] at HV
  go_upto_region 9 with (first | (refine ldp rfl _ rfl _ ⟨R1, R2, RH, f, true⟩ rfl HV.out.h2 ?_) | fail)
  replace HV := Lib.hid (HV.out.made (po ⟨R1, R2, RH, f, true⟩))
  simp only [World.size_alloc] at HV
  have HW : Hid (Hv w _ (R4 W.heap.size w.heap.size ⟨R1, R2, RH, f, true⟩ ⟨f, true, false, false, 0, 0, 0, false⟩ ⟨R1, R2, RH, f, true⟩ e)) := HV
  replace HV := HW
  clear HW
  generalize W.heap.size = m at *
  go_wp2_with (first | (refine sti rfl _ _ rfl rfl (m + 1 + 1) 1 ⟨R1, R2, RH, f, true⟩ ⟨R1, x, RH, f, true⟩ x R2 rfl rfl HV.out.head rfl rfl ?_; intro w' hP hO; replace HV := Lib.hid (r4_put HV.out hO hP hm.out hn.out); clear hP hO) | fail)
  go_loopw [17, 18] (fun i _ wr => ∃ (k : Nat) (a b c : Int), k ≤ N ∧ i = .int .i64 k ∧ (0 ≤ b ∧ b ≤ 1048576) ∧ Hv w wr (R4 m w.heap.size ⟨a, b, c, f, true⟩ ⟨f, true, false, false, 0, 0, 0, false⟩ ⟨R1, R2, RH, f, true⟩ e)) (fun i _ _ => N - (intOf i).toNat)
  case atStart => exact ⟨0, R1, x, RH, Nat.zero_le _, rfl, BX.out, HV.out⟩
  case round =>
    clear HV
    obtain ⟨k, q1, q2, qh, hk, rfl, q3, hv⟩ := hrel
    have HV := Lib.hid hv
    clear hv
    by_cases hlt : k < N
    · have hlt2 : (k : Int) < N := by omega
      have hk2 : k + 1 ≤ N := hlt
      have mk : IntKind.i64.wrap ((k : Int) + 1) = (k : Int) + 1 := IntWalk.i64_in _ (by omega)
      obtain ⟨r1, r2, rh, hs, r3, r4⟩ := HN.out q1 q2 qh q3
      have C := Lib.hid (CS.out _ _ hs)
      have D1 := Lib.hid (HA.out r2 r3)
      have D2 := Lib.hid (HA.out q2 q3)
      have k3 : decide (Pl.dist q2 R2 < Pl.dist r2 R2) = false := decide_eq_false (by omega)
      have GR := Lib.hid r3
      generalize Pl.dist q2 R2 = z1 at *
      generalize Pl.dist r2 R2 = z2 at *
      clear hs q3 r3 r4
      go_upto_region 14 with (first | (refine lde rfl _ rfl _ _ rfl HV.out.h4 ?_) | (refine ldp rfl _ rfl _ ⟨q1, q2, qh, f, true⟩ rfl HV.out.head ?_) | (refine ldd rfl _ rfl _ _ rfl HV.out.h2 ?_) | (go_at_call 13; (with_reducible refine (C.out _ HV.out.old).mono ?_); rintro y W2 ⟨rfl, hb⟩; replace HV := Lib.hid (HV.out.grow hb); clear hb; have HB := Lib.hid (show m + 1 + 1 < W2.heap.size from HV.out.lt List.mem_cons_self); replace HV := Lib.hid (HV.out.made (po ⟨r1, r2, rh, f, true⟩))) | fail)
      generalize W2.heap.size = b at *
      refine wp_region_noPanic (Lk.wp_region_ordered ord_r14 (fun V => SN V b m ⟨r1, r2, rh, f, true⟩ ⟨q1, q2, qh, f, true⟩) (by kernel_rfl) (by kernel_rfl) (fun _ _ _ _ _ h => h) (by first | (with_reducible exact (sn HV.out)) | (with_reducible exact (sn HV.out.drew))) ?_)
      replace HV := Lib.hid HV.out.drew
      iterate 6 (refine Lk.ord_take ?_ rfl rfl ?_ ?_; rotate_left; (focus (intro w' hS; (try dsimp only at hS); go_simp; try with_reducible rfl)); simp only [Act.put, List.setIfInBounds_toArray, List.set_cons_zero, List.set_cons_succ])
      refine Lk.ord_step rfl rfl (fun K hK => ?_)
      go_simp
      (with_reducible refine (D1.out _).mono ?_)
      rintro r W ⟨rfl, rfl⟩
      refine hK.out _ _ (by first | (with_reducible exact (sn HV.out)) | (with_reducible exact (sn HV.out.drew))) ?_
      clear hK K
      try simp only [Act.put, List.setIfInBounds_toArray, List.set_cons_zero, List.set_cons_succ]
      refine Lk.ord_step rfl rfl (fun K hK => ?_)
      go_simp
      (with_reducible refine (D2.out _).mono ?_)
      rintro r W ⟨rfl, rfl⟩
      refine hK.out _ _ (by first | (with_reducible exact (sn HV.out)) | (with_reducible exact (sn HV.out.drew))) ?_
      clear hK K
      try simp only [Act.put, List.setIfInBounds_toArray, List.set_cons_zero, List.set_cons_succ]
      iterate 6 (refine Lk.ord_take ?_ rfl rfl ?_ ?_; rotate_left; (focus (intro w' hS; (try dsimp only at hS); go_simp; try with_reducible rfl)); simp only [Act.put, List.setIfInBounds_toArray, List.set_cons_zero, List.set_cons_succ])
      refine Lk.ord_nil (NoPanic.normal ?_)
      replace HV := Lib.hid (hv_swap HV.out)
      clear D1 D2 C
      go_wp2_with (first | (refine ldp rfl _ rfl b ⟨r1, r2, rh, f, true⟩ rfl HV.out.h2 ?_) | (refine stp rfl _ _ rfl rfl (m + 1 + 1) ⟨q1, q2, qh, f, true⟩ ⟨r1, r2, rh, f, true⟩ rfl rfl HV.out.head ?_; intro w' hP hO; replace HV := Lib.hid (r4_put (hv_swap HV.out).tail hO hP hm.out hn.out); clear hP hO) | fail)
      go_roundw
      case rel => exact ⟨k + 1, r1, r2, rh, hk2, by go_num, GR.out, HV.out⟩
      case measure => simp only [intOf, Int.toNat_natCast]; omega
    · obtain rfl : k = N := by omega
      clear HN CS HA q3
      go_wp2_with fail
      refine wp_region_noPanic (Lk.wp_region_ordered ord_r17 (fun V => V.heap[w.heap.size]? = some (eo e) ∧ V.heap[m]? = some (po ⟨R1, R2, RH, f, true⟩) ∧ V.heap[m + 1]? = some (dro ⟨f, true, false, false, 0, 0, 0, false⟩)) (by kernel_rfl) (by kernel_rfl) (fun _ _ _ _ _ h => h) (by first | (with_reducible exact ⟨HV.out.h4, HV.out.h3, HV.out.h2⟩) | (with_reducible exact ⟨HV.out.drew.h4, HV.out.drew.h3, HV.out.drew.h2⟩)) ?_)
      replace HV := Lib.hid HV.out.drew
      iterate 8 (refine Lk.ord_take ?_ rfl rfl ?_ ?_; rotate_left; (focus (intro w' hS; (try dsimp only at hS); first | (refine (rE hS.1 _ rfl rfl).trans ?_; with_reducible rfl) | (refine (rPl (p := ⟨R1, R2, RH, f, true⟩) hS.2.1 _ rfl rfl).trans ?_; with_reducible rfl) | (refine (rDr (d := ⟨f, true, false, false, 0, 0, 0, false⟩) hS.2.2 _ rfl rfl).trans ?_; with_reducible rfl) | (refine (rEq (p := ⟨R1, R2, RH, f, true⟩) _ _ rfl rfl rfl).trans ?_; with_reducible rfl) | (go_simp; try with_reducible rfl))); simp only [Act.put, List.setIfInBounds_toArray, List.set_cons_zero, List.set_cons_succ])
      refine Lk.ord_step rfl rfl (fun K hK => ?_)
      go_simp
      (with_reducible refine (C2.out _ HV.out.old).mono ?_)
      rintro r W ⟨rfl, hb⟩
      replace HV := Lib.hid (HV.out.grow hb)
      clear hb
      refine hK.out _ _ (by first | (with_reducible exact ⟨HV.out.h4, HV.out.h3, HV.out.h2⟩) | (with_reducible exact ⟨HV.out.drew.h4, HV.out.drew.h3, HV.out.drew.h2⟩)) ?_
      clear hK K
      try simp only [Act.put, List.setIfInBounds_toArray, List.set_cons_zero, List.set_cons_succ]
      iterate 3 (refine Lk.ord_take ?_ rfl rfl ?_ ?_; rotate_left; (focus (intro w' hS; (try dsimp only at hS); first | (refine (rE hS.1 _ rfl rfl).trans ?_; with_reducible rfl) | (refine (rPl (p := ⟨R1, R2, RH, f, true⟩) hS.2.1 _ rfl rfl).trans ?_; with_reducible rfl) | (refine (rDr (d := ⟨f, true, false, false, 0, 0, 0, false⟩) hS.2.2 _ rfl rfl).trans ?_; with_reducible rfl) | (refine (rEq (p := ⟨R1, R2, RH, f, true⟩) _ _ rfl rfl rfl).trans ?_; with_reducible rfl) | (go_simp; try with_reducible rfl))); simp only [Act.put, List.setIfInBounds_toArray, List.set_cons_zero, List.set_cons_succ])
      refine Lk.ord_nil (NoPanic.normal ?_)
      go_wp2_with fail
      go_ret
      exact ⟨rfl, HV.out.old⟩
theorem PlantRests_walk (e : Eg) (f : Int) (hf : 0 ≤ f ∧ f ≤ 65535) (n2 : Int) (hn2 : 0 ≤ n2 ∧ n2 ≤ 4294967295) (fr : Int) (hfr : 0 ≤ fr ∧ fr ≤ 255) (w : World) (hE : EngIn w e) : Calls Try.prog 8 #[.agg (ec e), .int .u16 f, .int .u32 n2, .int .u8 fr] w fun r w' => r = .returned (.bool true) ∧ Below w.heap.size w w' := by
  cases h1 : fewE e with
  | false => exact rests_few e f n2 fr hf w h1
  | true =>
    cases h2 : Em.okB (en e) with
    | false => exact rests_no e f n2 fr hf w hE h1 h2
    | true =>
      cases k1 : decide (f < e.lean) with
      | true => exact rests_lean e f n2 fr hf w hE h1 h2 k1
      | false => exact rests_go e f n2 fr hf hn2 hfr w hE h1 h2 k1

end Plw
end Go.Proofs.Ytioiffhbbhlgeaa
