/- The walk of LimitHolds. -/
import Derived.Test.YtjjconkelbjodaaLimitLaw1
import Derived.BigQuiet
import Derived.Deep.QuietTactic
namespace Go.Proofs.Ytjjconkelbjodaa
namespace Lw5
open Go.RowKit FixC Lk Ew Hw

abbrev uc3 (a b c : Int) : Array Value := #[.int .u16 a, .int .u16 b, .int .u16 c]
abbrev uo3 (a b c : Int) : Obj := .cells (uc3 a b c) 39 (0, 0)
theorem two_u3 (w : World) (l : Lg) (a b c : Int) : Hv w ((w.alloc (lo l)).alloc (uo3 a b c)) [(w.heap.size + 1, uo3 a b c), (w.heap.size, lo l)] := by
  have := (one_l w l).made (uo3 a b c)
  rwa [World.size_alloc] at this
theorem hv_drewn {w W : World} {L : List (Nat × Obj)} (h : Hv w W L) (k : Nat) : Hv w (W.drewN k) L := ⟨h.has, h.old.trans ⟨rfl, rfl, rfl, Nat.le_refl _, fun _ _ => rfl⟩⟩
section
variable {ops : Array Oper} {rest : List Oper} {op : Oper} {a : Act} {w : World} {Q : Exit → Act → World → Prop}
theorem sta3 (hgd : op.guard = none) (x y : Operand) (ho : op.op = .store 30 x y) (hd : op.dst = none)
    (g : Nat) (p q r s t u : Int) (hx : a.eval x = .pointer (some ⟨g, 0, none⟩)) (hy : a.eval y = .agg (ac3 s t u)) (hP : w.heap[g]? = some (ao3 p q r))
    (h : ∀ w', w'.heap[g]? = some (ao3 s t u) → Off g w w' → wpList Try.prog ops Q rest a w') : wpList Try.prog ops Q (op :: rest) a w := by
  refine wpList_plain hgd fun _ hK => wp_store_row 30 x y ho g (ac3 s t u) hx hy 30 (ac3 p q r) hP info_a3 rfl (ac3_one s t u) (hK _ _ ?_)
  rw [hd]
  exact h _ (setRow_heap w g (ac3 p q r) (ac3 s t u) 30 (0, 0) hP) (Off.row w g _)
end

set_option maxHeartbeats 4000000 in
theorem LimitHolds_few (l : Lg) (a b c f n : Int) (w : World) (h1 : fewL l = false) : Calls Try.prog 6 #[.agg (lc l), .agg (uc3 a b c), .int .u16 f, .int .u8 n] w fun e w' => e = .returned (.bool true) ∧ Below w.heap.size w w' := by
  have HV := Lib.hid (two_u3 w l a b c)
  have F1 := Lib.hid (fewl_v h1)
  clear h1
  go_enter Try.func6, Try.ntmps6
  go_wp2_with (first | (refine ldl rfl _ rfl _ _ rfl HV.out.h2 ?_) | (go_at_call 8; (with_reducible refine (awake_c _).mono ?_); rintro e W ⟨rfl, hb⟩; replace HV := Lib.hid (HV.out.grow hb); clear hb) | (go_at_call 11; (with_reducible refine (F1.out _).mono ?_); rintro e W ⟨rfl, hb⟩; replace HV := Lib.hid (HV.out.grow hb); clear hb) | fail)
  go_ret
  exact ⟨rfl, HV.out.old⟩

set_option maxHeartbeats 4000000 in
theorem LimitHolds_no (l : Lg) (a b c f n : Int) (w : World) (hL : LawIn w l) (h1 : fewL l = true) (h2 : Sd.okB (la l) = false) : Calls Try.prog 6 #[.agg (lc l), .agg (uc3 a b c), .int .u16 f, .int .u8 n] w fun e w' => e = .returned (.bool true) ∧ Below w.heap.size w w' := by
  have HV := Lib.hid (two_u3 w l a b c)
  have F1 := Lib.hid (fewl_v h1)
  have C0 := Lib.hid (fun W (hb : Below w.heap.size w W) => cl_no l W (hL.below hb) h2)
  clear h1 h2 hL
  go_enter Try.func6, Try.ntmps6
  go_wp2_with (first | (refine ldl rfl _ rfl _ _ rfl HV.out.h2 ?_) | (go_at_call 8; (with_reducible refine (awake_c _).mono ?_); rintro e W ⟨rfl, hb⟩; replace HV := Lib.hid (HV.out.grow hb); clear hb) | (go_at_call 11; (with_reducible refine (F1.out _).mono ?_); rintro e W ⟨rfl, hb⟩; replace HV := Lib.hid (HV.out.grow hb); clear hb) | (go_at_call 16; (with_reducible refine (C0.out _ HV.out.old).mono ?_); rintro e W ⟨rfl, hb⟩; replace HV := Lib.hid (HV.out.grow hb); clear hb) | fail)
  go_ret
  exact ⟨rfl, HV.out.old⟩

set_option maxHeartbeats 4000000 in
theorem LimitHolds_lean (l : Lg) (a b c f n : Int) (w : World) (hL : LawIn w l) (h1 : fewL l = true) (h2 : Sd.okB (la l) = true) (h3 : f ≤ n) (hf : 0 ≤ f ∧ f ≤ 65535) (hn : 0 ≤ n ∧ n ≤ 255) : Calls Try.prog 6 #[.agg (lc l), .agg (uc3 a b c), .int .u16 f, .int .u8 n] w fun e w' => e = .returned (.bool true) ∧ Below w.heap.size w w' := by
  have HV := Lib.hid (two_u3 w l a b c)
  have F1 := Lib.hid (fewl_v h1)
  have C0 := Lib.hid (fun W (hb : Below w.heap.size w W) => cl_ok l W (hL.below hb) h2)
  have d1 : decide (f ≤ n) = true := decide_eq_true h3
  clear h1 h2 hL
  go_enter Try.func6, Try.ntmps6
  go_wp2_with (first | (refine ldl rfl _ rfl _ _ rfl HV.out.h2 ?_) | (go_at_call 8; (with_reducible refine (awake_c _).mono ?_); rintro e W ⟨rfl, hb⟩; replace HV := Lib.hid (HV.out.grow hb); clear hb) | (go_at_call 11; (with_reducible refine (F1.out _).mono ?_); rintro e W ⟨rfl, hb⟩; replace HV := Lib.hid (HV.out.grow hb); clear hb) | (go_at_call 16; (with_reducible refine (C0.out _ HV.out.old).mono ?_); rintro e W ⟨rfl, hb⟩; replace HV := Lib.hid (HV.out.grow hb); clear hb) | fail)
  go_ret
  exact ⟨rfl, HV.out.old⟩

def ov (o1 o2 o3 : Bool) : Nat → Bool
  | 0 => false
  | 1 => o1
  | 2 => o1 || o2
  | _ => o1 || o2 || o3
def be (o1 o2 o3 : Bool) : Nat → Bool
  | 0 => true
  | 1 => o1
  | 2 => o1 && o2
  | _ => o1 && o2 && o3

set_option maxRecDepth 100000 in
set_option maxHeartbeats 8000000 in
theorem LimitHolds_main (l : Lg) (a b c : Int) (ha : 0 ≤ a ∧ a ≤ 65535) (hb : 0 ≤ b ∧ b ≤ 65535) (hc : 0 ≤ c ∧ c ≤ 65535) (f : Int) (hf : 0 ≤ f ∧ f ≤ 65535) (n : Int) (hn : 0 ≤ n ∧ n ≤ 255) (w : World) (hL : LawIn w l) (h1 : fewL l = true) (h2 : Sd.okB (la l) = true) (h3 : n < f) : Calls Try.prog 6 #[.agg (lc l), .agg (uc3 a b c), .int .u16 f, .int .u8 n] w fun e w' => e = .returned (.bool true) ∧ Below w.heap.size w w' := by
  have K := Sd.ok_of h2
  obtain ⟨R1, R2, RE, Mg⟩ : (l.margin ≤ l.red1 ∧ l.red1 ≤ 1048576) ∧ (l.margin ≤ l.red2 ∧ l.red2 ≤ 1048576) ∧ (l.margin ≤ l.redE ∧ l.redE ≤ 1048576) ∧ (1 ≤ l.margin ∧ l.margin ≤ 1048576) := ⟨K.red1, K.red2, K.redE, K.margin⟩
  clear K
  obtain ⟨t1, e1⟩ : ∃ t, Lt.trim a l.red1 l.margin f n = t := ⟨_, rfl⟩
  obtain ⟨t2, e2⟩ : ∃ t, Lt.trim b l.red2 l.margin f n = t := ⟨_, rfl⟩
  obtain ⟨t3, e3⟩ : ∃ t, Lt.trim c l.redE l.margin f n = t := ⟨_, rfl⟩
  have s1 : t1 = Lt.core a l.red1 l.margin f n := by rw [← e1]; exact Lt.trim_is (by omega) (by omega) (by omega) (by omega) (by omega)
  have s2 : t2 = Lt.core b l.red2 l.margin f n := by rw [← e2]; exact Lt.trim_is (by omega) (by omega) (by omega) (by omega) (by omega)
  have s3 : t3 = Lt.core c l.redE l.margin f n := by rw [← e3]; exact Lt.trim_is (by omega) (by omega) (by omega) (by omega) (by omega)
  obtain ⟨M, eM⟩ : ∃ M, Lt.least t1 t2 t3 = M := ⟨_, rfl⟩
  obtain ⟨y, ey⟩ : ∃ y, Lt.which t1 t2 t3 f = y := ⟨_, rfl⟩
  have hy := Lt.which_in t1 t2 t3 f
  rw [ey] at hy
  have hover : (l.red1 ≤ a ∨ l.red2 ≤ b ∨ l.redE ≤ c) → M = n ∧ 0 < y := fun h => by
    rw [← eM, ← ey, s1, s2, s3]
    exact Lt.holds_over (by omega) h3 h
  have hbelow : a ≤ l.red1 - l.margin → b ≤ l.red2 - l.margin → c ≤ l.redE - l.margin → M = f ∧ y = 0 := fun h h' h'' => by
    rw [← eM, ← ey, s1, s2, s3]
    exact Lt.holds_below h h' h''
  have C1 := Lib.hid (fun W (hb : Below w.heap.size w W) => ey ▸ least_ok l a b c f n t1 t2 t3 f M _ _ _ W (hL.below hb) h2 e1 e2 e3 (Fx.sat_id f (by omega) (by omega)) eM rfl rfl rfl)
  have C0 := Lib.hid (fun W (hb : Below w.heap.size w W) => cl_ok l W (hL.below hb) h2)
  have HV := Lib.hid (two_u3 w l a b c)
  have F1 := Lib.hid (fewl_v h1)
  have d1 : decide (f ≤ n) = false := decide_eq_false (by omega)
  obtain ⟨o1, g1⟩ : ∃ o, decide (l.red1 ≤ a) = o := ⟨_, rfl⟩
  obtain ⟨o2, g2⟩ : ∃ o, decide (l.red2 ≤ b) = o := ⟨_, rfl⟩
  obtain ⟨o3, g3⟩ : ∃ o, decide (l.redE ≤ c) = o := ⟨_, rfl⟩
  obtain ⟨b1, k1⟩ : ∃ o, decide (a ≤ l.red1 - l.margin) = o := ⟨_, rfl⟩
  obtain ⟨b2, k2⟩ : ∃ o, decide (b ≤ l.red2 - l.margin) = o := ⟨_, rfl⟩
  obtain ⟨b3, k3⟩ : ∃ o, decide (c ≤ l.redE - l.margin) = o := ⟨_, rfl⟩
  have HO : Hid (ov o1 o2 o3 3 = true → M = n ∧ 0 < y) := fun h => by
    refine hover ?_
    simp only [ov, ← g1, ← g2, ← g3, Bool.or_eq_true, decide_eq_true_eq] at h
    omega
  have HB : Hid (be b1 b2 b3 3 = true → M = f ∧ y = 0) := fun h => by
    simp only [be, ← k1, ← k2, ← k3, Bool.and_eq_true, decide_eq_true_eq] at h
    exact hbelow h.1.1 h.1.2 h.2
  have HG := Lib.hid (And.intro g1 (And.intro g2 g3))
  have HK := Lib.hid (And.intro k1 (And.intro k2 k3))
  clear e1 e2 e3 s1 s2 s3 eM ey hover hbelow h1 h2 hL g1 g2 g3 k1 k2 k3
  go_enter Try.func6, Try.ntmps6
  go_upto_region 4 with (first | (refine ldl rfl _ rfl _ _ rfl HV.out.h2 ?_) | (go_at_call 8; (with_reducible refine (awake_c _).mono ?_); rintro e W ⟨rfl, hb⟩; replace HV := Lib.hid (HV.out.grow hb); clear hb) | (go_at_call 11; (with_reducible refine (F1.out _).mono ?_); rintro e W ⟨rfl, hb⟩; replace HV := Lib.hid (HV.out.grow hb); clear hb) | (go_at_call 16; (with_reducible refine (C0.out _ HV.out.old).mono ?_); rintro e W ⟨rfl, hb⟩; replace HV := Lib.hid (HV.out.grow hb); clear hb) | fail)
  have hl := (lfld HV.out.h2)
  obtain ⟨_, _, _, _, _, _, m6, m7, m8, m9, _⟩ := hl
  go_wp2_with (first | (refine sta3 rfl _ _ rfl rfl _ 0 0 0 l.red1 l.red2 l.redE rfl rfl (HV.out.made (ao3 0 0 0)).head ?_; intro W7 hP hO; replace HV := Lib.hid (HV.out.put hP hO); clear hP hO) | fail)
  clear m6 m7 m8 m9
  generalize W.heap.size = q at *
  go_loopw [11, 12, 13] (fun o z i wr => ∃ k : Nat, k ≤ 3 ∧ i = .int .i64 k ∧ o = .bool (ov o1 o2 o3 k) ∧ z = .bool (be b1 b2 b3 k) ∧ Hv w wr [(q, ao3 l.red1 l.red2 l.redE), (w.heap.size + 1, uo3 a b c), (w.heap.size, lo l)]) (fun _ _ i _ => 3 - (intOf i).toNat)
  case atStart => exact ⟨0, by omega, rfl, rfl, rfl, HV.out⟩
  case round =>
    clear HV
    obtain ⟨k, hk, rfl, rfl, rfl, hv⟩ := hrel
    have HV := Lib.hid hv
    clear hv
    obtain rfl | rfl | rfl | rfl : k = 0 ∨ k = 1 ∨ k = 2 ∨ k = 3 := by omega
    · have go : ov o1 o2 o3 1 = (ov o1 o2 o3 0 || o1) := by simp [ov]
      have gb : be b1 b2 b3 1 = (be b1 b2 b3 0 && b1) := by simp [be]
      have x1 := HG.out.1
      have x2 := HK.out.1
      rw [show ((0 : Nat) : Int) = 0 from rfl]
      obtain ⟨O, eO⟩ : ∃ O, ov o1 o2 o3 0 = O := ⟨_, rfl⟩
      obtain ⟨B, eB⟩ : ∃ B, be b1 b2 b3 0 = B := ⟨_, rfl⟩
      rw [eO] at go ⊢
      rw [eB] at gb ⊢
      have GO := Lib.hid go
      have GB := Lib.hid gb
      clear go gb eO eB
      have cv := Joins.cell_of_block HV.out.h2 0
      have cr := Joins.cell_of_block HV.out.head 0
      simp only [List.getElem?_toArray, List.getElem?_cons_zero] at cv cr
      have cm := (lfld HV.out.h3).2.2.2.2.2.2.2.2.2.1
      cases O <;> cases B
      all_goals
        go_wp2_with fail
        go_quiet (fail)
        go_wp2_with fail
        replace HV := Lib.hid (hv_drewn HV.out nq)
        clear cv cr cm
        generalize wr.drewN nq = wr2 at *
        have cv := Joins.cell_of_block HV.out.h2 0
        have cr := Joins.cell_of_block HV.out.head 0
        simp only [List.getElem?_toArray, List.getElem?_cons_zero] at cv cr
        have cm := (lfld HV.out.h3).2.2.2.2.2.2.2.2.2.1
        go_quiet (fail)
        go_wp2_with fail
        go_roundw
        case rel => exact ⟨0 + 1, by omega, by go_num, by simp [GO.out], by simp [GB.out], hv_drewn HV.out _⟩
        case measure => simp [intOf]
    · have go : ov o1 o2 o3 2 = (ov o1 o2 o3 1 || o2) := by simp [ov]
      have gb : be b1 b2 b3 2 = (be b1 b2 b3 1 && b2) := by simp [be]
      have x1 := HG.out.2.1
      have x2 := HK.out.2.1
      rw [show ((1 : Nat) : Int) = 1 from rfl]
      obtain ⟨O, eO⟩ : ∃ O, ov o1 o2 o3 1 = O := ⟨_, rfl⟩
      obtain ⟨B, eB⟩ : ∃ B, be b1 b2 b3 1 = B := ⟨_, rfl⟩
      rw [eO] at go ⊢
      rw [eB] at gb ⊢
      have GO := Lib.hid go
      have GB := Lib.hid gb
      clear go gb eO eB
      have cv := Joins.cell_of_block HV.out.h2 1
      have cr := Joins.cell_of_block HV.out.head 1
      simp only [List.getElem?_toArray, List.getElem?_cons_zero, List.getElem?_cons_succ] at cv cr
      have cm := (lfld HV.out.h3).2.2.2.2.2.2.2.2.2.1
      cases O <;> cases B
      all_goals
        go_wp2_with fail
        go_quiet (fail)
        go_wp2_with fail
        replace HV := Lib.hid (hv_drewn HV.out nq)
        clear cv cr cm
        generalize wr.drewN nq = wr2 at *
        have cv := Joins.cell_of_block HV.out.h2 1
        have cr := Joins.cell_of_block HV.out.head 1
        simp only [List.getElem?_toArray, List.getElem?_cons_zero, List.getElem?_cons_succ] at cv cr
        have cm := (lfld HV.out.h3).2.2.2.2.2.2.2.2.2.1
        go_quiet (fail)
        go_wp2_with fail
        go_roundw
        case rel => exact ⟨1 + 1, by omega, by go_num, by simp [GO.out], by simp [GB.out], hv_drewn HV.out _⟩
        case measure => simp [intOf]
    · have go : ov o1 o2 o3 3 = (ov o1 o2 o3 2 || o3) := by simp [ov]
      have gb : be b1 b2 b3 3 = (be b1 b2 b3 2 && b3) := by simp [be]
      have x1 := HG.out.2.2
      have x2 := HK.out.2.2
      rw [show ((2 : Nat) : Int) = 2 from rfl]
      obtain ⟨O, eO⟩ : ∃ O, ov o1 o2 o3 2 = O := ⟨_, rfl⟩
      obtain ⟨B, eB⟩ : ∃ B, be b1 b2 b3 2 = B := ⟨_, rfl⟩
      rw [eO] at go ⊢
      rw [eB] at gb ⊢
      have GO := Lib.hid go
      have GB := Lib.hid gb
      clear go gb eO eB
      have cv := Joins.cell_of_block HV.out.h2 2
      have cr := Joins.cell_of_block HV.out.head 2
      simp only [List.getElem?_toArray, List.getElem?_cons_zero, List.getElem?_cons_succ] at cv cr
      have cm := (lfld HV.out.h3).2.2.2.2.2.2.2.2.2.1
      cases O <;> cases B
      all_goals
        go_wp2_with fail
        go_quiet (fail)
        go_wp2_with fail
        replace HV := Lib.hid (hv_drewn HV.out nq)
        clear cv cr cm
        generalize wr.drewN nq = wr2 at *
        have cv := Joins.cell_of_block HV.out.h2 2
        have cr := Joins.cell_of_block HV.out.head 2
        simp only [List.getElem?_toArray, List.getElem?_cons_zero, List.getElem?_cons_succ] at cv cr
        have cm := (lfld HV.out.h3).2.2.2.2.2.2.2.2.2.1
        go_quiet (fail)
        go_wp2_with fail
        go_roundw
        case rel => exact ⟨2 + 1, by omega, by go_num, by simp [GO.out], by simp [GB.out], hv_drewn HV.out _⟩
        case measure => simp [intOf]
    · rw [show ((3 : Nat) : Int) = 3 from rfl]
      obtain ⟨O, eO⟩ : ∃ O, ov o1 o2 o3 3 = O := ⟨_, rfl⟩
      obtain ⟨B, eB⟩ : ∃ B, be b1 b2 b3 3 = B := ⟨_, rfl⟩
      have ho := HO.out
      have hb := HB.out
      rw [eO] at ho ⊢
      rw [eB] at hb ⊢
      have u0 := Joins.cell_of_block HV.out.h2 0
      have u1 := Joins.cell_of_block HV.out.h2 1
      have u2 := Joins.cell_of_block HV.out.h2 2
      simp only [List.getElem?_toArray, List.getElem?_cons_zero, List.getElem?_cons_succ] at u0 u1 u2
      have d3 : decide (0 ≤ y) = true := decide_eq_true hy.1
      have d4 : decide (y ≤ 3) = true := decide_eq_true hy.2
      clear eO eB HO HB HG HK
      cases O
      · clear ho
        cases B
        · clear hb
          go_wp2_with (first | (refine ldl rfl _ rfl _ _ rfl HV.out.h3 ?_) | (go_at_call 12; (with_reducible refine (C1.out _ HV.out.old).mono ?_); rintro e W ⟨rfl, hb⟩; replace HV := Lib.hid (HV.out.grow hb); clear hb) | fail)
          go_ret
          exact ⟨rfl, HV.out.old⟩
        · obtain ⟨rfl, rfl⟩ := hb rfl
          go_wp2_with (first | (refine ldl rfl _ rfl _ _ rfl HV.out.h3 ?_) | (go_at_call 12; (with_reducible refine (C1.out _ HV.out.old).mono ?_); rintro e W ⟨rfl, hb⟩; replace HV := Lib.hid (HV.out.grow hb); clear hb) | fail)
          go_ret
          exact ⟨rfl, HV.out.old⟩
      · obtain ⟨rfl, hy0⟩ := ho rfl
        have d5 : decide (0 < y) = true := decide_eq_true hy0
        cases B
        · clear hb
          go_wp2_with (first | (refine ldl rfl _ rfl _ _ rfl HV.out.h3 ?_) | (go_at_call 12; (with_reducible refine (C1.out _ HV.out.old).mono ?_); rintro e W ⟨rfl, hb⟩; replace HV := Lib.hid (HV.out.grow hb); clear hb) | fail)
          go_ret
          exact ⟨rfl, HV.out.old⟩
        · exfalso
          have := (hb rfl).2
          omega

theorem LimitHolds_walk (l : Lg) (a b c : Int) (ha : 0 ≤ a ∧ a ≤ 65535) (hb : 0 ≤ b ∧ b ≤ 65535) (hc : 0 ≤ c ∧ c ≤ 65535) (f : Int) (hf : 0 ≤ f ∧ f ≤ 65535) (n : Int) (hn : 0 ≤ n ∧ n ≤ 255) (w : World) (hL : LawIn w l) : Calls Try.prog 6 #[.agg (lc l), .agg (uc3 a b c), .int .u16 f, .int .u8 n] w fun e w' => e = .returned (.bool true) ∧ Below w.heap.size w w' := by
  cases h1 : fewL l with
  | false => exact LimitHolds_few l a b c f n w h1
  | true =>
    cases h2 : Sd.okB (la l) with
    | false => exact LimitHolds_no l a b c f n w hL h1 h2
    | true =>
      by_cases h3 : f ≤ n
      · exact LimitHolds_lean l a b c f n w hL h1 h2 h3 hf hn
      · exact LimitHolds_main l a b c ha hb hc f hf n hn w hL h1 h2 (by omega)

end Lw5
end Go.Proofs.Ytjjconkelbjodaa
