/- The walk of ModeRests. Printed by gen_laws.py. -/
import Derived.Test.YtodilljomjhohaaDoorCc
import Derived.RangeFuncNested
import Derived.Deep.CutRange
import Derived.Lib.MinMax
namespace Go.Proofs.YtodilljomjhohaaDoor
namespace Mw
open Go.RowKit TabC Lk Ew Hw Bw

set_option maxRecDepth 100000 in
set_option maxHeartbeats 8000000 in
theorem ModeRests_few1 (e : Eg) (l : Lg) (m c : Int) (lit : Bool) (h : Int) (s : Nat) (t : TypeId) (w : World) (hR : w.heap[0]? = some (.cells rc t (0, 0))) (h1 : fewL l = false) : Calls Tryd.prog 8 #[.agg (ec e), .agg (lc l), .agg (ph m c), .bool lit, .int .i64 h, .int .u8 s] w fun r w' => r = .returned (.bool true) ∧ Below w.heap.size w w' := by
  have HV := Lib.hid (three_l hR e l m c)
  have F1 := Lib.hid (fewl_v h1)
  clear h1
  go_enter Tryd.func8, Tryd.ntmps8
  go_upto_region 1 with fail
  generalize hEE : Value.agg (ec e) = E at *
  generalize hLL : Value.agg (lc l) = L at *
  go_wp2_with (first | go_big_skip | (refine ldE' hEE rfl _ rfl _ rfl HV.out.tail.tail.head ?_) | (refine ldL' hLL rfl _ rfl _ rfl HV.out.tail.head ?_) | (go_at_call 9; (with_reducible refine (awake_c t _ HV.out.tail.tail.tail.head).mono ?_); rintro r W ⟨rfl, hb⟩; replace HV := Lib.hid (HV.out.grow hb); clear hb) | (go_at_call 10; (with_reducible refine (F1.out _).mono ?_); rintro r W ⟨rfl, hb⟩; replace HV := Lib.hid (HV.out.grow hb); clear hb) | (go_at_call 11; (with_reducible refine (F2.out _).mono ?_); rintro r W ⟨rfl, hb⟩; replace HV := Lib.hid (HV.out.grow hb); clear hb) | fail)
  go_ret
  exact ⟨rfl, HV.out.old⟩

set_option maxRecDepth 100000 in
set_option maxHeartbeats 8000000 in
theorem ModeRests_few2 (e : Eg) (l : Lg) (m c : Int) (lit : Bool) (h : Int) (s : Nat) (t : TypeId) (w : World) (hR : w.heap[0]? = some (.cells rc t (0, 0))) (h1 : fewL l = true) (h2 : fewE e = false) : Calls Tryd.prog 8 #[.agg (ec e), .agg (lc l), .agg (ph m c), .bool lit, .int .i64 h, .int .u8 s] w fun r w' => r = .returned (.bool true) ∧ Below w.heap.size w w' := by
  have HV := Lib.hid (three_l hR e l m c)
  have F1 := Lib.hid (fewl_v h1)
  have F2 := Lib.hid (Ew.few_v h2)
  clear h1 h2
  go_enter Tryd.func8, Tryd.ntmps8
  go_upto_region 1 with fail
  generalize hEE : Value.agg (ec e) = E at *
  generalize hLL : Value.agg (lc l) = L at *
  go_wp2_with (first | go_big_skip | (refine ldE' hEE rfl _ rfl _ rfl HV.out.tail.tail.head ?_) | (refine ldL' hLL rfl _ rfl _ rfl HV.out.tail.head ?_) | (go_at_call 9; (with_reducible refine (awake_c t _ HV.out.tail.tail.tail.head).mono ?_); rintro r W ⟨rfl, hb⟩; replace HV := Lib.hid (HV.out.grow hb); clear hb) | (go_at_call 10; (with_reducible refine (F1.out _).mono ?_); rintro r W ⟨rfl, hb⟩; replace HV := Lib.hid (HV.out.grow hb); clear hb) | (go_at_call 11; (with_reducible refine (F2.out _).mono ?_); rintro r W ⟨rfl, hb⟩; replace HV := Lib.hid (HV.out.grow hb); clear hb) | fail)
  go_ret
  exact ⟨rfl, HV.out.old⟩

/-- Below the speed at which it may light. -/
theorem ready_no (e : Em.En) : Sb.ready e (wrap64 (min e.light 0 - 1)) = false := by
  unfold Sb.ready
  cases hk : Em.okB e with
  | false => rfl
  | true =>
    have h0 : 0 ≤ e.light := by
      simp only [Em.okB, Em.nums, Em.within, Bool.and_eq_true, decide_eq_true_eq] at hk
      omega
    have h1 : min e.light 0 = 0 := by omega
    rw [h1]
    have h2 : wrap64 (0 - 1) = -1 := by decide +kernel
    rw [h2]
    simp
    omega

set_option maxRecDepth 100000 in
set_option maxHeartbeats 8000000 in
theorem Rests_go (e : Eg) (l : Lg) (m c : Int) (lit : Bool) (h : Int) (s : Nat) (hs : s < 256) (t : TypeId) (w : World) (hE : EngIn w e) (hL : LawIn w l) (hR : w.heap[0]? = some (.cells rc t (0, 0))) (h1 : fewL l = true) (h2 : fewE e = true) : Calls Tryd.prog 8 #[.agg (ec e), .agg (lc l), .agg (ph m c), .bool lit, .int .i64 h, .int .u8 s] w fun r w' => r = .returned (.bool true) ∧ Below w.heap.size w w' := by
  have HV := Lib.hid (three_l hR e l m c)
  have F1 := Lib.hid (fewl_v h1)
  have F2 := Lib.hid (Ew.few_v h2)
  obtain ⟨y, hy⟩ : ∃ y, min e.light 0 = y := ⟨_, rfl⟩
  have hr : Sb.ready (en e) (wrap64 (y - 1)) = false := by rw [← hy]; exact ready_no (en e)
  have HY := Lib.hid hy
  have NX := Lib.hid (fun (m c : Int) (W : World) (hR : W.heap[0]? = some (.cells rc t (0, 0))) (hW : Below w.heap.size w W) => next_c e l m c ⟨false, false, false, false, 0⟩ lit (wrap64 (y - 1)) h t W (hE.below hW) (hL.below hW) hR)
  have hz : ∀ c, see e l c ⟨false, false, false, false, 0⟩ lit (wrap64 (y - 1)) h = Mm.still false (Sb.away (la l) lit (wrap64 (y - 1))) (Sb.hot (la l) h) (Sb.hung (la l) c) lit := fun c => by unfold see Mm.still; rw [hr]
  simp only [hz] at NX
  have hN : 0 < w.heap.size := (Array.getElem?_eq_some_iff.1 hR).1
  clear hE hL h1 h2 hr hz hy
  go_enter Tryd.func8, Tryd.ntmps8
  go_upto_region 1 with fail
  generalize hEE : Value.agg (ec e) = E at *
  generalize hLL : Value.agg (lc l) = L at *
  go_upto_region 4 with (first | go_big_skip | (refine ldE' hEE rfl _ rfl _ rfl HV.out.tail.tail.head ?_) | (refine ldL' hLL rfl _ rfl _ rfl HV.out.tail.head ?_) | (go_at_call 9; (with_reducible refine (awake_c t _ HV.out.tail.tail.tail.head).mono ?_); rintro r W ⟨rfl, hb⟩; replace HV := Lib.hid (HV.out.grow hb); clear hb) | (go_at_call 10; (with_reducible refine (F1.out _).mono ?_); rintro r W ⟨rfl, hb⟩; replace HV := Lib.hid (HV.out.grow hb); clear hb) | (go_at_call 11; (with_reducible refine (F2.out _).mono ?_); rintro r W ⟨rfl, hb⟩; replace HV := Lib.hid (HV.out.grow hb); clear hb) | fail)
  have ce := Joins.cell_of_block HV.out.tail.tail.head 13
  simp only [List.getElem?_toArray, List.getElem?_cons_zero, List.getElem?_cons_succ] at ce
  have hy := HY.out
  go_wp2_with (first | (refine ldp rfl _ rfl _ m c rfl HV.out.head ?_) | fail)
  generalize wrap64 (y - 1) = x at *
  have HJ : Hid (∀ a ∈ [(w.heap.size + 1 + 1, po m c), (w.heap.size + 1, lo l), (w.heap.size, eo e), (0, Obj.cells rc t (0, 0))], a.1 ≠ W.heap.size) := fun a ha => by have := HV.out.lt ha; omega
  have HS := Lib.hid HV.out.old.size
  replace HV := Lib.hid (HV.out.made (po m c))
  obtain ⟨K, hK⟩ : ∃ K : Nat, 3 + s % 20 = K := ⟨_, rfl⟩
  have hKb : K ≤ 22 := by omega
  have HK := Lib.hid hK
  clear ce hy HY F1 F2 hK
  go_loopw [16] (fun i wr => ∃ k : Nat, k ≤ K ∧ i = .int .i64 k ∧ ∃ m' c' : Int, ((k = 1 → m' = 0 ∨ m' = 6) ∧ (1 < k → m' = 0)) ∧ Hv w wr [(W.heap.size, po m' c'), (w.heap.size + 1 + 1, po m c), (w.heap.size + 1, lo l), (w.heap.size, eo e), (0, .cells rc t (0, 0))]) (fun i _ => K - (intOf i).toNat)
  case atStart => exact ⟨0, Nat.zero_le _, rfl, m, c, ⟨fun h => by omega, fun h => by omega⟩, HV.out⟩
  case round =>
    clear HV
    obtain ⟨k, hk, rfl, m', c', hm, hv⟩ := hrel
    have HV := Lib.hid hv
    clear hv
    have HM := Lib.hid (Mm.rests lit (Sb.away (la l) lit x) (Sb.hot (la l) h) (Sb.hung (la l) c') hm)
    have C1 := Lib.hid (fun W hR hW => NX.out m' c' W hR hW)
    generalize Mm.nm (Mm.still false (Sb.away (la l) lit x) (Sb.hot (la l) h) (Sb.hung (la l) c') lit) m' = q1 at *
    generalize Mm.nc (Mm.still false (Sb.away (la l) lit x) (Sb.hot (la l) h) (Sb.hung (la l) c') lit) m' c' = q2 at *
    replace hm := Lib.hid hm
    by_cases hlt : k < K
    · have hkn : (k : Int) < 3 + (s : Int) % 20 := by have := HK.out; omega
      have hkt : (k : Int) < 3 + Int.tmod s 20 := by rw [Int.tmod_eq_emod_of_nonneg (by omega)]; exact hkn
      clear NX
      go_upto_region 9 with (first | go_big_skip | fail)
      go_upto_region 10 with (first | (refine ldE' hEE rfl _ rfl _ rfl HV.out.tail.tail.tail.head ?_) | (refine ldL' hLL rfl _ rfl _ rfl HV.out.tail.tail.head ?_) | (refine ldp rfl _ rfl _ m' c' rfl HV.out.head ?_) | (go_at_call 12; (with_reducible refine (C1.out _ HV.out.tail.tail.tail.tail.head HV.out.old).mono ?_); rintro r W ⟨rfl, hb⟩; replace HV := Lib.hid (HV.out.grow hb); clear hb C1) | (refine stp rfl _ _ rfl rfl _ m' c' _ _ rfl rfl HV.out.head ?_; intro w' hP hO; replace HV := Lib.hid (HV.out.change hO hP HJ.out HS.out); clear hP hO; have c0 := (pfld HV.out.head).1) | fail)
      by_cases h2 : 2 ≤ k
      · obtain rfl : q1 = 0 := HM.out.2 (by omega)
        have k2 : (2 : Int) ≤ k := by omega
        go_wp2_with (first | go_big_skip | fail)
        go_roundw
        case rel => exact ⟨k + 1, hlt, by go_num, 0, q2, HM.out, HV.out⟩
        case measure => simp only [intOf, Int.toNat_natCast]; omega
      · have k2 : ¬ (2 : Int) ≤ k := by omega
        go_wp2_with (first | go_big_skip | fail)
        go_roundw
        case rel => exact ⟨k + 1, hlt, by go_num, q1, q2, HM.out, HV.out⟩
        case measure => simp only [intOf, Int.toNat_natCast]; omega
    · obtain rfl : k = K := by omega
      have hkn : ¬ (k : Int) < 3 + (s : Int) % 20 := by have := HK.out; omega
      have hkt : ¬ (k : Int) < 3 + Int.tmod s 20 := by rw [Int.tmod_eq_emod_of_nonneg (by omega)]; exact hkn
      clear NX C1
      go_wp2_with (first | go_big_skip | fail)
      go_ret
      exact ⟨rfl, HV.out.old⟩

theorem ModeRests_walk (e : Eg) (l : Lg) (m c : Int) (lit : Bool) (h : Int) (s : Nat) (hs : s < 256) (t : TypeId) (w : World) (hE : EngIn w e) (hL : LawIn w l) (hR : w.heap[0]? = some (.cells rc t (0, 0))) : Calls Tryd.prog 8 #[.agg (ec e), .agg (lc l), .agg (ph m c), .bool lit, .int .i64 h, .int .u8 s] w fun r w' => r = .returned (.bool true) ∧ Below w.heap.size w w' := by
  cases h1 : fewL l with
  | false => exact ModeRests_few1 e l m c lit h s t w hR h1
  | true =>
    cases h2 : fewE e with
    | false => exact ModeRests_few2 e l m c lit h s t w hR h1 h2
    | true => exact Rests_go e l m c lit h s hs t w hE hL hR h1 h2
end Mw
end Go.Proofs.YtodilljomjhohaaDoor
