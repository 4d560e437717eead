/- The walk of StartStays. Printed by gen_laws.py. -/
import Derived.Test.YtjhgcbkdghcgmaaStartLaw1
import Derived.Test.YtjhgcbkdghcgmaaLimKit
namespace Go.Proofs.Ytjhgcbkdghcgmaa
namespace Bw
open Go.RowKit TabC Lk Ew Hw

set_option maxRecDepth 100000 in
set_option maxHeartbeats 4000000 in
theorem StartStays_few1 (e : Eg) (l : Lg) (n m : Int) (w : World) (h1 : fewL l = false) : Calls Try.prog 5 #[.agg (ec e), .agg (lc l), .int .i64 n, .int .u16 m] w fun r w' => r = .returned (.bool true) ∧ Below w.heap.size w w' := by
  have HV := Lib.hid (two_el w e l)
  have F1 := Lib.hid (fewl_v h1)
  clear h1
  go_enter Try.func5, Try.ntmps5
  go_upto_region 1 with fail
  generalize hE : Value.agg (ec e) = E at *
  generalize hL : Value.agg (lc l) = L at *
  go_wp2_with (first | (refine ldE hE rfl _ rfl _ rfl HV.out.h2 ?_) | (refine ldL hL rfl _ rfl _ rfl HV.out.head ?_) | (go_at_call 7; (with_reducible refine (awake_c _).mono ?_); rintro r W ⟨rfl, hb⟩; replace HV := Lib.hid (HV.out.grow hb); clear hb) | (go_at_call 8; (with_reducible refine (F1.out _).mono ?_); rintro r W ⟨rfl, hb⟩; replace HV := Lib.hid (HV.out.grow hb); clear hb) | fail)
  go_ret
  exact ⟨rfl, HV.out.old⟩

set_option maxRecDepth 100000 in
set_option maxHeartbeats 4000000 in
theorem StartStays_few2 (e : Eg) (l : Lg) (n m : Int) (w : World) (h1 : fewL l = true) (h2 : fewE e = false) : Calls Try.prog 5 #[.agg (ec e), .agg (lc l), .int .i64 n, .int .u16 m] w fun r w' => r = .returned (.bool true) ∧ Below w.heap.size w w' := by
  have HV := Lib.hid (two_el w e l)
  have F1 := Lib.hid (fewl_v h1)
  have F2 := Lib.hid (Ew.few_v h2)
  clear h1 h2
  go_enter Try.func5, Try.ntmps5
  go_upto_region 1 with fail
  generalize hE : Value.agg (ec e) = E at *
  generalize hL : Value.agg (lc l) = L at *
  go_wp2_with (first | (refine ldE hE rfl _ rfl _ rfl HV.out.h2 ?_) | (refine ldL hL rfl _ rfl _ rfl HV.out.head ?_) | (go_at_call 7; (with_reducible refine (awake_c _).mono ?_); rintro r W ⟨rfl, hb⟩; replace HV := Lib.hid (HV.out.grow hb); clear hb) | (go_at_call 8; (with_reducible refine (F1.out _).mono ?_); rintro r W ⟨rfl, hb⟩; replace HV := Lib.hid (HV.out.grow hb); clear hb) | (go_at_call 9; (with_reducible refine (F2.out _).mono ?_); rintro r W ⟨rfl, hb⟩; replace HV := Lib.hid (HV.out.grow hb); clear hb) | fail)
  go_ret
  exact ⟨rfl, HV.out.old⟩

set_option maxRecDepth 100000 in
set_option maxHeartbeats 4000000 in
theorem Stays_far (e : Eg) (l : Lg) (n m : Int) (w : World) (h1 : fewL l = true) (h2 : fewE e = true) (hn : 1099511627776 < n) : Calls Try.prog 5 #[.agg (ec e), .agg (lc l), .int .i64 n, .int .u16 m] w fun r w' => r = .returned (.bool true) ∧ Below w.heap.size w w' := by
  have HV := Lib.hid (two_el w e l)
  have F1 := Lib.hid (fewl_v h1)
  have F2 := Lib.hid (Ew.few_v h2)
  have d1 : decide (1099511627776 < n) = true := decide_eq_true hn
  clear h1 h2 hn
  go_enter Try.func5, Try.ntmps5
  go_upto_region 1 with fail
  generalize hE : Value.agg (ec e) = E at *
  generalize hL : Value.agg (lc l) = L at *
  go_wp2_with (first | (refine ldE hE rfl _ rfl _ rfl HV.out.h2 ?_) | (refine ldL hL rfl _ rfl _ rfl HV.out.head ?_) | (go_at_call 7; (with_reducible refine (awake_c _).mono ?_); rintro r W ⟨rfl, hb⟩; replace HV := Lib.hid (HV.out.grow hb); clear hb) | (go_at_call 8; (with_reducible refine (F1.out _).mono ?_); rintro r W ⟨rfl, hb⟩; replace HV := Lib.hid (HV.out.grow hb); clear hb) | (go_at_call 9; (with_reducible refine (F2.out _).mono ?_); rintro r W ⟨rfl, hb⟩; replace HV := Lib.hid (HV.out.grow hb); clear hb) | fail)
  go_ret
  exact ⟨rfl, HV.out.old⟩

set_option maxRecDepth 100000 in
set_option maxHeartbeats 4000000 in
theorem Stays_go (e : Eg) (l : Lg) (n m f k1 k2 : Int) (r r2 a a2 h h2 u u2 : Bool) (w : World) (h1 : fewL l = true) (he : fewE e = true) (hE : EngIn w e) (hL : LawIn w l) (hn : ¬ 1099511627776 < n) (hl : -9223372036854775808 ≤ n) (h0 : 0 ≤ m) (hm : m ≤ 65535) (ef : Sb.fuel (en e) (la l) n = f) (x1 : Sb.ready (en e) n = r) (x2 : Sb.ready (en e) (n + m) = r2) (x3 : Sb.away (la l) true n = a) (x4 : Sb.away (la l) true (n + m) = a2) (x5 : Sb.hot (la l) n = h) (x6 : Sb.hot (la l) (n + m) = h2) (x7 : Sb.hung (la l) n = u) (x8 : Sb.hung (la l) (n + m) = u2) (j1 : Em.err (en e) = k1) (j2 : Sd.err (la l) = k2) (q1 : r = true → r2 = true ∧ k1 = 0) (q2 : a = true → a2 = true) (q3 : h = true → h2 = true) (q4 : u = true → u2 = true) (q5 : k2 = 0 ∨ (k2 = 140 ∧ a = false ∧ h = false ∧ u = false ∧ f = 0)) : Calls Try.prog 5 #[.agg (ec e), .agg (lc l), .int .i64 n, .int .u16 m] w fun r w' => r = .returned (.bool true) ∧ Below w.heap.size w w' := by
  have HV := Lib.hid (two_el w e l)
  have F1 := Lib.hid (fewl_v h1)
  have F2 := Lib.hid (Ew.few_v he)
  have HF := Lib.hid (fun W (hW : Below w.heap.size w W) => fuel_v hE hL ef hW)
  have R1 := Lib.hid (fun W (hW : Below w.heap.size w W) => ready_v hE x1 hW)
  have R2 := Lib.hid (fun W (hW : Below w.heap.size w W) => ready_v hE x2 hW)
  have A1 := Lib.hid (fun W (hW : Below w.heap.size w W) => away_v hL x3 hW)
  have A2 := Lib.hid (fun W (hW : Below w.heap.size w W) => away_v hL x4 hW)
  have A3 := Lib.hid (fun W (hW : Below w.heap.size w W) => away_v hL (n := n) (lit := false) (b := false) (by simp [Sb.away]) hW)
  have H1 := Lib.hid (fun W (hW : Below w.heap.size w W) => hot_v hL x5 hW)
  have H2 := Lib.hid (fun W (hW : Below w.heap.size w W) => hot_v hL x6 hW)
  have U1 := Lib.hid (fun W (hW : Below w.heap.size w W) => hung_v hL x7 hW)
  have U2 := Lib.hid (fun W (hW : Below w.heap.size w W) => hung_v hL x8 hW)
  have K1 : Hid (∀ W, Below w.heap.size w W → Calls Try.prog 20 #[.agg (ec e)] W fun r w' => r = .returned (.int .i64 k1) ∧ Below W.heap.size W w') := fun W hW => j1 ▸ Ew.check_c e W (hE.below hW)
  have K2 : Hid (∀ W, Below w.heap.size w W → Calls Try.prog 21 #[.agg (lc l)] W fun r w' => r = .returned (.int .i64 k2) ∧ Below W.heap.size W w') := fun W hW => j2 ▸ Hw.check_c l W (hL.below hW)
  have d1 : decide (1099511627776 < n) = false := decide_eq_false hn
  have m1 : IntKind.i64.wrap m = m := IntWalk.i64_in _ (by omega)
  have m2 : IntKind.i64.wrap (n + m) = n + m := IntWalk.i64_in _ (by omega)
  replace q1 := Lib.hid q1; replace q2 := Lib.hid q2; replace q3 := Lib.hid q3; replace q4 := Lib.hid q4; replace q5 := Lib.hid q5
  clear hE hL h1 he hn hl h0 hm ef x1 x2 x3 x4 x5 x6 x7 x8 j1 j2
  go_enter Try.func5, Try.ntmps5
  go_upto_region 1 with fail
  generalize hE : Value.agg (ec e) = E at *
  generalize hL : Value.agg (lc l) = L at *
  go_upto_region 5 with (first | (refine ldE hE rfl _ rfl _ rfl HV.out.h2 ?_) | (refine ldL hL rfl _ rfl _ rfl HV.out.head ?_) | (go_at_call 7; (with_reducible refine (awake_c _).mono ?_); rintro r W ⟨rfl, hb⟩; replace HV := Lib.hid (HV.out.grow hb); clear hb) | (go_at_call 8; (with_reducible refine (F1.out _).mono ?_); rintro r W ⟨rfl, hb⟩; replace HV := Lib.hid (HV.out.grow hb); clear hb) | (go_at_call 9; (with_reducible refine (F2.out _).mono ?_); rintro r W ⟨rfl, hb⟩; replace HV := Lib.hid (HV.out.grow hb); clear hb) | fail)
  clear F1 F2
  go_cut [11] (fun t wx => t = .bool true ∧ Hv w wx [(w.heap.size + 1, lo l), (w.heap.size, eo e)])
  case first =>
    cases r
    · go_wp2_with (first | go_big_skip | (refine ldE hE rfl _ rfl _ rfl HV.out.h2 ?_) | (refine ldL hL rfl _ rfl _ rfl HV.out.head ?_) | (go_at_call 12; (first | (with_reducible refine (R1.out _ HV.out.old).mono ?_) | (with_reducible refine (R2.out _ HV.out.old).mono ?_)); rintro r W ⟨rfl, hb⟩; replace HV := Lib.hid (HV.out.grow hb); clear hb) | (go_at_call 20; (with_reducible refine (K1.out _ HV.out.old).mono ?_); rintro r W ⟨rfl, hb⟩; replace HV := Lib.hid (HV.out.grow hb); clear hb) | fail)
      go_meet
      case rel => exact ⟨rfl, HV.out⟩
    · obtain ⟨rfl, rfl⟩ := q1.out rfl
      go_wp2_with (first | go_big_skip | (refine ldE hE rfl _ rfl _ rfl HV.out.h2 ?_) | (refine ldL hL rfl _ rfl _ rfl HV.out.head ?_) | (go_at_call 12; (first | (with_reducible refine (R1.out _ HV.out.old).mono ?_) | (with_reducible refine (R2.out _ HV.out.old).mono ?_)); rintro r W ⟨rfl, hb⟩; replace HV := Lib.hid (HV.out.grow hb); clear hb) | (go_at_call 20; (with_reducible refine (K1.out _ HV.out.old).mono ?_); rintro r W ⟨rfl, hb⟩; replace HV := Lib.hid (HV.out.grow hb); clear hb) | fail)
      go_meet
      case rel => exact ⟨rfl, HV.out⟩
  obtain ⟨rfl, hv⟩ := hcut
  replace HV := Lib.hid hv
  clear hv
  clear q1 R1 R2 K1
  go_upto_region 6 with fail
  go_cut [12] (fun t wx => t = .bool true ∧ Hv w wx [(w.heap.size + 1, lo l), (w.heap.size, eo e)])
  case first =>
    cases a
    · go_wp2_with (first | go_big_skip | (refine ldE hE rfl _ rfl _ rfl HV.out.h2 ?_) | (refine ldL hL rfl _ rfl _ rfl HV.out.head ?_) | (go_at_call 14; (first | (with_reducible refine (A1.out _ HV.out.old).mono ?_) | (with_reducible refine (A2.out _ HV.out.old).mono ?_)); rintro r W ⟨rfl, hb⟩; replace HV := Lib.hid (HV.out.grow hb); clear hb) | fail)
      go_meet
      case rel => exact ⟨rfl, HV.out⟩
    · obtain rfl := q2.out rfl
      go_wp2_with (first | go_big_skip | (refine ldE hE rfl _ rfl _ rfl HV.out.h2 ?_) | (refine ldL hL rfl _ rfl _ rfl HV.out.head ?_) | (go_at_call 14; (first | (with_reducible refine (A1.out _ HV.out.old).mono ?_) | (with_reducible refine (A2.out _ HV.out.old).mono ?_)); rintro r W ⟨rfl, hb⟩; replace HV := Lib.hid (HV.out.grow hb); clear hb) | fail)
      go_meet
      case rel => exact ⟨rfl, HV.out⟩
  obtain ⟨rfl, hv⟩ := hcut
  replace HV := Lib.hid hv
  clear hv
  clear q2 A2
  go_upto_region 7 with fail
  go_cut [13] (fun t wx => t = .bool true ∧ Hv w wx [(w.heap.size + 1, lo l), (w.heap.size, eo e)])
  case first =>
    cases h
    · go_wp2_with (first | go_big_skip | (refine ldE hE rfl _ rfl _ rfl HV.out.h2 ?_) | (refine ldL hL rfl _ rfl _ rfl HV.out.head ?_) | (go_at_call 16; (first | (with_reducible refine (H1.out _ HV.out.old).mono ?_) | (with_reducible refine (H2.out _ HV.out.old).mono ?_)); rintro r W ⟨rfl, hb⟩; replace HV := Lib.hid (HV.out.grow hb); clear hb) | fail)
      go_meet
      case rel => exact ⟨rfl, HV.out⟩
    · obtain rfl := q3.out rfl
      go_wp2_with (first | go_big_skip | (refine ldE hE rfl _ rfl _ rfl HV.out.h2 ?_) | (refine ldL hL rfl _ rfl _ rfl HV.out.head ?_) | (go_at_call 16; (first | (with_reducible refine (H1.out _ HV.out.old).mono ?_) | (with_reducible refine (H2.out _ HV.out.old).mono ?_)); rintro r W ⟨rfl, hb⟩; replace HV := Lib.hid (HV.out.grow hb); clear hb) | fail)
      go_meet
      case rel => exact ⟨rfl, HV.out⟩
  obtain ⟨rfl, hv⟩ := hcut
  replace HV := Lib.hid hv
  clear hv
  clear q3 H2
  go_upto_region 8 with fail
  go_cut [14] (fun t wx => t = .bool true ∧ Hv w wx [(w.heap.size + 1, lo l), (w.heap.size, eo e)])
  case first =>
    cases u
    · go_wp2_with (first | go_big_skip | (refine ldE hE rfl _ rfl _ rfl HV.out.h2 ?_) | (refine ldL hL rfl _ rfl _ rfl HV.out.head ?_) | (go_at_call 18; (first | (with_reducible refine (U1.out _ HV.out.old).mono ?_) | (with_reducible refine (U2.out _ HV.out.old).mono ?_)); rintro r W ⟨rfl, hb⟩; replace HV := Lib.hid (HV.out.grow hb); clear hb) | fail)
      go_meet
      case rel => exact ⟨rfl, HV.out⟩
    · obtain rfl := q4.out rfl
      go_wp2_with (first | go_big_skip | (refine ldE hE rfl _ rfl _ rfl HV.out.h2 ?_) | (refine ldL hL rfl _ rfl _ rfl HV.out.head ?_) | (go_at_call 18; (first | (with_reducible refine (U1.out _ HV.out.old).mono ?_) | (with_reducible refine (U2.out _ HV.out.old).mono ?_)); rintro r W ⟨rfl, hb⟩; replace HV := Lib.hid (HV.out.grow hb); clear hb) | fail)
      go_meet
      case rel => exact ⟨rfl, HV.out⟩
  obtain ⟨rfl, hv⟩ := hcut
  replace HV := Lib.hid hv
  clear hv
  clear q4 U2
  go_upto_region 9 with fail
  go_cut [15] (fun t wx => t = .bool true ∧ Hv w wx [(w.heap.size + 1, lo l), (w.heap.size, eo e)])
  case first =>
    obtain rfl | ⟨rfl, rfl, rfl, rfl, rfl⟩ := q5.out
    · go_wp2_with (first | go_big_skip | (refine ldE hE rfl _ rfl _ rfl HV.out.h2 ?_) | (refine ldL hL rfl _ rfl _ rfl HV.out.head ?_) | (go_at_call 21; (with_reducible refine (K2.out _ HV.out.old).mono ?_); rintro r W ⟨rfl, hb⟩; replace HV := Lib.hid (HV.out.grow hb); clear hb) | (go_at_call 14; (with_reducible refine (A1.out _ HV.out.old).mono ?_); rintro r W ⟨rfl, hb⟩; replace HV := Lib.hid (HV.out.grow hb); clear hb) | (go_at_call 16; (with_reducible refine (H1.out _ HV.out.old).mono ?_); rintro r W ⟨rfl, hb⟩; replace HV := Lib.hid (HV.out.grow hb); clear hb) | (go_at_call 18; (with_reducible refine (U1.out _ HV.out.old).mono ?_); rintro r W ⟨rfl, hb⟩; replace HV := Lib.hid (HV.out.grow hb); clear hb) | (go_at_call 10; (with_reducible refine (HF.out _ HV.out.old).mono ?_); rintro r W ⟨rfl, hb⟩; replace HV := Lib.hid (HV.out.grow hb); clear hb) | fail)
      go_meet
      case rel => exact ⟨rfl, HV.out⟩
    · go_wp2_with (first | go_big_skip | (refine ldE hE rfl _ rfl _ rfl HV.out.h2 ?_) | (refine ldL hL rfl _ rfl _ rfl HV.out.head ?_) | (go_at_call 21; (with_reducible refine (K2.out _ HV.out.old).mono ?_); rintro r W ⟨rfl, hb⟩; replace HV := Lib.hid (HV.out.grow hb); clear hb) | (go_at_call 14; (with_reducible refine (A1.out _ HV.out.old).mono ?_); rintro r W ⟨rfl, hb⟩; replace HV := Lib.hid (HV.out.grow hb); clear hb) | (go_at_call 16; (with_reducible refine (H1.out _ HV.out.old).mono ?_); rintro r W ⟨rfl, hb⟩; replace HV := Lib.hid (HV.out.grow hb); clear hb) | (go_at_call 18; (with_reducible refine (U1.out _ HV.out.old).mono ?_); rintro r W ⟨rfl, hb⟩; replace HV := Lib.hid (HV.out.grow hb); clear hb) | (go_at_call 10; (with_reducible refine (HF.out _ HV.out.old).mono ?_); rintro r W ⟨rfl, hb⟩; replace HV := Lib.hid (HV.out.grow hb); clear hb) | fail)
      go_meet
      case rel => exact ⟨rfl, HV.out⟩
  obtain ⟨rfl, hv⟩ := hcut
  replace HV := Lib.hid hv
  clear hv
  clear q5 K2 A1 H1 U1 HF
  go_wp2_with (first | (refine ldE hE rfl _ rfl _ rfl HV.out.h2 ?_) | (refine ldL hL rfl _ rfl _ rfl HV.out.head ?_) | (go_at_call 14; (with_reducible refine (A3.out _ HV.out.old).mono ?_); rintro r W ⟨rfl, hb⟩; replace HV := Lib.hid (HV.out.grow hb); clear hb) | fail)
  go_ret
  exact ⟨rfl, HV.out.old⟩

theorem StartStays_walk (e : Eg) (l : Lg) (n : Int) (hl : -9223372036854775808 ≤ n ∧ n ≤ 9223372036854775807) (m : Int) (hm : 0 ≤ m ∧ m ≤ 65535) (w : World) (hE : EngIn w e) (hL : LawIn w l) : Calls Try.prog 5 #[.agg (ec e), .agg (lc l), .int .i64 n, .int .u16 m] w fun r w' => r = .returned (.bool true) ∧ Below w.heap.size w w' := by
  cases h1 : fewL l with
  | false => exact StartStays_few1 e l n m w h1
  | true =>
    cases h2 : fewE e with
    | false => exact StartStays_few2 e l n m w h1 h2
    | true =>
      by_cases hn : 1099511627776 < n
      · exact Stays_far e l n m w h1 h2 hn
      · have g : n ≤ n + m := by omega
        have q1 := Sb.ready_more (e := en e) g
        have q2 := Sb.away_more (l := la l) g
        have q3 := Sb.hot_more (l := la l) g
        have q4 := Sb.hung_more (l := la l) g
        refine Stays_go e l n m _ _ _ _ _ _ _ _ _ _ _ w h1 h2 hE hL hn hl.1 hm.1 hm.2 rfl rfl rfl rfl rfl rfl rfl rfl rfl rfl rfl ?_ ?_ ?_ ?_ ?_
        · intro hr
          rw [hr] at q1
          simpa using q1
        · intro hr
          rw [hr] at q2
          simpa using q2
        · intro hr
          rw [hr] at q3
          simpa using q3
        · intro hr
          rw [hr] at q4
          simpa using q4
        · unfold Sd.err
          cases h4 : Sd.okB (la l) with
          | true => left; rfl
          | false => right; refine ⟨rfl, ?_, ?_, ?_, ?_⟩ <;> simp [Sb.away, Sb.hot, Sb.hung, Sb.fuel, h4]

end Bw
end Go.Proofs.Ytjhgcbkdghcgmaa
