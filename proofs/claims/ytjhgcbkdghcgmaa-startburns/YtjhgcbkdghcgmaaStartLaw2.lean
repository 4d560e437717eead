/- The walk of StartBurns. Printed by gen_laws.py. -/
import Derived.Test.YtjhgcbkdghcgmaaStartLaw1
import Derived.Test.YtjhgcbkdghcgmaaLimKit
namespace Go.Proofs.Ytjhgcbkdghcgmaa
namespace Bw
open Go.RowKit TabC Lk Ew Hw

set_option maxRecDepth 100000 in
set_option maxHeartbeats 4000000 in
theorem StartBurns_few1 (e : Eg) (l : Lg) (n m : Int) (w : World) (h1 : fewL l = false) : Calls Try.prog 4 #[.agg (ec e), .agg (lc l), .int .i64 n, .int .u16 m] w fun r w' => r = .returned (.bool true) ∧ Below w.heap.size w w' := by
  have HV := Lib.hid (two_el w e l)
  have F1 := Lib.hid (fewl_v h1)
  clear h1
  go_enter Try.func4, Try.ntmps4
  go_upto_region 1 with fail
  generalize hE : Value.agg (ec e) = E at *
  generalize hL : Value.agg (lc l) = L at *
  go_wp2_with (first | (refine ldE hE rfl _ rfl _ rfl HV.out.h2 ?_) | (refine ldL hL rfl _ rfl _ rfl HV.out.head ?_) | (go_at_call 7; (with_reducible refine (awake_c _).mono ?_); rintro r W ⟨rfl, hb⟩; replace HV := Lib.hid (HV.out.grow hb); clear hb) | (go_at_call 8; (with_reducible refine (F1.out _).mono ?_); rintro r W ⟨rfl, hb⟩; replace HV := Lib.hid (HV.out.grow hb); clear hb) | fail)
  go_ret
  exact ⟨rfl, HV.out.old⟩

set_option maxRecDepth 100000 in
set_option maxHeartbeats 4000000 in
theorem StartBurns_few2 (e : Eg) (l : Lg) (n m : Int) (w : World) (h1 : fewL l = true) (h2 : fewE e = false) : Calls Try.prog 4 #[.agg (ec e), .agg (lc l), .int .i64 n, .int .u16 m] w fun r w' => r = .returned (.bool true) ∧ Below w.heap.size w w' := by
  have HV := Lib.hid (two_el w e l)
  have F1 := Lib.hid (fewl_v h1)
  have F2 := Lib.hid (Ew.few_v h2)
  clear h1 h2
  go_enter Try.func4, Try.ntmps4
  go_upto_region 1 with fail
  generalize hE : Value.agg (ec e) = E at *
  generalize hL : Value.agg (lc l) = L at *
  go_wp2_with (first | (refine ldE hE rfl _ rfl _ rfl HV.out.h2 ?_) | (refine ldL hL rfl _ rfl _ rfl HV.out.head ?_) | (go_at_call 7; (with_reducible refine (awake_c _).mono ?_); rintro r W ⟨rfl, hb⟩; replace HV := Lib.hid (HV.out.grow hb); clear hb) | (go_at_call 8; (with_reducible refine (F1.out _).mono ?_); rintro r W ⟨rfl, hb⟩; replace HV := Lib.hid (HV.out.grow hb); clear hb) | (go_at_call 9; (with_reducible refine (F2.out _).mono ?_); rintro r W ⟨rfl, hb⟩; replace HV := Lib.hid (HV.out.grow hb); clear hb) | fail)
  go_ret
  exact ⟨rfl, HV.out.old⟩

set_option maxRecDepth 100000 in
set_option maxHeartbeats 4000000 in
theorem Burns_no1 (e : Eg) (l : Lg) (n m : Int) (w : World) (hE : EngIn w e) (h1 : fewL l = true) (h2 : fewE e = true) (h3 : Em.okB (en e) = false) : Calls Try.prog 4 #[.agg (ec e), .agg (lc l), .int .i64 n, .int .u16 m] w fun r w' => r = .returned (.bool true) ∧ Below w.heap.size w w' := by
  have HV := Lib.hid (two_el w e l)
  have F1 := Lib.hid (fewl_v h1)
  have F2 := Lib.hid (Ew.few_v h2)
  have C1 := Lib.hid (fun W (hW : Below w.heap.size w W) => Ew.check_no e W (hE.below hW) h3)
  clear hE h1 h2 h3
  go_enter Try.func4, Try.ntmps4
  go_upto_region 1 with fail
  generalize hE : Value.agg (ec e) = E at *
  generalize hL : Value.agg (lc l) = L at *
  go_wp2_with (first | (refine ldE hE rfl _ rfl _ rfl HV.out.h2 ?_) | (refine ldL hL rfl _ rfl _ rfl HV.out.head ?_) | (go_at_call 7; (with_reducible refine (awake_c _).mono ?_); rintro r W ⟨rfl, hb⟩; replace HV := Lib.hid (HV.out.grow hb); clear hb) | (go_at_call 8; (with_reducible refine (F1.out _).mono ?_); rintro r W ⟨rfl, hb⟩; replace HV := Lib.hid (HV.out.grow hb); clear hb) | (go_at_call 9; (with_reducible refine (F2.out _).mono ?_); rintro r W ⟨rfl, hb⟩; replace HV := Lib.hid (HV.out.grow hb); clear hb) | (go_at_call 20; (with_reducible refine (C1.out _ HV.out.old).mono ?_); rintro r W ⟨rfl, hb⟩; replace HV := Lib.hid (HV.out.grow hb); clear hb) | fail)
  go_ret
  exact ⟨rfl, HV.out.old⟩

set_option maxRecDepth 100000 in
set_option maxHeartbeats 4000000 in
theorem Burns_no2 (e : Eg) (l : Lg) (n m : Int) (w : World) (hE : EngIn w e) (hL : LawIn w l) (h1 : fewL l = true) (h2 : fewE e = true) (h3 : Em.okB (en e) = true) (h4 : Sd.okB (la l) = false) : Calls Try.prog 4 #[.agg (ec e), .agg (lc l), .int .i64 n, .int .u16 m] w fun r w' => r = .returned (.bool true) ∧ Below w.heap.size w w' := by
  have HV := Lib.hid (two_el w e l)
  have F1 := Lib.hid (fewl_v h1)
  have F2 := Lib.hid (Ew.few_v h2)
  have C1 := Lib.hid (fun W (hW : Below w.heap.size w W) => Ew.check_ok e W (hE.below hW) h3)
  have C2 := Lib.hid (fun W (hW : Below w.heap.size w W) => cl_no l W (hL.below hW) h4)
  clear hE hL h1 h2 h3 h4
  go_enter Try.func4, Try.ntmps4
  go_upto_region 1 with fail
  generalize hE : Value.agg (ec e) = E at *
  generalize hL : Value.agg (lc l) = L at *
  go_wp2_with (first | (refine ldE hE rfl _ rfl _ rfl HV.out.h2 ?_) | (refine ldL hL rfl _ rfl _ rfl HV.out.head ?_) | (go_at_call 7; (with_reducible refine (awake_c _).mono ?_); rintro r W ⟨rfl, hb⟩; replace HV := Lib.hid (HV.out.grow hb); clear hb) | (go_at_call 8; (with_reducible refine (F1.out _).mono ?_); rintro r W ⟨rfl, hb⟩; replace HV := Lib.hid (HV.out.grow hb); clear hb) | (go_at_call 9; (with_reducible refine (F2.out _).mono ?_); rintro r W ⟨rfl, hb⟩; replace HV := Lib.hid (HV.out.grow hb); clear hb) | (go_at_call 20; (with_reducible refine (C1.out _ HV.out.old).mono ?_); rintro r W ⟨rfl, hb⟩; replace HV := Lib.hid (HV.out.grow hb); clear hb) | (go_at_call 21; (with_reducible refine (C2.out _ HV.out.old).mono ?_); rintro r W ⟨rfl, hb⟩; replace HV := Lib.hid (HV.out.grow hb); clear hb) | fail)
  go_ret
  exact ⟨rfl, HV.out.old⟩

set_option maxRecDepth 100000 in
set_option maxHeartbeats 4000000 in
theorem Burns_far (e : Eg) (l : Lg) (n m : Int) (w : World) (hE : EngIn w e) (hL : LawIn w l) (h1 : fewL l = true) (h2 : fewE e = true) (h3 : Em.okB (en e) = true) (h4 : Sd.okB (la l) = true) (hn : 1099511627776 < n) : Calls Try.prog 4 #[.agg (ec e), .agg (lc l), .int .i64 n, .int .u16 m] w fun r w' => r = .returned (.bool true) ∧ Below w.heap.size w w' := by
  have HV := Lib.hid (two_el w e l)
  have F1 := Lib.hid (fewl_v h1)
  have F2 := Lib.hid (Ew.few_v h2)
  have C1 := Lib.hid (fun W (hW : Below w.heap.size w W) => Ew.check_ok e W (hE.below hW) h3)
  have C2 := Lib.hid (fun W (hW : Below w.heap.size w W) => cl_ok l W (hL.below hW) h4)
  have d1 : decide (1099511627776 < n) = true := decide_eq_true hn
  clear hE hL h1 h2 h3 h4 hn
  go_enter Try.func4, Try.ntmps4
  go_upto_region 1 with fail
  generalize hE : Value.agg (ec e) = E at *
  generalize hL : Value.agg (lc l) = L at *
  go_wp2_with (first | (refine ldE hE rfl _ rfl _ rfl HV.out.h2 ?_) | (refine ldL hL rfl _ rfl _ rfl HV.out.head ?_) | (go_at_call 7; (with_reducible refine (awake_c _).mono ?_); rintro r W ⟨rfl, hb⟩; replace HV := Lib.hid (HV.out.grow hb); clear hb) | (go_at_call 8; (with_reducible refine (F1.out _).mono ?_); rintro r W ⟨rfl, hb⟩; replace HV := Lib.hid (HV.out.grow hb); clear hb) | (go_at_call 9; (with_reducible refine (F2.out _).mono ?_); rintro r W ⟨rfl, hb⟩; replace HV := Lib.hid (HV.out.grow hb); clear hb) | (go_at_call 20; (with_reducible refine (C1.out _ HV.out.old).mono ?_); rintro r W ⟨rfl, hb⟩; replace HV := Lib.hid (HV.out.grow hb); clear hb) | (go_at_call 21; (with_reducible refine (C2.out _ HV.out.old).mono ?_); rintro r W ⟨rfl, hb⟩; replace HV := Lib.hid (HV.out.grow hb); clear hb) | fail)
  go_ret
  exact ⟨rfl, HV.out.old⟩

set_option maxRecDepth 100000 in
set_option maxHeartbeats 4000000 in
theorem Burns_go (e : Eg) (l : Lg) (n m f g : Int) (w : World) (hE : EngIn w e) (hL : LawIn w l) (h1 : fewL l = true) (h2 : fewE e = true) (h3 : Em.okB (en e) = true) (h4 : Sd.okB (la l) = true) (hn : ¬ 1099511627776 < n) (hl : -9223372036854775808 ≤ n) (h0 : 0 ≤ m) (hm : m ≤ 65535) (ef : Sb.fuel (en e) (la l) n = f) (eg : Sb.fuel (en e) (la l) (n + m) = g) (k1 : e.lean ≤ f) (k2 : 1 ≤ f) (k3 : f ≤ g) : Calls Try.prog 4 #[.agg (ec e), .agg (lc l), .int .i64 n, .int .u16 m] w fun r w' => r = .returned (.bool true) ∧ Below w.heap.size w w' := by
  have HV := Lib.hid (two_el w e l)
  have F1 := Lib.hid (fewl_v h1)
  have F2 := Lib.hid (Ew.few_v h2)
  have C1 := Lib.hid (fun W (hW : Below w.heap.size w W) => Ew.check_ok e W (hE.below hW) h3)
  have C2 := Lib.hid (fun W (hW : Below w.heap.size w W) => cl_ok l W (hL.below hW) h4)
  have C3 := Lib.hid (fun W (hW : Below w.heap.size w W) => fuel_v hE hL ef hW)
  have C4 := Lib.hid (fun W (hW : Below w.heap.size w W) => fuel_v hE hL eg hW)
  have d1 : decide (1099511627776 < n) = false := decide_eq_false hn
  have d2 : decide (e.lean ≤ f) = true := decide_eq_true k1
  have d3 : decide (1 ≤ f) = true := decide_eq_true k2
  have d4 : decide (f ≤ g) = true := decide_eq_true k3
  have m1 : IntKind.i64.wrap m = m := IntWalk.i64_in _ (by omega)
  have m2 : IntKind.i64.wrap (n + m) = n + m := IntWalk.i64_in _ (by omega)
  clear hE hL h1 h2 h3 h4 hn hl h0 hm ef eg k1 k2 k3
  go_enter Try.func4, Try.ntmps4
  go_upto_region 1 with fail
  generalize hE : Value.agg (ec e) = E at *
  generalize hL : Value.agg (lc l) = L at *
  go_wp2_with (first | (refine ldE hE rfl _ rfl _ rfl HV.out.h2 ?_) | (refine ldL hL rfl _ rfl _ rfl HV.out.head ?_) | (go_at_call 7; (with_reducible refine (awake_c _).mono ?_); rintro r W ⟨rfl, hb⟩; replace HV := Lib.hid (HV.out.grow hb); clear hb) | (go_at_call 8; (with_reducible refine (F1.out _).mono ?_); rintro r W ⟨rfl, hb⟩; replace HV := Lib.hid (HV.out.grow hb); clear hb) | (go_at_call 9; (with_reducible refine (F2.out _).mono ?_); rintro r W ⟨rfl, hb⟩; replace HV := Lib.hid (HV.out.grow hb); clear hb) | (go_at_call 20; (with_reducible refine (C1.out _ HV.out.old).mono ?_); rintro r W ⟨rfl, hb⟩; replace HV := Lib.hid (HV.out.grow hb); clear hb) | (go_at_call 21; (with_reducible refine (C2.out _ HV.out.old).mono ?_); rintro r W ⟨rfl, hb⟩; replace HV := Lib.hid (HV.out.grow hb); clear hb) | (go_at_call 10; (first | (with_reducible refine (C3.out _ HV.out.old).mono ?_) | (with_reducible refine (C4.out _ HV.out.old).mono ?_)); rintro r W ⟨rfl, hb⟩; replace HV := Lib.hid (HV.out.grow hb); clear hb; have c0 := Joins.cell_of_block HV.out.h2 14; simp only [List.getElem?_toArray, List.getElem?_cons_zero, List.getElem?_cons_succ] at c0) | fail)
  go_ret
  exact ⟨rfl, HV.out.old⟩

theorem lean_in {e : Eg} (h3 : Em.okB (en e) = true) : 1 ≤ e.lean := by
  simp only [Em.okB, Em.rest3, Bool.and_eq_true, decide_eq_true_eq] at h3
  exact h3.2.1.2

theorem StartBurns_walk (e : Eg) (l : Lg) (n : Int) (hl : -9223372036854775808 ≤ n ∧ n ≤ 9223372036854775807) (m : Int) (hm : 0 ≤ m ∧ m ≤ 65535) (w : World) (hE : EngIn w e) (hL : LawIn w l) : Calls Try.prog 4 #[.agg (ec e), .agg (lc l), .int .i64 n, .int .u16 m] w fun r w' => r = .returned (.bool true) ∧ Below w.heap.size w w' := by
  cases h1 : fewL l with
  | false => exact StartBurns_few1 e l n m w h1
  | true =>
    cases h2 : fewE e with
    | false => exact StartBurns_few2 e l n m w h1 h2
    | true =>
      cases h3 : Em.okB (en e) with
      | false => exact Burns_no1 e l n m w hE h1 h2 h3
      | true =>
        cases h4 : Sd.okB (la l) with
        | false => exact Burns_no2 e l n m w hE hL h1 h2 h3 h4
        | true =>
          by_cases hn : 1099511627776 < n
          · exact Burns_far e l n m w hE hL h1 h2 h3 h4 hn
          · have k1 : e.lean ≤ Sb.fuel (en e) (la l) n := Sb.fuel_lean h3 h4 n
            exact Burns_go e l n m _ _ w hE hL h1 h2 h3 h4 hn hl.1 hm.1 hm.2 rfl rfl k1 (Int.le_trans (lean_in h3) k1) (Sb.fuel_mono h4 (by omega))

end Bw
end Go.Proofs.Ytjhgcbkdghcgmaa
