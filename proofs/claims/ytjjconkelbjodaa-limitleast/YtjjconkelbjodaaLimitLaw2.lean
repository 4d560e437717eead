/- The walk of LimitLeast. -/
import Derived.Test.YtjjconkelbjodaaLimitLaw1
namespace Go.Proofs.Ytjjconkelbjodaa
namespace Lw5
open Go.RowKit FixC Lk Ew Hw

theorem two_l3 (w : World) (l : Lg) (a b c : Int) : Hv w ((w.alloc (lo l)).alloc (ao3 a b c)) [(w.heap.size + 1, ao3 a b c), (w.heap.size, lo l)] := by
  have := (one_l w l).made (ao3 a b c)
  rwa [World.size_alloc] at this
theorem ladder_v {w : World} {x y : Int} {A : Option Addr} {c : Nat} {l : List Int} (hl : l.length ≤ 9223372036854775807) (hA : Lk.IntsAt w .i64 A l) (h : Lt.ladder x l = y) (W : World) (hb : Below w.heap.size w W) : Calls Try.prog 14 #[.int .i64 x, .slice A l.length c] W fun e w' => e = .returned (.int .i64 y) ∧ W = w' :=
  h ▸ ladder_c x A c l W hl (hA.below hb)
theorem rladder_v {w : World} {x y : Int} {A : Option Addr} {c : Nat} {l : List Int} (hl : l.length ≤ 9223372036854775807) (hA : Lk.IntsAt w .i64 A l) (h : Lt.ladder x l = y) (W : World) (hb : Below w.heap.size w W) : Calls Try.prog 15 #[.int .i64 x, .slice A l.length c] W fun e w' => e = .returned (.int .i64 y) ∧ W = w' :=
  h ▸ rladder_c x A c l W hl (hA.below hb)

set_option maxHeartbeats 4000000 in
theorem LimitLeast_few (l : Lg) (v1 v2 v3 f n x : Int) (A : Option Addr) (rs : List Int) (c : Nat) (w : World) (h1 : fewL l = false) : Calls Try.prog 4 #[.agg (lc l), .agg (ac3 v1 v2 v3), .int .i64 f, .int .i64 n, .int .i64 x, .slice A rs.length c] w fun e w' => e = .returned (.bool true) ∧ Below w.heap.size w w' := by
  have HV := Lib.hid (two_l3 w l v1 v2 v3)
  have F1 := Lib.hid (fewl_v h1)
  have c0 := Joins.cell_of_block HV.out.head 0; have c1 := Joins.cell_of_block HV.out.head 1; have c2 := Joins.cell_of_block HV.out.head 2
  simp only [List.getElem?_toArray, List.getElem?_cons_zero, List.getElem?_cons_succ] at c0 c1 c2
  clear h1
  go_enter Try.func4, Try.ntmps4
  go_wp2_with (first | (refine ldl rfl _ rfl _ _ rfl HV.out.h2 ?_) | (go_at_call 8; (with_reducible refine (awake_c _).mono ?_); rintro e W ⟨rfl, hb⟩; replace HV := Lib.hid (HV.out.grow hb); clear hb c0 c1 c2; have c0 := Joins.cell_of_block HV.out.head 0; have c1 := Joins.cell_of_block HV.out.head 1; have c2 := Joins.cell_of_block HV.out.head 2; simp only [List.getElem?_toArray, List.getElem?_cons_zero, List.getElem?_cons_succ] at c0 c1 c2) | (go_at_call 11; (with_reducible refine (F1.out _).mono ?_); rintro e W ⟨rfl, hb⟩; replace HV := Lib.hid (HV.out.grow hb); clear hb c0 c1 c2; have c0 := Joins.cell_of_block HV.out.head 0; have c1 := Joins.cell_of_block HV.out.head 1; have c2 := Joins.cell_of_block HV.out.head 2; simp only [List.getElem?_toArray, List.getElem?_cons_zero, List.getElem?_cons_succ] at c0 c1 c2) | fail)
  go_ret
  exact ⟨rfl, HV.out.old⟩

set_option maxHeartbeats 4000000 in
theorem LimitLeast_many (l : Lg) (v1 v2 v3 f n x : Int) (A : Option Addr) (rs : List Int) (c : Nat) (hlen : rs.length ≤ 9223372036854775807) (w : World) (h1 : fewL l = true) (h2 : 50 < rs.length) : Calls Try.prog 4 #[.agg (lc l), .agg (ac3 v1 v2 v3), .int .i64 f, .int .i64 n, .int .i64 x, .slice A rs.length c] w fun e w' => e = .returned (.bool true) ∧ Below w.heap.size w w' := by
  have HV := Lib.hid (two_l3 w l v1 v2 v3)
  have F1 := Lib.hid (fewl_v h1)
  have c0 := Joins.cell_of_block HV.out.head 0; have c1 := Joins.cell_of_block HV.out.head 1; have c2 := Joins.cell_of_block HV.out.head 2
  simp only [List.getElem?_toArray, List.getElem?_cons_zero, List.getElem?_cons_succ] at c0 c1 c2
  have d1 : decide ((50 : Int) < (rs.length : Int)) = true := decide_eq_true (by omega)
  clear h1
  go_enter Try.func4, Try.ntmps4
  go_wp2_with (first | (refine ldl rfl _ rfl _ _ rfl HV.out.h2 ?_) | (go_at_call 8; (with_reducible refine (awake_c _).mono ?_); rintro e W ⟨rfl, hb⟩; replace HV := Lib.hid (HV.out.grow hb); clear hb c0 c1 c2; have c0 := Joins.cell_of_block HV.out.head 0; have c1 := Joins.cell_of_block HV.out.head 1; have c2 := Joins.cell_of_block HV.out.head 2; simp only [List.getElem?_toArray, List.getElem?_cons_zero, List.getElem?_cons_succ] at c0 c1 c2) | (go_at_call 11; (with_reducible refine (F1.out _).mono ?_); rintro e W ⟨rfl, hb⟩; replace HV := Lib.hid (HV.out.grow hb); clear hb c0 c1 c2; have c0 := Joins.cell_of_block HV.out.head 0; have c1 := Joins.cell_of_block HV.out.head 1; have c2 := Joins.cell_of_block HV.out.head 2; simp only [List.getElem?_toArray, List.getElem?_cons_zero, List.getElem?_cons_succ] at c0 c1 c2) | fail)
  go_ret
  exact ⟨rfl, HV.out.old⟩

set_option maxHeartbeats 4000000 in
theorem LimitLeast_walk (l : Lg) (v1 v2 v3 f n x : Int) (A : Option Addr) (rs : List Int) (c : Nat) (hlen : rs.length ≤ 9223372036854775807) (w : World) (hL : LawIn w l) (hA : Lk.IntsAt w .i64 A rs) : Calls Try.prog 4 #[.agg (lc l), .agg (ac3 v1 v2 v3), .int .i64 f, .int .i64 n, .int .i64 x, .slice A rs.length c] w fun e w' => e = .returned (.bool true) ∧ Below w.heap.size w w' := by
  cases h1 : fewL l with
  | false => exact LimitLeast_few l v1 v2 v3 f n x A rs c w h1
  | true =>
    by_cases h2 : 50 < rs.length
    · exact LimitLeast_many l v1 v2 v3 f n x A rs c hlen w h1 h2
    obtain ⟨z, ez⟩ : ∃ z, Lt.ladder x rs = z := ⟨_, rfl⟩
    have HV := Lib.hid (two_l3 w l v1 v2 v3)
    have F1 := Lib.hid (fewl_v h1)
    have C3 := Lib.hid (fun W hb => ladder_v (c := c) hlen hA ez W hb)
    have C4 := Lib.hid (fun W hb => rladder_v (c := c) hlen hA ez W hb)
    have c0 := Joins.cell_of_block HV.out.head 0; have c1 := Joins.cell_of_block HV.out.head 1; have c2 := Joins.cell_of_block HV.out.head 2
    simp only [List.getElem?_toArray, List.getElem?_cons_zero, List.getElem?_cons_succ] at c0 c1 c2
    have d1 : decide ((50 : Int) < (rs.length : Int)) = false := decide_eq_false (by omega)
    clear h1 ez hA
    cases h3 : Sd.okB (la l) with
    | false =>
      have C1 := Lib.hid (fun W (hb : Below w.heap.size w W) => least_no l v1 v2 v3 f n W (hL.below hb) h3)
      have C2 := Lib.hid (fun W (hb : Below w.heap.size w W) => rleast_no l v1 v2 v3 f n W (hL.below hb) h3)
      clear hL h3
      go_enter Try.func4, Try.ntmps4
      go_wp2_with (first | (refine ldl rfl _ rfl _ _ rfl HV.out.h2 ?_) | (go_at_call 8; (with_reducible refine (awake_c _).mono ?_); rintro e W ⟨rfl, hb⟩; replace HV := Lib.hid (HV.out.grow hb); clear hb c0 c1 c2; have c0 := Joins.cell_of_block HV.out.head 0; have c1 := Joins.cell_of_block HV.out.head 1; have c2 := Joins.cell_of_block HV.out.head 2; simp only [List.getElem?_toArray, List.getElem?_cons_zero, List.getElem?_cons_succ] at c0 c1 c2) | (go_at_call 11; (with_reducible refine (F1.out _).mono ?_); rintro e W ⟨rfl, hb⟩; replace HV := Lib.hid (HV.out.grow hb); clear hb c0 c1 c2; have c0 := Joins.cell_of_block HV.out.head 0; have c1 := Joins.cell_of_block HV.out.head 1; have c2 := Joins.cell_of_block HV.out.head 2; simp only [List.getElem?_toArray, List.getElem?_cons_zero, List.getElem?_cons_succ] at c0 c1 c2) | (go_at_call 12; (with_reducible refine (C1.out _ HV.out.old).mono ?_); rintro e W ⟨rfl, hb⟩; replace HV := Lib.hid (HV.out.grow hb); clear hb c0 c1 c2; have c0 := Joins.cell_of_block HV.out.head 0; have c1 := Joins.cell_of_block HV.out.head 1; have c2 := Joins.cell_of_block HV.out.head 2; simp only [List.getElem?_toArray, List.getElem?_cons_zero, List.getElem?_cons_succ] at c0 c1 c2) | (go_at_call 13; (with_reducible refine (C2.out _ HV.out.old).mono ?_); rintro e W ⟨rfl, hb⟩; replace HV := Lib.hid (HV.out.grow hb); clear hb c0 c1 c2; have c0 := Joins.cell_of_block HV.out.head 0; have c1 := Joins.cell_of_block HV.out.head 1; have c2 := Joins.cell_of_block HV.out.head 2; simp only [List.getElem?_toArray, List.getElem?_cons_zero, List.getElem?_cons_succ] at c0 c1 c2) | (go_at_call 14; (with_reducible refine (C3.out _ HV.out.old).mono ?_); rintro e w' ⟨rfl, rfl⟩) | (go_at_call 15; (with_reducible refine (C4.out _ HV.out.old).mono ?_); rintro e w' ⟨rfl, rfl⟩) | fail)
      go_ret
      exact ⟨rfl, HV.out.old⟩
    | true =>
      obtain ⟨M, eM⟩ : ∃ M, Lt.least (Lt.trim v1 l.red1 l.margin f n) (Lt.trim v2 l.red2 l.margin f n) (Lt.trim v3 l.redE l.margin f n) = M := ⟨_, rfl⟩
      obtain ⟨y, ey⟩ : ∃ y, Lt.which (Lt.trim v1 l.red1 l.margin f n) (Lt.trim v2 l.red2 l.margin f n) (Lt.trim v3 l.redE l.margin f n) (Fx.sat f) = y := ⟨_, rfl⟩
      have C1 := Lib.hid (fun W (hb : Below w.heap.size w W) => ey ▸ least_ok l v1 v2 v3 f n _ _ _ _ M _ _ _ W (hL.below hb) h3 rfl rfl rfl rfl eM rfl rfl rfl)
      have C2 := Lib.hid (fun W (hb : Below w.heap.size w W) => ey ▸ rleast_ok l v1 v2 v3 f n _ _ _ _ M W (hL.below hb) h3 rfl rfl rfl rfl eM)
      clear hL h3 eM ey
      go_enter Try.func4, Try.ntmps4
      go_wp2_with (first | (refine ldl rfl _ rfl _ _ rfl HV.out.h2 ?_) | (go_at_call 8; (with_reducible refine (awake_c _).mono ?_); rintro e W ⟨rfl, hb⟩; replace HV := Lib.hid (HV.out.grow hb); clear hb c0 c1 c2; have c0 := Joins.cell_of_block HV.out.head 0; have c1 := Joins.cell_of_block HV.out.head 1; have c2 := Joins.cell_of_block HV.out.head 2; simp only [List.getElem?_toArray, List.getElem?_cons_zero, List.getElem?_cons_succ] at c0 c1 c2) | (go_at_call 11; (with_reducible refine (F1.out _).mono ?_); rintro e W ⟨rfl, hb⟩; replace HV := Lib.hid (HV.out.grow hb); clear hb c0 c1 c2; have c0 := Joins.cell_of_block HV.out.head 0; have c1 := Joins.cell_of_block HV.out.head 1; have c2 := Joins.cell_of_block HV.out.head 2; simp only [List.getElem?_toArray, List.getElem?_cons_zero, List.getElem?_cons_succ] at c0 c1 c2) | (go_at_call 12; (with_reducible refine (C1.out _ HV.out.old).mono ?_); rintro e W ⟨rfl, hb⟩; replace HV := Lib.hid (HV.out.grow hb); clear hb c0 c1 c2; have c0 := Joins.cell_of_block HV.out.head 0; have c1 := Joins.cell_of_block HV.out.head 1; have c2 := Joins.cell_of_block HV.out.head 2; simp only [List.getElem?_toArray, List.getElem?_cons_zero, List.getElem?_cons_succ] at c0 c1 c2) | (go_at_call 13; (with_reducible refine (C2.out _ HV.out.old).mono ?_); rintro e W ⟨rfl, hb⟩; replace HV := Lib.hid (HV.out.grow hb); clear hb c0 c1 c2; have c0 := Joins.cell_of_block HV.out.head 0; have c1 := Joins.cell_of_block HV.out.head 1; have c2 := Joins.cell_of_block HV.out.head 2; simp only [List.getElem?_toArray, List.getElem?_cons_zero, List.getElem?_cons_succ] at c0 c1 c2) | (go_at_call 14; (with_reducible refine (C3.out _ HV.out.old).mono ?_); rintro e w' ⟨rfl, rfl⟩) | (go_at_call 15; (with_reducible refine (C4.out _ HV.out.old).mono ?_); rintro e w' ⟨rfl, rfl⟩) | fail)
      go_ret
      exact ⟨rfl, HV.out.old⟩

end Lw5
end Go.Proofs.Ytjjconkelbjodaa
