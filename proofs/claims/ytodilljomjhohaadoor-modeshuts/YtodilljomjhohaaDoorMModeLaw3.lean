/- The walk of ModeShuts. Printed by gen_laws.py. -/
import Derived.Test.YtodilljomjhohaaDoorCc
import Derived.RangeFuncNested
import Derived.Deep.CutRange
namespace Go.Proofs.YtodilljomjhohaaDoor
namespace Mw
open Go.RowKit TabC Lk Ew Hw Bw

set_option maxRecDepth 100000 in
set_option maxHeartbeats 8000000 in
theorem ModeShuts_few1 (e : Eg) (l : Lg) (m c : Int) (A : Option Addr) (len cap : Nat) (t : TypeId) (w : World) (hR : w.heap[0]? = some (.cells rc t (0, 0))) (h1 : fewL l = false) : Calls Tryd.prog 6 #[.agg (ec e), .agg (lc l), .agg (ph m c), .slice A len cap] w fun r w' => r = .returned (.bool true) ∧ Below w.heap.size w w' := by
  have HV := Lib.hid (three_l hR e l m c)
  have F1 := Lib.hid (fewl_v h1)
  clear h1
  go_enter Tryd.func6, Tryd.ntmps6
  go_upto_region 1 with fail
  generalize hEE : Value.agg (ec e) = E at *
  generalize hLL : Value.agg (lc l) = L at *
  go_wp2_with (first | go_big_skip | (refine ldE' hEE rfl _ rfl _ rfl HV.out.tail.tail.head ?_) | (refine ldL' hLL rfl _ rfl _ rfl HV.out.tail.head ?_) | (go_at_call 9; (with_reducible refine (awake_c t _ HV.out.tail.tail.tail.head).mono ?_); rintro r W ⟨rfl, hb⟩; replace HV := Lib.hid (HV.out.grow hb); clear hb) | (go_at_call 10; (with_reducible refine (F1.out _).mono ?_); rintro r W ⟨rfl, hb⟩; replace HV := Lib.hid (HV.out.grow hb); clear hb) | (go_at_call 11; (with_reducible refine (F2.out _).mono ?_); rintro r W ⟨rfl, hb⟩; replace HV := Lib.hid (HV.out.grow hb); clear hb) | fail)
  go_ret
  exact ⟨rfl, HV.out.old⟩

set_option maxRecDepth 100000 in
set_option maxHeartbeats 8000000 in
theorem ModeShuts_few2 (e : Eg) (l : Lg) (m c : Int) (A : Option Addr) (len cap : Nat) (t : TypeId) (w : World) (hR : w.heap[0]? = some (.cells rc t (0, 0))) (h1 : fewL l = true) (h2 : fewE e = false) : Calls Tryd.prog 6 #[.agg (ec e), .agg (lc l), .agg (ph m c), .slice A len cap] w fun r w' => r = .returned (.bool true) ∧ Below w.heap.size w w' := by
  have HV := Lib.hid (three_l hR e l m c)
  have F1 := Lib.hid (fewl_v h1)
  have F2 := Lib.hid (Ew.few_v h2)
  clear h1 h2
  go_enter Tryd.func6, Tryd.ntmps6
  go_upto_region 1 with fail
  generalize hEE : Value.agg (ec e) = E at *
  generalize hLL : Value.agg (lc l) = L at *
  go_wp2_with (first | go_big_skip | (refine ldE' hEE rfl _ rfl _ rfl HV.out.tail.tail.head ?_) | (refine ldL' hLL rfl _ rfl _ rfl HV.out.tail.head ?_) | (go_at_call 9; (with_reducible refine (awake_c t _ HV.out.tail.tail.tail.head).mono ?_); rintro r W ⟨rfl, hb⟩; replace HV := Lib.hid (HV.out.grow hb); clear hb) | (go_at_call 10; (with_reducible refine (F1.out _).mono ?_); rintro r W ⟨rfl, hb⟩; replace HV := Lib.hid (HV.out.grow hb); clear hb) | (go_at_call 11; (with_reducible refine (F2.out _).mono ?_); rintro r W ⟨rfl, hb⟩; replace HV := Lib.hid (HV.out.grow hb); clear hb) | fail)
  go_ret
  exact ⟨rfl, HV.out.old⟩

set_option maxRecDepth 100000 in
set_option maxHeartbeats 8000000 in
theorem Shuts_go (e : Eg) (l : Lg) (m c : Int) (A : Option Addr) (T : List Fr) (n cap : Nat) (hn : T.length = n) (t : TypeId) (w : World) (hE : EngIn w e) (hL : LawIn w l) (hR : w.heap[0]? = some (.cells rc t (0, 0))) (hA : Frs w A T) (h1 : fewL l = true) (h2 : fewE e = true) : Calls Tryd.prog 6 #[.agg (ec e), .agg (lc l), .agg (ph m c), .slice A n cap] w fun r w' => r = .returned (.bool true) ∧ Below w.heap.size w w' := by
  have HV := Lib.hid (three_l hR e l m c)
  have F1 := Lib.hid (fewl_v h1)
  have F2 := Lib.hid (Ew.few_v h2)
  have NX := Lib.hid (fun (m c : Int) (f : Fr) (W : World) (hR : W.heap[0]? = some (.cells rc t (0, 0))) (hW : Below w.heap.size w W) => next_c e l m c f.s f.lit f.n f.h t W (hE.below hW) (hL.below hW) hR)
  have OX := Lib.hid (fun (m n : Int) (W : World) (hW : Below w.heap.size w W) => orders_c e m n (Sb.ready (en e) n) W (fun V hV => ready_v (hE.below hW) rfl hV))
  have HA := Lib.hid (fun W (hW : Below w.heap.size w W) => hA.below hW)
  have HN := Lib.hid hn
  have hN : 0 < w.heap.size := (Array.getElem?_eq_some_iff.1 hR).1
  clear hE hL h1 h2 hA hn
  go_enter Tryd.func6, Tryd.ntmps6
  go_upto_region 1 with fail
  generalize hEE : Value.agg (ec e) = E at *
  generalize hLL : Value.agg (lc l) = L at *
  go_wp2_with (first | go_big_skip | (refine ldE' hEE rfl _ rfl _ rfl HV.out.tail.tail.head ?_) | (refine ldL' hLL rfl _ rfl _ rfl HV.out.tail.head ?_) | (go_at_call 9; (with_reducible refine (awake_c t _ HV.out.tail.tail.tail.head).mono ?_); rintro r W ⟨rfl, hb⟩; replace HV := Lib.hid (HV.out.grow hb); clear hb) | (go_at_call 10; (with_reducible refine (F1.out _).mono ?_); rintro r W ⟨rfl, hb⟩; replace HV := Lib.hid (HV.out.grow hb); clear hb) | (go_at_call 11; (with_reducible refine (F2.out _).mono ?_); rintro r W ⟨rfl, hb⟩; replace HV := Lib.hid (HV.out.grow hb); clear hb) | fail)
  go_loopw [10] (fun i wr => ∃ k : Nat, (k ≤ n ∧ k ≤ 100) ∧ i = .int .i64 k ∧ ∃ m c : Int, Hv w wr [(w.heap.size + 1 + 1, po m c), (w.heap.size + 1, lo l), (w.heap.size, eo e), (0, .cells rc t (0, 0))]) (fun i _ => n - (intOf i).toNat)
  case atStart => exact ⟨0, ⟨Nat.zero_le _, Nat.zero_le _⟩, rfl, m, c, HV.out⟩
  case round =>
    clear HV F1 F2
    obtain ⟨k, ⟨hk, hk1⟩, rfl, m, c, hv⟩ := hrel
    have HV := Lib.hid hv
    clear hv
    by_cases hlt : k < n
    · have hkn : (k : Int) < n := by omega
      by_cases h100 : k < 100
      · obtain ⟨f, hf⟩ : ∃ f, T[k]? = some f := ⟨T[k]'(by rw [HN.out]; exact hlt), List.getElem?_eq_getElem _⟩
        obtain ⟨g, o, rfl, _, hr⟩ := HA.out _ HV.out.old k f hf
        have HF := Lib.hid hr
        have h2 : (k : Int) < 100 := by omega
        have HS : Hid (f.s.master = false → Mm.opn (Mm.nm (seef e l c f) m) = false ∧ Mm.spark (Mm.nm (seef e l c f) m) = false) := fun h => Mm.shuts (seef e l c f) h m
        have C1 : Hid (∀ W : World, W.heap[0]? = some (.cells rc t (0, 0)) → Below w.heap.size w W → Calls Tryd.prog 12 #[E, L, .agg (ph m c), .agg (pn f.s), .bool f.lit, .int .i64 f.n, .int .i64 f.h] W fun r w' => r = .returned (.agg (ph (Mm.nm (seef e l c f) m) (Mm.nc (seef e l c f) m c))) ∧ Below W.heap.size W w') := fun W hR hW => NX.out m c f W hR hW
        generalize Mm.nm (seef e l c f) m = q1 at *
        generalize Mm.nc (seef e l c f) m c = q2 at *
        have C2 := Lib.hid (fun W hW => OX.out q1 f.n W hW)
        have CB := Lib.hid (fun W => burns_c q1 W)
        have HB := Lib.hid (Mm.burns_opn q1)
        have HP := Lib.hid (Mm.spark_opn q1)
        generalize Mm.starter (Sb.ready (en e) f.n) q1 = y1 at *
        generalize Mm.spark q1 = y2 at *
        generalize Mm.opn q1 = y3 at *
        generalize Mm.burns q1 = y4 at *
        clear hf hr NX OX HA HN
        go_upto_region 8 with (first | go_big_skip | (refine ldf rfl _ rfl g (o + k * 8) f rfl HF.out ?_) | fail)
        replace HV := Lib.hid (HV.out.made (fo f))
        clear HF
        obtain ⟨_, f5, f6, f7⟩ := ff HV.out.head
        go_upto_region 9 with (first | (refine ldE' hEE rfl _ rfl _ rfl HV.out.tail.tail.tail.head ?_) | (refine ldL' hLL rfl _ rfl _ rfl HV.out.tail.tail.head ?_) | (refine ldp rfl _ rfl _ m c rfl HV.out.tail.head ?_) | (refine ldnf rfl _ rfl _ f rfl HV.out.head ?_) | (go_at_call 12; (with_reducible refine (C1.out _ HV.out.tail.tail.tail.tail.head HV.out.old).mono ?_); rintro r W ⟨rfl, hb⟩; replace HV := Lib.hid ((HV.out.grow hb).made (po q1 q2)); clear hb C1 f5 f6 f7; have f6 : (W.alloc (.cells #[.int .i64 q1, .int .i64 q2] 31 (0, 0))).cell? ⟨wr.heap.size, 6, none⟩ = some (.int .i64 f.n) := (ff HV.out.h2).2.2.1) | fail)
        go_upto_region 10 with (first | (refine ldE' hEE rfl _ rfl _ rfl HV.out.tail.tail.tail.tail.head ?_) | (go_at_call 14; (with_reducible refine (C2.out _ HV.out.old).mono ?_); rintro r V ⟨rfl, hb⟩; replace HV := Lib.hid ((HV.out.grow hb).made (oo y1 y2 y3 y3)); clear hb C2 f6; have m0 : (V.alloc (.cells #[.bool y1, .bool y2, .bool y3, .bool y3] 38 (0, 0))).cell? ⟨wr.heap.size, 0, none⟩ = some (.bool f.s.master) := (ff HV.out.h3).1; have m1 : (V.alloc (.cells #[.bool y1, .bool y2, .bool y3, .bool y3] 38 (0, 0))).cell? ⟨W.heap.size, 0, none⟩ = some (.int .i64 q1) := (pfld HV.out.h2).1) | fail)
        cases hms : f.s.master with
        | false =>
          obtain ⟨rfl, rfl⟩ := HS.out hms
          obtain rfl : y4 = false := by have := HB.out; simpa using this
          clear HS HB HP
          go_wp2_with (first | go_big_skip | (go_at_call 16; (with_reducible refine (CB.out _).mono ?_); rintro r V' ⟨rfl, rfl⟩) | (refine ldp rfl _ rfl _ q1 q2 rfl HV.out.tail.head ?_) | (refine stp rfl _ _ rfl rfl _ m c _ _ rfl rfl HV.out.tail.tail.tail.head ?_; intro w' hP hO; replace HV := Lib.hid (HV.out.tail.tail.tail.change hO hP apart3 (by omega)); clear hP hO) | fail)
          go_roundw
          case rel => exact ⟨k + 1, ⟨hlt, h100⟩, by go_num, q1, q2, HV.out⟩
          case measure => simp only [intOf, Int.toNat_natCast]; omega
        | true =>
          clear HS
          cases y3 with
          | false =>
            obtain rfl : y4 = false := by have := HB.out; simpa using this
            obtain rfl : y2 = false := by have := HP.out; simpa using this
            clear HB HP
            go_wp2_with (first | go_big_skip | (go_at_call 16; (with_reducible refine (CB.out _).mono ?_); rintro r V' ⟨rfl, rfl⟩) | (refine ldp rfl _ rfl _ q1 q2 rfl HV.out.tail.head ?_) | (refine stp rfl _ _ rfl rfl _ m c _ _ rfl rfl HV.out.tail.tail.tail.head ?_; intro w' hP hO; replace HV := Lib.hid (HV.out.tail.tail.tail.change hO hP apart3 (by omega)); clear hP hO) | fail)
            go_roundw
            case rel => exact ⟨k + 1, ⟨hlt, h100⟩, by go_num, q1, q2, HV.out⟩
            case measure => simp only [intOf, Int.toNat_natCast]; omega
          | true =>
            clear HB HP
            cases y2
            · cases y4
              · skip
                go_wp2_with (first | go_big_skip | (go_at_call 16; (with_reducible refine (CB.out _).mono ?_); rintro r V' ⟨rfl, rfl⟩) | (refine ldp rfl _ rfl _ q1 q2 rfl HV.out.tail.head ?_) | (refine stp rfl _ _ rfl rfl _ m c _ _ rfl rfl HV.out.tail.tail.tail.head ?_; intro w' hP hO; replace HV := Lib.hid (HV.out.tail.tail.tail.change hO hP apart3 (by omega)); clear hP hO) | fail)
                go_roundw
                case rel => exact ⟨k + 1, ⟨hlt, h100⟩, by go_num, q1, q2, HV.out⟩
                case measure => simp only [intOf, Int.toNat_natCast]; omega
              · skip
                go_wp2_with (first | go_big_skip | (go_at_call 16; (with_reducible refine (CB.out _).mono ?_); rintro r V' ⟨rfl, rfl⟩) | (refine ldp rfl _ rfl _ q1 q2 rfl HV.out.tail.head ?_) | (refine stp rfl _ _ rfl rfl _ m c _ _ rfl rfl HV.out.tail.tail.tail.head ?_; intro w' hP hO; replace HV := Lib.hid (HV.out.tail.tail.tail.change hO hP apart3 (by omega)); clear hP hO) | fail)
                go_roundw
                case rel => exact ⟨k + 1, ⟨hlt, h100⟩, by go_num, q1, q2, HV.out⟩
                case measure => simp only [intOf, Int.toNat_natCast]; omega
            · cases y4
              · skip
                go_wp2_with (first | go_big_skip | (go_at_call 16; (with_reducible refine (CB.out _).mono ?_); rintro r V' ⟨rfl, rfl⟩) | (refine ldp rfl _ rfl _ q1 q2 rfl HV.out.tail.head ?_) | (refine stp rfl _ _ rfl rfl _ m c _ _ rfl rfl HV.out.tail.tail.tail.head ?_; intro w' hP hO; replace HV := Lib.hid (HV.out.tail.tail.tail.change hO hP apart3 (by omega)); clear hP hO) | fail)
                go_roundw
                case rel => exact ⟨k + 1, ⟨hlt, h100⟩, by go_num, q1, q2, HV.out⟩
                case measure => simp only [intOf, Int.toNat_natCast]; omega
              · skip
                go_wp2_with (first | go_big_skip | (go_at_call 16; (with_reducible refine (CB.out _).mono ?_); rintro r V' ⟨rfl, rfl⟩) | (refine ldp rfl _ rfl _ q1 q2 rfl HV.out.tail.head ?_) | (refine stp rfl _ _ rfl rfl _ m c _ _ rfl rfl HV.out.tail.tail.tail.head ?_; intro w' hP hO; replace HV := Lib.hid (HV.out.tail.tail.tail.change hO hP apart3 (by omega)); clear hP hO) | fail)
                go_roundw
                case rel => exact ⟨k + 1, ⟨hlt, h100⟩, by go_num, q1, q2, HV.out⟩
                case measure => simp only [intOf, Int.toNat_natCast]; omega
      · have h3 : ¬ (k : Int) < 100 := by omega
        clear NX OX HA HN
        go_wp2_with (first | go_big_skip | fail)
        go_ret
        exact ⟨rfl, HV.out.old⟩
    · obtain rfl : k = n := by omega
      clear NX OX HA HN
      go_wp2_with (first | go_big_skip | fail)
      go_ret
      exact ⟨rfl, HV.out.old⟩

theorem ModeShuts_walk (e : Eg) (l : Lg) (m c : Int) (A : Option Addr) (T : List Fr) (cap : Nat) (t : TypeId) (w : World) (hE : EngIn w e) (hL : LawIn w l) (hR : w.heap[0]? = some (.cells rc t (0, 0))) (hA : Frs w A T) : Calls Tryd.prog 6 #[.agg (ec e), .agg (lc l), .agg (ph m c), .slice A T.length cap] w fun r w' => r = .returned (.bool true) ∧ Below w.heap.size w w' := by
  cases h1 : fewL l with
  | false => exact ModeShuts_few1 e l m c A T.length cap t w hR h1
  | true =>
    cases h2 : fewE e with
    | false => exact ModeShuts_few2 e l m c A T.length cap t w hR h1 h2
    | true => exact Shuts_go e l m c A T T.length cap rfl t w hE hL hR hA h1 h2
end Mw
end Go.Proofs.YtodilljomjhohaaDoor
