/- The walk of ModeWaits. Printed by gen_laws.py. -/
import Derived.Test.YtodilljomjhohaaDoorCc
import Derived.RangeFuncNested
import Derived.Deep.CutRange
namespace Go.Proofs.YtodilljomjhohaaDoor
namespace Mw
open Go.RowKit TabC Lk Ew Hw Bw

set_option maxRecDepth 100000 in
set_option maxHeartbeats 8000000 in
theorem ModeWaits_few1 (e : Eg) (l : Lg)  (A : Option Addr) (len cap : Nat) (t : TypeId) (w : World) (hR : w.heap[0]? = some (.cells rc t (0, 0))) (h1 : fewL l = false) : Calls Tryd.prog 7 #[.agg (ec e), .agg (lc l), .slice A len cap] w fun r w' => r = .returned (.bool true) ∧ Below w.heap.size w w' := by
  have HV := Lib.hid (two_l hR e l)
  have F1 := Lib.hid (fewl_v h1)
  clear h1
  go_enter Tryd.func7, Tryd.ntmps7
  go_upto_region 1 with fail
  generalize hEE : Value.agg (ec e) = E at *
  generalize hLL : Value.agg (lc l) = L at *
  go_wp2_with (first | go_big_skip | (refine ldE' hEE rfl _ rfl _ rfl HV.out.tail.head ?_) | (refine ldL' hLL rfl _ rfl _ rfl HV.out.head ?_) | (go_at_call 9; (with_reducible refine (awake_c t _ HV.out.tail.tail.head).mono ?_); rintro r W ⟨rfl, hb⟩; replace HV := Lib.hid (HV.out.grow hb); clear hb) | (go_at_call 10; (with_reducible refine (F1.out _).mono ?_); rintro r W ⟨rfl, hb⟩; replace HV := Lib.hid (HV.out.grow hb); clear hb) | (go_at_call 11; (with_reducible refine (F2.out _).mono ?_); rintro r W ⟨rfl, hb⟩; replace HV := Lib.hid (HV.out.grow hb); clear hb) | fail)
  go_ret
  exact ⟨rfl, HV.out.old⟩

set_option maxRecDepth 100000 in
set_option maxHeartbeats 8000000 in
theorem ModeWaits_few2 (e : Eg) (l : Lg)  (A : Option Addr) (len cap : Nat) (t : TypeId) (w : World) (hR : w.heap[0]? = some (.cells rc t (0, 0))) (h1 : fewL l = true) (h2 : fewE e = false) : Calls Tryd.prog 7 #[.agg (ec e), .agg (lc l), .slice A len cap] w fun r w' => r = .returned (.bool true) ∧ Below w.heap.size w w' := by
  have HV := Lib.hid (two_l hR e l)
  have F1 := Lib.hid (fewl_v h1)
  have F2 := Lib.hid (Ew.few_v h2)
  clear h1 h2
  go_enter Tryd.func7, Tryd.ntmps7
  go_upto_region 1 with fail
  generalize hEE : Value.agg (ec e) = E at *
  generalize hLL : Value.agg (lc l) = L at *
  go_wp2_with (first | go_big_skip | (refine ldE' hEE rfl _ rfl _ rfl HV.out.tail.head ?_) | (refine ldL' hLL rfl _ rfl _ rfl HV.out.head ?_) | (go_at_call 9; (with_reducible refine (awake_c t _ HV.out.tail.tail.head).mono ?_); rintro r W ⟨rfl, hb⟩; replace HV := Lib.hid (HV.out.grow hb); clear hb) | (go_at_call 10; (with_reducible refine (F1.out _).mono ?_); rintro r W ⟨rfl, hb⟩; replace HV := Lib.hid (HV.out.grow hb); clear hb) | (go_at_call 11; (with_reducible refine (F2.out _).mono ?_); rintro r W ⟨rfl, hb⟩; replace HV := Lib.hid (HV.out.grow hb); clear hb) | fail)
  go_ret
  exact ⟨rfl, HV.out.old⟩

/-- The patience of laws, as it lies. -/
theorem pat {V : World} {b : Nat} {l : Lg} (h : V.heap[b]? = some (lo l)) : V.cell? ⟨b, 11, none⟩ = some (.int .i64 l.patience) := Joins.cell_of_block h 11
theorem lig {V : World} {b : Nat} {e : Eg} (h : V.heap[b]? = some (eo e)) : V.cell? ⟨b, 13, none⟩ = some (.int .i64 e.light) := Joins.cell_of_block h 13

set_option maxRecDepth 100000 in
set_option maxHeartbeats 8000000 in
theorem Waits_pat1 (e : Eg) (l : Lg) (A : Option Addr) (len cap : Nat) (t : TypeId) (w : World) (hR : w.heap[0]? = some (.cells rc t (0, 0))) (h1 : fewL l = true) (h2 : fewE e = true) (h3 : l.patience < 1) : Calls Tryd.prog 7 #[.agg (ec e), .agg (lc l), .slice A len cap] w fun r w' => r = .returned (.bool true) ∧ Below w.heap.size w w' := by
  have HV := Lib.hid (two_l hR e l)
  have F1 := Lib.hid (fewl_v h1)
  have F2 := Lib.hid (Ew.few_v h2)
  have d1 : decide (l.patience < 1) = true := decide_eq_true h3
  clear h1 h2
  go_enter Tryd.func7, Tryd.ntmps7
  go_upto_region 1 with fail
  generalize hEE : Value.agg (ec e) = E at *
  generalize hLL : Value.agg (lc l) = L at *
  go_wp2_with (first | (refine ldE' hEE rfl _ rfl _ rfl HV.out.tail.head ?_) | (refine ldL' hLL rfl _ rfl _ rfl HV.out.head ?_) | (go_at_call 9; (with_reducible refine (awake_c t _ HV.out.tail.tail.head).mono ?_); rintro r W ⟨rfl, hb⟩; replace HV := Lib.hid (HV.out.grow hb); clear hb) | (go_at_call 10; (with_reducible refine (F1.out _).mono ?_); rintro r W ⟨rfl, hb⟩; replace HV := Lib.hid (HV.out.grow hb); clear hb) | (go_at_call 11; (with_reducible refine (F2.out _).mono ?_); rintro r W ⟨rfl, hb⟩; replace HV := Lib.hid (HV.out.grow hb); clear hb; have cP := pat HV.out.head) | fail)
  go_ret
  exact ⟨rfl, HV.out.old⟩

set_option maxRecDepth 100000 in
set_option maxHeartbeats 8000000 in
theorem Waits_pat2 (e : Eg) (l : Lg) (A : Option Addr) (len cap : Nat) (t : TypeId) (w : World) (hR : w.heap[0]? = some (.cells rc t (0, 0))) (h1 : fewL l = true) (h2 : fewE e = true) (h3 : ¬ l.patience < 1) (h4 : 10000 < l.patience) : Calls Tryd.prog 7 #[.agg (ec e), .agg (lc l), .slice A len cap] w fun r w' => r = .returned (.bool true) ∧ Below w.heap.size w w' := by
  have HV := Lib.hid (two_l hR e l)
  have F1 := Lib.hid (fewl_v h1)
  have F2 := Lib.hid (Ew.few_v h2)
  have d1 : decide (l.patience < 1) = false := decide_eq_false h3
  have d2 : decide (10000 < l.patience) = true := decide_eq_true h4
  clear h1 h2
  go_enter Tryd.func7, Tryd.ntmps7
  go_upto_region 1 with fail
  generalize hEE : Value.agg (ec e) = E at *
  generalize hLL : Value.agg (lc l) = L at *
  go_wp2_with (first | (refine ldE' hEE rfl _ rfl _ rfl HV.out.tail.head ?_) | (refine ldL' hLL rfl _ rfl _ rfl HV.out.head ?_) | (go_at_call 9; (with_reducible refine (awake_c t _ HV.out.tail.tail.head).mono ?_); rintro r W ⟨rfl, hb⟩; replace HV := Lib.hid (HV.out.grow hb); clear hb) | (go_at_call 10; (with_reducible refine (F1.out _).mono ?_); rintro r W ⟨rfl, hb⟩; replace HV := Lib.hid (HV.out.grow hb); clear hb) | (go_at_call 11; (with_reducible refine (F2.out _).mono ?_); rintro r W ⟨rfl, hb⟩; replace HV := Lib.hid (HV.out.grow hb); clear hb; have cP := pat HV.out.head) | fail)
  go_ret
  exact ⟨rfl, HV.out.old⟩

set_option maxRecDepth 100000 in
set_option maxHeartbeats 40000000 in
theorem Waits_go (e : Eg) (l : Lg) (A : Option Addr) (T : List Fr) (n cap : Nat) (hn : T.length = n) (t : TypeId) (w : World) (hE : EngIn w e) (hL : LawIn w l) (hR : w.heap[0]? = some (.cells rc t (0, 0))) (hA : Frs w A T) (h1 : fewL l = true) (h2 : fewE e = true) (h3 : ¬ l.patience < 1) (h4 : ¬ 10000 < l.patience) : Calls Tryd.prog 7 #[.agg (ec e), .agg (lc l), .slice A n cap] w fun r w' => r = .returned (.bool true) ∧ Below w.heap.size w w' := by
  have HV := Lib.hid (two_l hR e l)
  have F1 := Lib.hid (fewl_v h1)
  have F2 := Lib.hid (Ew.few_v h2)
  have NX := Lib.hid (fun (m c : Int) (f : Fr) (W : World) (hR : W.heap[0]? = some (.cells rc t (0, 0))) (hW : Below w.heap.size w W) => next_c e l m c f.s f.lit f.n f.h t W (hE.below hW) (hL.below hW) hR)
  have RX := Lib.hid (fun (W : World) (hW : Below w.heap.size w W) => rnext_c e l 2 1048576 ⟨true, false, false, false, 0⟩ false (-1) 0 W (hE.below hW) (hL.below hW))
  have HW : Hid (∀ (f : Fr) (m c : Int), Mm.exist m = true → 0 ≤ c → c ≤ 200 → _) := fun (f : Fr) (m c : Int) he hc0 hc1 => Mm.waits (e := en e) (l := la l) (s := f.s) (lit := f.lit) (aw := Sb.away (la l) f.lit f.n) (ht := Sb.hot (la l) f.h) (m := m) (c := c) (n := f.n) he hc0 hc1 (show 1 ≤ l.patience by omega)
  have HA := Lib.hid (fun W (hW : Below w.heap.size w W) => hA.below hW)
  have HN := Lib.hid hn
  have d1 : decide (l.patience < 1) = false := decide_eq_false h3
  have d2 : decide (10000 < l.patience) = false := decide_eq_false h4
  have hN : 0 < w.heap.size := (Array.getElem?_eq_some_iff.1 hR).1
  have H3 := Lib.hid h3
  clear hE hL h1 h2 hA hn h3 h4
  go_enter Tryd.func7, Tryd.ntmps7
  go_upto_region 1 with fail
  generalize hEE : Value.agg (ec e) = E at *
  generalize hLL : Value.agg (lc l) = L at *
  go_upto_region 5 with (first | (refine ldE' hEE rfl _ rfl _ rfl HV.out.tail.head ?_) | (refine ldL' hLL rfl _ rfl _ rfl HV.out.head ?_) | (go_at_call 9; (with_reducible refine (awake_c t _ HV.out.tail.tail.head).mono ?_); rintro r W ⟨rfl, hb⟩; replace HV := Lib.hid (HV.out.grow hb); clear hb) | (go_at_call 10; (with_reducible refine (F1.out _).mono ?_); rintro r W ⟨rfl, hb⟩; replace HV := Lib.hid (HV.out.grow hb); clear hb) | (go_at_call 11; (with_reducible refine (F2.out _).mono ?_); rintro r W ⟨rfl, hb⟩; replace HV := Lib.hid (HV.out.grow hb); clear hb; have cP := pat HV.out.head) | fail)
  clear d1 d2
  have HJ : Hid (∀ a ∈ [(w.heap.size + 1, lo l), (w.heap.size, eo e), (0, Obj.cells rc t (0, 0))], a.1 ≠ W.heap.size) := fun a ha => by have := HV.out.lt ha; omega
  have HS := Lib.hid HV.out.old.size
  replace HV := Lib.hid (HV.out.made (po 0 0))
  generalize W.heap.size = G at *
  go_wp2_with fail
  go_loopw [9] (fun i wr => ∃ k : Nat, (k ≤ n ∧ k ≤ 200) ∧ i = .int .i64 k ∧ ∃ m c : Int, (Mm.exist m = true ∧ 0 ≤ c ∧ c ≤ k) ∧ Hv w wr [(G, po m c), (w.heap.size + 1, lo l), (w.heap.size, eo e), (0, .cells rc t (0, 0))]) (fun i _ => n - (intOf i).toNat)
  case atStart => exact ⟨0, ⟨Nat.zero_le _, Nat.zero_le _⟩, rfl, 0, 0, ⟨rfl, by decide, by decide⟩, HV.out⟩
  case round =>
    clear HV F1 F2
    obtain ⟨k, ⟨hk, hk1⟩, rfl, m, c, hi, hv⟩ := hrel
    have HV := Lib.hid hv
    clear hv
    by_cases hlt : k < n
    · have hkn : (k : Int) < n := by omega
      by_cases h100 : k < 200
      · obtain ⟨f, hf⟩ : ∃ f, T[k]? = some f := ⟨T[k]'(by rw [HN.out]; exact hlt), List.getElem?_eq_getElem _⟩
        obtain ⟨g, o, rfl, _, hr⟩ := HA.out _ HV.out.old k f hf
        have HF := Lib.hid hr
        have h2 : (k : Int) < 200 := by omega
        obtain ⟨he, hc0, hck⟩ := hi
        have hw := HW.out f m c he hc0 (by omega)
        have HX := Lib.hid (Mm.nm_exist (seef e l c f) m)
        have hA : Hid (Mm.nm (seef e l c f) m ≠ m → Mm.nc (seef e l c f) m c = 0) := hw.1
        have hB : Hid (Mm.nm (seef e l c f) m = m → Mm.nc (seef e l c f) m c = c + 1) := hw.2.1
        have hC : Hid (m = 2 → Mm.nm (seef e l c f) m = 3 → e.light ≤ f.n) := hw.2.2.1
        have hD : Hid (Mm.nm (see e l 1048576 ⟨true, false, false, false, 0⟩ false (-1) 0) 2 = 8 → (Mm.nm (seef e l c f) m = 2 ∨ Mm.nm (seef e l c f) m = 3 ∨ Mm.nm (seef e l c f) m = 7) → Mm.nc (seef e l c f) m c ≤ l.patience) := fun h8 => hw.2.2.2 ⟨true, false, false, false, 0⟩ false _ _ _ 1048576 rfl h8
        have C1 : Hid (∀ W : World, W.heap[0]? = some (.cells rc t (0, 0)) → Below w.heap.size w W → Calls Tryd.prog 12 #[E, L, .agg (ph m c), .agg (pn f.s), .bool f.lit, .int .i64 f.n, .int .i64 f.h] W fun r w' => r = .returned (.agg (ph (Mm.nm (seef e l c f) m) (Mm.nc (seef e l c f) m c))) ∧ Below W.heap.size W w') := fun W hR hW => NX.out m c f W hR hW
        have D1 := Lib.hid (fun W hW => RX.out W hW)
        generalize Mm.nm (seef e l c f) m = q1 at *
        generalize Mm.nc (seef e l c f) m c = q2 at *
        generalize Mm.nm (see e l 1048576 ⟨true, false, false, false, 0⟩ false (-1) 0) 2 = o1 at *
        generalize Mm.nc (see e l 1048576 ⟨true, false, false, false, 0⟩ false (-1) 0) 2 1048576 = o2 at *
        clear hf hr hw NX RX HA HN HW he
        go_upto_region 9 with (first | go_big_skip | (refine ldf rfl _ rfl g (o + k * 8) f rfl HF.out ?_) | fail)
        replace HV := Lib.hid (HV.out.made (fo f))
        clear HF
        obtain ⟨_, f5, f6, f7⟩ := ff HV.out.head
        go_upto_region 10 with (first | (refine ldE' hEE rfl _ rfl _ rfl HV.out.tail.tail.tail.head ?_) | (refine ldL' hLL rfl _ rfl _ rfl HV.out.tail.tail.head ?_) | (refine ldp rfl _ rfl _ m c rfl HV.out.tail.head ?_) | (refine ldnf rfl _ rfl _ f rfl HV.out.head ?_) | (go_at_call 12; (with_reducible refine (C1.out _ HV.out.tail.tail.tail.tail.head HV.out.old).mono ?_); rintro r W ⟨rfl, hb⟩; replace HV := Lib.hid ((HV.out.grow hb).made (po q1 q2)); clear hb C1 f5 f6 f7) | fail)
        have m0 : (W.alloc (.cells #[.int .i64 q1, .int .i64 q2] 31 (0, 0))).cell? ⟨W.heap.size, 0, none⟩ = some (.int .i64 q1) := (pfld HV.out.head).1
        have m1 : (W.alloc (.cells #[.int .i64 q1, .int .i64 q2] 31 (0, 0))).cell? ⟨W.heap.size, 1, none⟩ = some (.int .i64 q2) := (pfld HV.out.head).2
        have f6 : (W.alloc (.cells #[.int .i64 q1, .int .i64 q2] 31 (0, 0))).cell? ⟨wr.heap.size, 6, none⟩ = some (.int .i64 f.n) := (ff HV.out.h2).2.2.1
        have p0 : (W.alloc (.cells #[.int .i64 q1, .int .i64 q2] 31 (0, 0))).cell? ⟨G, 0, none⟩ = some (.int .i64 m) := (pfld HV.out.h3).1
        have p1 : (W.alloc (.cells #[.int .i64 q1, .int .i64 q2] 31 (0, 0))).cell? ⟨G, 1, none⟩ = some (.int .i64 c) := (pfld HV.out.h3).2
        have cL : (W.alloc (.cells #[.int .i64 q1, .int .i64 q2] 31 (0, 0))).cell? ⟨w.heap.size, 13, none⟩ = some (.int .i64 e.light) := lig HV.out.tail.tail.tail.tail.head
        have cP : (W.alloc (.cells #[.int .i64 q1, .int .i64 q2] 31 (0, 0))).cell? ⟨w.heap.size + 1, 11, none⟩ = some (.int .i64 l.patience) := pat HV.out.tail.tail.tail.head
        have hc2 : c ≤ 200 := by omega
        by_cases hqm : q1 = m
        · subst hqm
          obtain rfl := hB.out rfl
          have HI : Hid (Mm.exist q1 = true ∧ 0 ≤ c + 1 ∧ c + 1 ≤ ((k + 1 : Nat) : Int)) := ⟨HX.out, by omega, by omega⟩
          have kq : (q1 == q1) = true := by simp
          clear hA hB hC HX
          by_cases hw3 : q1 = 2 ∨ q1 = 3 ∨ q1 = 7
          · have HD : Hid (o1 = 8 → decide (l.patience < c + 1) = false) := fun h8 => by have := hD.out h8 hw3; simp; omega
            clear hD
            rcases hw3 with rfl | rfl | rfl
            · skip
              go_upto_region 13 with (first | go_big_skip | fail)
              go_upto_region 14 with (first | (refine ldE' hEE rfl _ rfl _ rfl HV.out.tail.tail.tail.tail.head ?_) | (refine ldL' hLL rfl _ rfl _ rfl HV.out.tail.tail.tail.head ?_) | (go_at_call 13; (with_reducible refine (D1.out _ HV.out.old).mono ?_); rintro r V ⟨rfl, hb⟩; replace HV := Lib.hid ((HV.out.grow hb).made (po o1 o2)); clear hb D1 m0 m1 p0 p1 f6 cL cP; have m1 : (V.alloc (.cells #[.int .i64 o1, .int .i64 o2] 31 (0, 0))).cell? ⟨W.heap.size, 1, none⟩ = some (.int .i64 (c + 1)) := (pfld HV.out.h2).2; have cP : (V.alloc (.cells #[.int .i64 o1, .int .i64 o2] 31 (0, 0))).cell? ⟨w.heap.size + 1, 11, none⟩ = some (.int .i64 l.patience) := pat HV.out.tail.tail.tail.tail.head) | fail)
              by_cases h8 : o1 = 8
              · have k8 : (o1 == 8) = true := by simp [h8]
                have k9 := HD.out h8
                clear h8
                go_wp2_with (first | go_big_skip | (refine ldp rfl _ rfl _ 2 (c + 1) rfl HV.out.tail.head ?_) | (refine stp rfl _ _ rfl rfl _ 2 c _ _ rfl rfl HV.out.tail.tail.tail.head ?_; intro w' hP hO; replace HV := Lib.hid (HV.out.tail.tail.tail.change hO hP HJ.out HS.out); clear hP hO) | fail)
                go_roundw
                case rel => exact ⟨k + 1, ⟨hlt, h100⟩, by go_num, 2, (c + 1), HI.out, HV.out⟩
                case measure => simp only [intOf, Int.toNat_natCast]; omega
              · have k8 : (o1 == 8) = false := by simp [h8]
                clear h8
                go_wp2_with (first | go_big_skip | (refine ldp rfl _ rfl _ 2 (c + 1) rfl HV.out.tail.head ?_) | (refine stp rfl _ _ rfl rfl _ 2 c _ _ rfl rfl HV.out.tail.tail.tail.head ?_; intro w' hP hO; replace HV := Lib.hid (HV.out.tail.tail.tail.change hO hP HJ.out HS.out); clear hP hO) | fail)
                go_roundw
                case rel => exact ⟨k + 1, ⟨hlt, h100⟩, by go_num, 2, (c + 1), HI.out, HV.out⟩
                case measure => simp only [intOf, Int.toNat_natCast]; omega
            · skip
              go_upto_region 13 with (first | go_big_skip | fail)
              go_upto_region 14 with (first | (refine ldE' hEE rfl _ rfl _ rfl HV.out.tail.tail.tail.tail.head ?_) | (refine ldL' hLL rfl _ rfl _ rfl HV.out.tail.tail.tail.head ?_) | (go_at_call 13; (with_reducible refine (D1.out _ HV.out.old).mono ?_); rintro r V ⟨rfl, hb⟩; replace HV := Lib.hid ((HV.out.grow hb).made (po o1 o2)); clear hb D1 m0 m1 p0 p1 f6 cL cP; have m1 : (V.alloc (.cells #[.int .i64 o1, .int .i64 o2] 31 (0, 0))).cell? ⟨W.heap.size, 1, none⟩ = some (.int .i64 (c + 1)) := (pfld HV.out.h2).2; have cP : (V.alloc (.cells #[.int .i64 o1, .int .i64 o2] 31 (0, 0))).cell? ⟨w.heap.size + 1, 11, none⟩ = some (.int .i64 l.patience) := pat HV.out.tail.tail.tail.tail.head) | fail)
              by_cases h8 : o1 = 8
              · have k8 : (o1 == 8) = true := by simp [h8]
                have k9 := HD.out h8
                clear h8
                go_wp2_with (first | go_big_skip | (refine ldp rfl _ rfl _ 3 (c + 1) rfl HV.out.tail.head ?_) | (refine stp rfl _ _ rfl rfl _ 3 c _ _ rfl rfl HV.out.tail.tail.tail.head ?_; intro w' hP hO; replace HV := Lib.hid (HV.out.tail.tail.tail.change hO hP HJ.out HS.out); clear hP hO) | fail)
                go_roundw
                case rel => exact ⟨k + 1, ⟨hlt, h100⟩, by go_num, 3, (c + 1), HI.out, HV.out⟩
                case measure => simp only [intOf, Int.toNat_natCast]; omega
              · have k8 : (o1 == 8) = false := by simp [h8]
                clear h8
                go_wp2_with (first | go_big_skip | (refine ldp rfl _ rfl _ 3 (c + 1) rfl HV.out.tail.head ?_) | (refine stp rfl _ _ rfl rfl _ 3 c _ _ rfl rfl HV.out.tail.tail.tail.head ?_; intro w' hP hO; replace HV := Lib.hid (HV.out.tail.tail.tail.change hO hP HJ.out HS.out); clear hP hO) | fail)
                go_roundw
                case rel => exact ⟨k + 1, ⟨hlt, h100⟩, by go_num, 3, (c + 1), HI.out, HV.out⟩
                case measure => simp only [intOf, Int.toNat_natCast]; omega
            · skip
              go_upto_region 13 with (first | go_big_skip | fail)
              go_upto_region 14 with (first | (refine ldE' hEE rfl _ rfl _ rfl HV.out.tail.tail.tail.tail.head ?_) | (refine ldL' hLL rfl _ rfl _ rfl HV.out.tail.tail.tail.head ?_) | (go_at_call 13; (with_reducible refine (D1.out _ HV.out.old).mono ?_); rintro r V ⟨rfl, hb⟩; replace HV := Lib.hid ((HV.out.grow hb).made (po o1 o2)); clear hb D1 m0 m1 p0 p1 f6 cL cP; have m1 : (V.alloc (.cells #[.int .i64 o1, .int .i64 o2] 31 (0, 0))).cell? ⟨W.heap.size, 1, none⟩ = some (.int .i64 (c + 1)) := (pfld HV.out.h2).2; have cP : (V.alloc (.cells #[.int .i64 o1, .int .i64 o2] 31 (0, 0))).cell? ⟨w.heap.size + 1, 11, none⟩ = some (.int .i64 l.patience) := pat HV.out.tail.tail.tail.tail.head) | fail)
              by_cases h8 : o1 = 8
              · have k8 : (o1 == 8) = true := by simp [h8]
                have k9 := HD.out h8
                clear h8
                go_wp2_with (first | go_big_skip | (refine ldp rfl _ rfl _ 7 (c + 1) rfl HV.out.tail.head ?_) | (refine stp rfl _ _ rfl rfl _ 7 c _ _ rfl rfl HV.out.tail.tail.tail.head ?_; intro w' hP hO; replace HV := Lib.hid (HV.out.tail.tail.tail.change hO hP HJ.out HS.out); clear hP hO) | fail)
                go_roundw
                case rel => exact ⟨k + 1, ⟨hlt, h100⟩, by go_num, 7, (c + 1), HI.out, HV.out⟩
                case measure => simp only [intOf, Int.toNat_natCast]; omega
              · have k8 : (o1 == 8) = false := by simp [h8]
                clear h8
                go_wp2_with (first | go_big_skip | (refine ldp rfl _ rfl _ 7 (c + 1) rfl HV.out.tail.head ?_) | (refine stp rfl _ _ rfl rfl _ 7 c _ _ rfl rfl HV.out.tail.tail.tail.head ?_; intro w' hP hO; replace HV := Lib.hid (HV.out.tail.tail.tail.change hO hP HJ.out HS.out); clear hP hO) | fail)
                go_roundw
                case rel => exact ⟨k + 1, ⟨hlt, h100⟩, by go_num, 7, (c + 1), HI.out, HV.out⟩
                case measure => simp only [intOf, Int.toNat_natCast]; omega
          · have w2 : (q1 == 2) = false := by simp; omega
            have w3 : (q1 == 3) = false := by simp; omega
            have w7 : (q1 == 7) = false := by simp; omega
            clear hD hw3
            go_upto_region 13 with (first | go_big_skip | fail)
            go_upto_region 14 with (first | (refine ldE' hEE rfl _ rfl _ rfl HV.out.tail.tail.tail.tail.head ?_) | (refine ldL' hLL rfl _ rfl _ rfl HV.out.tail.tail.tail.head ?_) | (go_at_call 13; (with_reducible refine (D1.out _ HV.out.old).mono ?_); rintro r V ⟨rfl, hb⟩; replace HV := Lib.hid ((HV.out.grow hb).made (po o1 o2)); clear hb D1 m0 m1 p0 p1 f6 cL cP; have m1 : (V.alloc (.cells #[.int .i64 o1, .int .i64 o2] 31 (0, 0))).cell? ⟨W.heap.size, 1, none⟩ = some (.int .i64 (c + 1)) := (pfld HV.out.h2).2; have cP : (V.alloc (.cells #[.int .i64 o1, .int .i64 o2] 31 (0, 0))).cell? ⟨w.heap.size + 1, 11, none⟩ = some (.int .i64 l.patience) := pat HV.out.tail.tail.tail.tail.head) | fail)
            go_wp2_with (first | go_big_skip | (refine ldp rfl _ rfl _ q1 (c + 1) rfl HV.out.tail.head ?_) | (refine stp rfl _ _ rfl rfl _ q1 c _ _ rfl rfl HV.out.tail.tail.tail.head ?_; intro w' hP hO; replace HV := Lib.hid (HV.out.tail.tail.tail.change hO hP HJ.out HS.out); clear hP hO) | fail)
            go_roundw
            case rel => exact ⟨k + 1, ⟨hlt, h100⟩, by go_num, q1, (c + 1), HI.out, HV.out⟩
            case measure => simp only [intOf, Int.toNat_natCast]; omega
        · have hq2 := hA.out hqm
          subst hq2
          have HI : Hid (Mm.exist q1 = true ∧ (0 : Int) ≤ 0 ∧ (0 : Int) ≤ ((k + 1 : Nat) : Int)) := ⟨HX.out, by omega, by omega⟩
          have HD : Hid (decide (l.patience < 0) = false) := by show _ = _; have := H3.out; simp; omega
          have kq : (q1 == m) = false := by simp [hqm]
          clear hA hB HX hD
          by_cases hm2 : m = 2
          · subst hm2
            by_cases h33 : q1 = 3
            · subst h33
              have kl : decide (f.n < e.light) = false := by have := hC.out rfl rfl; simp; omega
              clear hC hqm
              go_upto_region 13 with (first | go_big_skip | fail)
              go_upto_region 14 with (first | (refine ldE' hEE rfl _ rfl _ rfl HV.out.tail.tail.tail.tail.head ?_) | (refine ldL' hLL rfl _ rfl _ rfl HV.out.tail.tail.tail.head ?_) | (go_at_call 13; (with_reducible refine (D1.out _ HV.out.old).mono ?_); rintro r V ⟨rfl, hb⟩; replace HV := Lib.hid ((HV.out.grow hb).made (po o1 o2)); clear hb D1 m0 m1 p0 p1 f6 cL cP; have m1 : (V.alloc (.cells #[.int .i64 o1, .int .i64 o2] 31 (0, 0))).cell? ⟨W.heap.size, 1, none⟩ = some (.int .i64 0) := (pfld HV.out.h2).2; have cP : (V.alloc (.cells #[.int .i64 o1, .int .i64 o2] 31 (0, 0))).cell? ⟨w.heap.size + 1, 11, none⟩ = some (.int .i64 l.patience) := pat HV.out.tail.tail.tail.tail.head) | fail)
              by_cases h8 : o1 = 8
              · have k8 : (o1 == 8) = true := by simp [h8]
                have k9 := HD.out
                clear h8
                go_wp2_with (first | go_big_skip | (refine ldp rfl _ rfl _ 3 0 rfl HV.out.tail.head ?_) | (refine stp rfl _ _ rfl rfl _ 2 c _ _ rfl rfl HV.out.tail.tail.tail.head ?_; intro w' hP hO; replace HV := Lib.hid (HV.out.tail.tail.tail.change hO hP HJ.out HS.out); clear hP hO) | fail)
                go_roundw
                case rel => exact ⟨k + 1, ⟨hlt, h100⟩, by go_num, 3, 0, HI.out, HV.out⟩
                case measure => simp only [intOf, Int.toNat_natCast]; omega
              · have k8 : (o1 == 8) = false := by simp [h8]
                clear h8
                go_wp2_with (first | go_big_skip | (refine ldp rfl _ rfl _ 3 0 rfl HV.out.tail.head ?_) | (refine stp rfl _ _ rfl rfl _ 2 c _ _ rfl rfl HV.out.tail.tail.tail.head ?_; intro w' hP hO; replace HV := Lib.hid (HV.out.tail.tail.tail.change hO hP HJ.out HS.out); clear hP hO) | fail)
                go_roundw
                case rel => exact ⟨k + 1, ⟨hlt, h100⟩, by go_num, 3, 0, HI.out, HV.out⟩
                case measure => simp only [intOf, Int.toNat_natCast]; omega
            · clear hC
              have w2 : (q1 == 2) = false := kq
              have w3 : (q1 == 3) = false := by simp [h33]
              clear h33
              by_cases h77 : q1 = 7
              · subst h77
                clear hqm
                go_upto_region 13 with (first | go_big_skip | fail)
                go_upto_region 14 with (first | (refine ldE' hEE rfl _ rfl _ rfl HV.out.tail.tail.tail.tail.head ?_) | (refine ldL' hLL rfl _ rfl _ rfl HV.out.tail.tail.tail.head ?_) | (go_at_call 13; (with_reducible refine (D1.out _ HV.out.old).mono ?_); rintro r V ⟨rfl, hb⟩; replace HV := Lib.hid ((HV.out.grow hb).made (po o1 o2)); clear hb D1 m0 m1 p0 p1 f6 cL cP; have m1 : (V.alloc (.cells #[.int .i64 o1, .int .i64 o2] 31 (0, 0))).cell? ⟨W.heap.size, 1, none⟩ = some (.int .i64 0) := (pfld HV.out.h2).2; have cP : (V.alloc (.cells #[.int .i64 o1, .int .i64 o2] 31 (0, 0))).cell? ⟨w.heap.size + 1, 11, none⟩ = some (.int .i64 l.patience) := pat HV.out.tail.tail.tail.tail.head) | fail)
                by_cases h8 : o1 = 8
                · have k8 : (o1 == 8) = true := by simp [h8]
                  have k9 := HD.out
                  clear h8
                  go_wp2_with (first | go_big_skip | (refine ldp rfl _ rfl _ 7 0 rfl HV.out.tail.head ?_) | (refine stp rfl _ _ rfl rfl _ 2 c _ _ rfl rfl HV.out.tail.tail.tail.head ?_; intro w' hP hO; replace HV := Lib.hid (HV.out.tail.tail.tail.change hO hP HJ.out HS.out); clear hP hO) | fail)
                  go_roundw
                  case rel => exact ⟨k + 1, ⟨hlt, h100⟩, by go_num, 7, 0, HI.out, HV.out⟩
                  case measure => simp only [intOf, Int.toNat_natCast]; omega
                · have k8 : (o1 == 8) = false := by simp [h8]
                  clear h8
                  go_wp2_with (first | go_big_skip | (refine ldp rfl _ rfl _ 7 0 rfl HV.out.tail.head ?_) | (refine stp rfl _ _ rfl rfl _ 2 c _ _ rfl rfl HV.out.tail.tail.tail.head ?_; intro w' hP hO; replace HV := Lib.hid (HV.out.tail.tail.tail.change hO hP HJ.out HS.out); clear hP hO) | fail)
                  go_roundw
                  case rel => exact ⟨k + 1, ⟨hlt, h100⟩, by go_num, 7, 0, HI.out, HV.out⟩
                  case measure => simp only [intOf, Int.toNat_natCast]; omega
              · have w7 : (q1 == 7) = false := by simp [h77]
                clear h77
                go_upto_region 13 with (first | go_big_skip | fail)
                go_upto_region 14 with (first | (refine ldE' hEE rfl _ rfl _ rfl HV.out.tail.tail.tail.tail.head ?_) | (refine ldL' hLL rfl _ rfl _ rfl HV.out.tail.tail.tail.head ?_) | (go_at_call 13; (with_reducible refine (D1.out _ HV.out.old).mono ?_); rintro r V ⟨rfl, hb⟩; replace HV := Lib.hid ((HV.out.grow hb).made (po o1 o2)); clear hb D1 m0 m1 p0 p1 f6 cL cP; have m1 : (V.alloc (.cells #[.int .i64 o1, .int .i64 o2] 31 (0, 0))).cell? ⟨W.heap.size, 1, none⟩ = some (.int .i64 0) := (pfld HV.out.h2).2; have cP : (V.alloc (.cells #[.int .i64 o1, .int .i64 o2] 31 (0, 0))).cell? ⟨w.heap.size + 1, 11, none⟩ = some (.int .i64 l.patience) := pat HV.out.tail.tail.tail.tail.head) | fail)
                go_wp2_with (first | go_big_skip | (refine ldp rfl _ rfl _ q1 0 rfl HV.out.tail.head ?_) | (refine stp rfl _ _ rfl rfl _ 2 c _ _ rfl rfl HV.out.tail.tail.tail.head ?_; intro w' hP hO; replace HV := Lib.hid (HV.out.tail.tail.tail.change hO hP HJ.out HS.out); clear hP hO) | fail)
                go_roundw
                case rel => exact ⟨k + 1, ⟨hlt, h100⟩, by go_num, q1, 0, HI.out, HV.out⟩
                case measure => simp only [intOf, Int.toNat_natCast]; omega
          · have km : (m == 2) = false := by simp [hm2]
            clear hC hm2
            by_cases hw3 : q1 = 2 ∨ q1 = 3 ∨ q1 = 7
            · rcases hw3 with rfl | rfl | rfl
              · skip
                go_upto_region 13 with (first | go_big_skip | fail)
                go_upto_region 14 with (first | (refine ldE' hEE rfl _ rfl _ rfl HV.out.tail.tail.tail.tail.head ?_) | (refine ldL' hLL rfl _ rfl _ rfl HV.out.tail.tail.tail.head ?_) | (go_at_call 13; (with_reducible refine (D1.out _ HV.out.old).mono ?_); rintro r V ⟨rfl, hb⟩; replace HV := Lib.hid ((HV.out.grow hb).made (po o1 o2)); clear hb D1 m0 m1 p0 p1 f6 cL cP; have m1 : (V.alloc (.cells #[.int .i64 o1, .int .i64 o2] 31 (0, 0))).cell? ⟨W.heap.size, 1, none⟩ = some (.int .i64 0) := (pfld HV.out.h2).2; have cP : (V.alloc (.cells #[.int .i64 o1, .int .i64 o2] 31 (0, 0))).cell? ⟨w.heap.size + 1, 11, none⟩ = some (.int .i64 l.patience) := pat HV.out.tail.tail.tail.tail.head) | fail)
                by_cases h8 : o1 = 8
                · have k8 : (o1 == 8) = true := by simp [h8]
                  have k9 := HD.out
                  clear h8
                  go_wp2_with (first | go_big_skip | (refine ldp rfl _ rfl _ 2 0 rfl HV.out.tail.head ?_) | (refine stp rfl _ _ rfl rfl _ m c _ _ rfl rfl HV.out.tail.tail.tail.head ?_; intro w' hP hO; replace HV := Lib.hid (HV.out.tail.tail.tail.change hO hP HJ.out HS.out); clear hP hO) | fail)
                  go_roundw
                  case rel => exact ⟨k + 1, ⟨hlt, h100⟩, by go_num, 2, 0, HI.out, HV.out⟩
                  case measure => simp only [intOf, Int.toNat_natCast]; omega
                · have k8 : (o1 == 8) = false := by simp [h8]
                  clear h8
                  go_wp2_with (first | go_big_skip | (refine ldp rfl _ rfl _ 2 0 rfl HV.out.tail.head ?_) | (refine stp rfl _ _ rfl rfl _ m c _ _ rfl rfl HV.out.tail.tail.tail.head ?_; intro w' hP hO; replace HV := Lib.hid (HV.out.tail.tail.tail.change hO hP HJ.out HS.out); clear hP hO) | fail)
                  go_roundw
                  case rel => exact ⟨k + 1, ⟨hlt, h100⟩, by go_num, 2, 0, HI.out, HV.out⟩
                  case measure => simp only [intOf, Int.toNat_natCast]; omega
              · skip
                go_upto_region 13 with (first | go_big_skip | fail)
                go_upto_region 14 with (first | (refine ldE' hEE rfl _ rfl _ rfl HV.out.tail.tail.tail.tail.head ?_) | (refine ldL' hLL rfl _ rfl _ rfl HV.out.tail.tail.tail.head ?_) | (go_at_call 13; (with_reducible refine (D1.out _ HV.out.old).mono ?_); rintro r V ⟨rfl, hb⟩; replace HV := Lib.hid ((HV.out.grow hb).made (po o1 o2)); clear hb D1 m0 m1 p0 p1 f6 cL cP; have m1 : (V.alloc (.cells #[.int .i64 o1, .int .i64 o2] 31 (0, 0))).cell? ⟨W.heap.size, 1, none⟩ = some (.int .i64 0) := (pfld HV.out.h2).2; have cP : (V.alloc (.cells #[.int .i64 o1, .int .i64 o2] 31 (0, 0))).cell? ⟨w.heap.size + 1, 11, none⟩ = some (.int .i64 l.patience) := pat HV.out.tail.tail.tail.tail.head) | fail)
                by_cases h8 : o1 = 8
                · have k8 : (o1 == 8) = true := by simp [h8]
                  have k9 := HD.out
                  clear h8
                  go_wp2_with (first | go_big_skip | (refine ldp rfl _ rfl _ 3 0 rfl HV.out.tail.head ?_) | (refine stp rfl _ _ rfl rfl _ m c _ _ rfl rfl HV.out.tail.tail.tail.head ?_; intro w' hP hO; replace HV := Lib.hid (HV.out.tail.tail.tail.change hO hP HJ.out HS.out); clear hP hO) | fail)
                  go_roundw
                  case rel => exact ⟨k + 1, ⟨hlt, h100⟩, by go_num, 3, 0, HI.out, HV.out⟩
                  case measure => simp only [intOf, Int.toNat_natCast]; omega
                · have k8 : (o1 == 8) = false := by simp [h8]
                  clear h8
                  go_wp2_with (first | go_big_skip | (refine ldp rfl _ rfl _ 3 0 rfl HV.out.tail.head ?_) | (refine stp rfl _ _ rfl rfl _ m c _ _ rfl rfl HV.out.tail.tail.tail.head ?_; intro w' hP hO; replace HV := Lib.hid (HV.out.tail.tail.tail.change hO hP HJ.out HS.out); clear hP hO) | fail)
                  go_roundw
                  case rel => exact ⟨k + 1, ⟨hlt, h100⟩, by go_num, 3, 0, HI.out, HV.out⟩
                  case measure => simp only [intOf, Int.toNat_natCast]; omega
              · skip
                go_upto_region 13 with (first | go_big_skip | fail)
                go_upto_region 14 with (first | (refine ldE' hEE rfl _ rfl _ rfl HV.out.tail.tail.tail.tail.head ?_) | (refine ldL' hLL rfl _ rfl _ rfl HV.out.tail.tail.tail.head ?_) | (go_at_call 13; (with_reducible refine (D1.out _ HV.out.old).mono ?_); rintro r V ⟨rfl, hb⟩; replace HV := Lib.hid ((HV.out.grow hb).made (po o1 o2)); clear hb D1 m0 m1 p0 p1 f6 cL cP; have m1 : (V.alloc (.cells #[.int .i64 o1, .int .i64 o2] 31 (0, 0))).cell? ⟨W.heap.size, 1, none⟩ = some (.int .i64 0) := (pfld HV.out.h2).2; have cP : (V.alloc (.cells #[.int .i64 o1, .int .i64 o2] 31 (0, 0))).cell? ⟨w.heap.size + 1, 11, none⟩ = some (.int .i64 l.patience) := pat HV.out.tail.tail.tail.tail.head) | fail)
                by_cases h8 : o1 = 8
                · have k8 : (o1 == 8) = true := by simp [h8]
                  have k9 := HD.out
                  clear h8
                  go_wp2_with (first | go_big_skip | (refine ldp rfl _ rfl _ 7 0 rfl HV.out.tail.head ?_) | (refine stp rfl _ _ rfl rfl _ m c _ _ rfl rfl HV.out.tail.tail.tail.head ?_; intro w' hP hO; replace HV := Lib.hid (HV.out.tail.tail.tail.change hO hP HJ.out HS.out); clear hP hO) | fail)
                  go_roundw
                  case rel => exact ⟨k + 1, ⟨hlt, h100⟩, by go_num, 7, 0, HI.out, HV.out⟩
                  case measure => simp only [intOf, Int.toNat_natCast]; omega
                · have k8 : (o1 == 8) = false := by simp [h8]
                  clear h8
                  go_wp2_with (first | go_big_skip | (refine ldp rfl _ rfl _ 7 0 rfl HV.out.tail.head ?_) | (refine stp rfl _ _ rfl rfl _ m c _ _ rfl rfl HV.out.tail.tail.tail.head ?_; intro w' hP hO; replace HV := Lib.hid (HV.out.tail.tail.tail.change hO hP HJ.out HS.out); clear hP hO) | fail)
                  go_roundw
                  case rel => exact ⟨k + 1, ⟨hlt, h100⟩, by go_num, 7, 0, HI.out, HV.out⟩
                  case measure => simp only [intOf, Int.toNat_natCast]; omega
            · have w2 : (q1 == 2) = false := by simp; omega
              have w3 : (q1 == 3) = false := by simp; omega
              have w7 : (q1 == 7) = false := by simp; omega
              clear hw3
              go_upto_region 13 with (first | go_big_skip | fail)
              go_upto_region 14 with (first | (refine ldE' hEE rfl _ rfl _ rfl HV.out.tail.tail.tail.tail.head ?_) | (refine ldL' hLL rfl _ rfl _ rfl HV.out.tail.tail.tail.head ?_) | (go_at_call 13; (with_reducible refine (D1.out _ HV.out.old).mono ?_); rintro r V ⟨rfl, hb⟩; replace HV := Lib.hid ((HV.out.grow hb).made (po o1 o2)); clear hb D1 m0 m1 p0 p1 f6 cL cP; have m1 : (V.alloc (.cells #[.int .i64 o1, .int .i64 o2] 31 (0, 0))).cell? ⟨W.heap.size, 1, none⟩ = some (.int .i64 0) := (pfld HV.out.h2).2; have cP : (V.alloc (.cells #[.int .i64 o1, .int .i64 o2] 31 (0, 0))).cell? ⟨w.heap.size + 1, 11, none⟩ = some (.int .i64 l.patience) := pat HV.out.tail.tail.tail.tail.head) | fail)
              go_wp2_with (first | go_big_skip | (refine ldp rfl _ rfl _ q1 0 rfl HV.out.tail.head ?_) | (refine stp rfl _ _ rfl rfl _ m c _ _ rfl rfl HV.out.tail.tail.tail.head ?_; intro w' hP hO; replace HV := Lib.hid (HV.out.tail.tail.tail.change hO hP HJ.out HS.out); clear hP hO) | fail)
              go_roundw
              case rel => exact ⟨k + 1, ⟨hlt, h100⟩, by go_num, q1, 0, HI.out, HV.out⟩
              case measure => simp only [intOf, Int.toNat_natCast]; omega
      · have h3 : ¬ (k : Int) < 200 := by omega
        clear NX RX HA HN HW
        go_wp2_with (first | go_big_skip | fail)
        go_ret
        exact ⟨rfl, HV.out.old⟩
    · obtain rfl : k = n := by omega
      clear NX RX HA HN HW
      go_wp2_with (first | go_big_skip | fail)
      go_ret
      exact ⟨rfl, HV.out.old⟩

theorem ModeWaits_walk (e : Eg) (l : Lg) (A : Option Addr) (T : List Fr) (cap : Nat) (t : TypeId) (w : World) (hE : EngIn w e) (hL : LawIn w l) (hR : w.heap[0]? = some (.cells rc t (0, 0))) (hA : Frs w A T) : Calls Tryd.prog 7 #[.agg (ec e), .agg (lc l), .slice A T.length cap] w fun r w' => r = .returned (.bool true) ∧ Below w.heap.size w w' := by
  cases h1 : fewL l with
  | false => exact ModeWaits_few1 e l A T.length cap t w hR h1
  | true =>
    cases h2 : fewE e with
    | false => exact ModeWaits_few2 e l A T.length cap t w hR h1 h2
    | true =>
      by_cases h3 : l.patience < 1
      · exact Waits_pat1 e l A T.length cap t w hR h1 h2 h3
      · by_cases h4 : 10000 < l.patience
        · exact Waits_pat2 e l A T.length cap t w hR h1 h2 h3 h4
        · exact Waits_go e l A T T.length cap rfl t w hE hL hR hA h1 h2 h3 h4
end Mw
end Go.Proofs.YtodilljomjhohaaDoor
