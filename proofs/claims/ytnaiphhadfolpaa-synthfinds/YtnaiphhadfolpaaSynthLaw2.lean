/- The walks of SynthRises, SynthCaps and SynthFinds: engines of too many points, and those that may not be. -/
import Derived.Test.YtnaiphhadfolpaaSynthLaw1
import Derived.Test.YtnaiphhadfolpaaLimKit
import Derived.Lib.MinMax
namespace Go.Proofs.Ytnaiphhadfolpaa
namespace Ew
open Go.RowKit TabC Lk


set_option maxRecDepth 100000 in
set_option maxHeartbeats 4000000 in
theorem SynthRises_few (e : Eg) (f m : Int) (w : World) (h : fewE e = false) : Calls Try.prog 5 #[.agg (ec e), .int .i64 f, .int .u16 m] w fun r w' => r = .returned (.bool true) ∧ Below w.heap.size w w' := by
  have HV := Lib.hid (one_e w e)
  have C1 := Lib.hid (few_v h)
  clear h
  obtain ⟨c0, c1, c2, c3, c4, c5, c6, c7, c8, c9, c10, c11, c12, c13, c14, c15⟩ := efld HV.out.head
  go_enter Try.func5, Try.ntmps5
  go_wp2_with (first | (refine lde rfl _ rfl _ _ rfl HV.out.head ?_) | (go_at_call 8; (with_reducible refine (awake_c _).mono ?_); rintro r W ⟨rfl, hb⟩; replace HV := Lib.hid (HV.out.grow hb); clear hb c0 c1 c2 c3 c4 c5 c6 c7 c8 c9 c10 c11 c12 c13 c14 c15; obtain ⟨c0, c1, c2, c3, c4, c5, c6, c7, c8, c9, c10, c11, c12, c13, c14, c15⟩ := efld HV.out.head) | (go_at_call 9; (with_reducible refine (C1.out _).mono ?_); rintro r W ⟨rfl, hb⟩; replace HV := Lib.hid (HV.out.grow hb); clear hb c0 c1 c2 c3 c4 c5 c6 c7 c8 c9 c10 c11 c12 c13 c14 c15; obtain ⟨c0, c1, c2, c3, c4, c5, c6, c7, c8, c9, c10, c11, c12, c13, c14, c15⟩ := efld HV.out.head) | fail)
  go_ret
  exact ⟨rfl, HV.out.old⟩

set_option maxRecDepth 100000 in
set_option maxHeartbeats 4000000 in
theorem SynthRises_no (e : Eg) (f m : Int) (w : World) (hE : EngIn w e) (h : fewE e = true) (hk : Em.okB (en e) = false) : Calls Try.prog 5 #[.agg (ec e), .int .i64 f, .int .u16 m] w fun r w' => r = .returned (.bool true) ∧ Below w.heap.size w w' := by
  have HV := Lib.hid (one_e w e)
  have C1 := Lib.hid (few_v h)
  have C2 := Lib.hid (fun W (hW : Below w.heap.size w W) => check_no e W (hE.below hW) hk)
  clear hE hk
  clear h
  obtain ⟨c0, c1, c2, c3, c4, c5, c6, c7, c8, c9, c10, c11, c12, c13, c14, c15⟩ := efld HV.out.head
  go_enter Try.func5, Try.ntmps5
  go_wp2_with (first | (refine lde rfl _ rfl _ _ rfl HV.out.head ?_) | (go_at_call 8; (with_reducible refine (awake_c _).mono ?_); rintro r W ⟨rfl, hb⟩; replace HV := Lib.hid (HV.out.grow hb); clear hb c0 c1 c2 c3 c4 c5 c6 c7 c8 c9 c10 c11 c12 c13 c14 c15; obtain ⟨c0, c1, c2, c3, c4, c5, c6, c7, c8, c9, c10, c11, c12, c13, c14, c15⟩ := efld HV.out.head) | (go_at_call 9; (with_reducible refine (C1.out _).mono ?_); rintro r W ⟨rfl, hb⟩; replace HV := Lib.hid (HV.out.grow hb); clear hb c0 c1 c2 c3 c4 c5 c6 c7 c8 c9 c10 c11 c12 c13 c14 c15; obtain ⟨c0, c1, c2, c3, c4, c5, c6, c7, c8, c9, c10, c11, c12, c13, c14, c15⟩ := efld HV.out.head) | (go_at_call 12; (with_reducible refine (C2.out _ HV.out.old).mono ?_); rintro r W ⟨rfl, hb⟩; replace HV := Lib.hid (HV.out.grow hb); clear hb c0 c1 c2 c3 c4 c5 c6 c7 c8 c9 c10 c11 c12 c13 c14 c15; obtain ⟨c0, c1, c2, c3, c4, c5, c6, c7, c8, c9, c10, c11, c12, c13, c14, c15⟩ := efld HV.out.head) | fail)
  go_ret
  exact ⟨rfl, HV.out.old⟩

set_option maxRecDepth 100000 in
set_option maxHeartbeats 4000000 in
theorem SynthCaps_few (e : Eg) (m : Int) (w : World) (h : fewE e = false) : Calls Try.prog 7 #[.agg (ec e), .int .u16 m] w fun r w' => r = .returned (.bool true) ∧ Below w.heap.size w w' := by
  have HV := Lib.hid (one_e w e)
  have C1 := Lib.hid (few_v h)
  clear h
  obtain ⟨c0, c1, c2, c3, c4, c5, c6, c7, c8, c9, c10, c11, c12, c13, c14, c15⟩ := efld HV.out.head
  go_enter Try.func7, Try.ntmps7
  go_wp2_with (first | (refine lde rfl _ rfl _ _ rfl HV.out.head ?_) | (go_at_call 8; (with_reducible refine (awake_c _).mono ?_); rintro r W ⟨rfl, hb⟩; replace HV := Lib.hid (HV.out.grow hb); clear hb c0 c1 c2 c3 c4 c5 c6 c7 c8 c9 c10 c11 c12 c13 c14 c15; obtain ⟨c0, c1, c2, c3, c4, c5, c6, c7, c8, c9, c10, c11, c12, c13, c14, c15⟩ := efld HV.out.head) | (go_at_call 9; (with_reducible refine (C1.out _).mono ?_); rintro r W ⟨rfl, hb⟩; replace HV := Lib.hid (HV.out.grow hb); clear hb c0 c1 c2 c3 c4 c5 c6 c7 c8 c9 c10 c11 c12 c13 c14 c15; obtain ⟨c0, c1, c2, c3, c4, c5, c6, c7, c8, c9, c10, c11, c12, c13, c14, c15⟩ := efld HV.out.head) | fail)
  go_ret
  exact ⟨rfl, HV.out.old⟩

set_option maxRecDepth 100000 in
set_option maxHeartbeats 4000000 in
theorem SynthCaps_no (e : Eg) (m : Int) (w : World) (hE : EngIn w e) (h : fewE e = true) (hk : Em.okB (en e) = false) : Calls Try.prog 7 #[.agg (ec e), .int .u16 m] w fun r w' => r = .returned (.bool true) ∧ Below w.heap.size w w' := by
  have HV := Lib.hid (one_e w e)
  have C1 := Lib.hid (few_v h)
  have C2 := Lib.hid (fun W (hW : Below w.heap.size w W) => check_no e W (hE.below hW) hk)
  clear hE hk
  clear h
  obtain ⟨c0, c1, c2, c3, c4, c5, c6, c7, c8, c9, c10, c11, c12, c13, c14, c15⟩ := efld HV.out.head
  go_enter Try.func7, Try.ntmps7
  go_wp2_with (first | (refine lde rfl _ rfl _ _ rfl HV.out.head ?_) | (go_at_call 8; (with_reducible refine (awake_c _).mono ?_); rintro r W ⟨rfl, hb⟩; replace HV := Lib.hid (HV.out.grow hb); clear hb c0 c1 c2 c3 c4 c5 c6 c7 c8 c9 c10 c11 c12 c13 c14 c15; obtain ⟨c0, c1, c2, c3, c4, c5, c6, c7, c8, c9, c10, c11, c12, c13, c14, c15⟩ := efld HV.out.head) | (go_at_call 9; (with_reducible refine (C1.out _).mono ?_); rintro r W ⟨rfl, hb⟩; replace HV := Lib.hid (HV.out.grow hb); clear hb c0 c1 c2 c3 c4 c5 c6 c7 c8 c9 c10 c11 c12 c13 c14 c15; obtain ⟨c0, c1, c2, c3, c4, c5, c6, c7, c8, c9, c10, c11, c12, c13, c14, c15⟩ := efld HV.out.head) | (go_at_call 12; (with_reducible refine (C2.out _ HV.out.old).mono ?_); rintro r W ⟨rfl, hb⟩; replace HV := Lib.hid (HV.out.grow hb); clear hb c0 c1 c2 c3 c4 c5 c6 c7 c8 c9 c10 c11 c12 c13 c14 c15; obtain ⟨c0, c1, c2, c3, c4, c5, c6, c7, c8, c9, c10, c11, c12, c13, c14, c15⟩ := efld HV.out.head) | fail)
  go_ret
  exact ⟨rfl, HV.out.old⟩

set_option maxRecDepth 100000 in
set_option maxHeartbeats 4000000 in
theorem SynthFinds_few (e : Eg) (m : Int) (w : World) (h : fewE e = false) : Calls Try.prog 6 #[.agg (ec e), .int .u32 m] w fun r w' => r = .returned (.bool true) ∧ Below w.heap.size w w' := by
  have HV := Lib.hid (one_e w e)
  have C1 := Lib.hid (few_v h)
  clear h
  obtain ⟨c0, c1, c2, c3, c4, c5, c6, c7, c8, c9, c10, c11, c12, c13, c14, c15⟩ := efld HV.out.head
  go_enter Try.func6, Try.ntmps6
  go_wp2_with (first | (refine lde rfl _ rfl _ _ rfl HV.out.head ?_) | (go_at_call 8; (with_reducible refine (awake_c _).mono ?_); rintro r W ⟨rfl, hb⟩; replace HV := Lib.hid (HV.out.grow hb); clear hb c0 c1 c2 c3 c4 c5 c6 c7 c8 c9 c10 c11 c12 c13 c14 c15; obtain ⟨c0, c1, c2, c3, c4, c5, c6, c7, c8, c9, c10, c11, c12, c13, c14, c15⟩ := efld HV.out.head) | (go_at_call 9; (with_reducible refine (C1.out _).mono ?_); rintro r W ⟨rfl, hb⟩; replace HV := Lib.hid (HV.out.grow hb); clear hb c0 c1 c2 c3 c4 c5 c6 c7 c8 c9 c10 c11 c12 c13 c14 c15; obtain ⟨c0, c1, c2, c3, c4, c5, c6, c7, c8, c9, c10, c11, c12, c13, c14, c15⟩ := efld HV.out.head) | fail)
  go_ret
  exact ⟨rfl, HV.out.old⟩

set_option maxRecDepth 100000 in
set_option maxHeartbeats 4000000 in
theorem SynthFinds_no (e : Eg) (m : Int) (w : World) (hE : EngIn w e) (h : fewE e = true) (hk : Em.okB (en e) = false) : Calls Try.prog 6 #[.agg (ec e), .int .u32 m] w fun r w' => r = .returned (.bool true) ∧ Below w.heap.size w w' := by
  have HV := Lib.hid (one_e w e)
  have C1 := Lib.hid (few_v h)
  have C2 := Lib.hid (fun W (hW : Below w.heap.size w W) => check_no e W (hE.below hW) hk)
  clear hE hk
  clear h
  obtain ⟨c0, c1, c2, c3, c4, c5, c6, c7, c8, c9, c10, c11, c12, c13, c14, c15⟩ := efld HV.out.head
  go_enter Try.func6, Try.ntmps6
  go_wp2_with (first | (refine lde rfl _ rfl _ _ rfl HV.out.head ?_) | (go_at_call 8; (with_reducible refine (awake_c _).mono ?_); rintro r W ⟨rfl, hb⟩; replace HV := Lib.hid (HV.out.grow hb); clear hb c0 c1 c2 c3 c4 c5 c6 c7 c8 c9 c10 c11 c12 c13 c14 c15; obtain ⟨c0, c1, c2, c3, c4, c5, c6, c7, c8, c9, c10, c11, c12, c13, c14, c15⟩ := efld HV.out.head) | (go_at_call 9; (with_reducible refine (C1.out _).mono ?_); rintro r W ⟨rfl, hb⟩; replace HV := Lib.hid (HV.out.grow hb); clear hb c0 c1 c2 c3 c4 c5 c6 c7 c8 c9 c10 c11 c12 c13 c14 c15; obtain ⟨c0, c1, c2, c3, c4, c5, c6, c7, c8, c9, c10, c11, c12, c13, c14, c15⟩ := efld HV.out.head) | (go_at_call 12; (with_reducible refine (C2.out _ HV.out.old).mono ?_); rintro r W ⟨rfl, hb⟩; replace HV := Lib.hid (HV.out.grow hb); clear hb c0 c1 c2 c3 c4 c5 c6 c7 c8 c9 c10 c11 c12 c13 c14 c15; obtain ⟨c0, c1, c2, c3, c4, c5, c6, c7, c8, c9, c10, c11, c12, c13, c14, c15⟩ := efld HV.out.head) | fail)
  go_ret
  exact ⟨rfl, HV.out.old⟩

set_option maxRecDepth 100000 in
set_option maxHeartbeats 4000000 in
theorem SynthRises_much (e : Eg) (f m : Int) (w : World) (hE : EngIn w e) (h : fewE e = true) (hk : Em.okB (en e) = true) (hf : 1099511627776 < f) : Calls Try.prog 5 #[.agg (ec e), .int .i64 f, .int .u16 m] w fun r w' => r = .returned (.bool true) ∧ Below w.heap.size w w' := by
  have HV := Lib.hid (one_e w e)
  have C1 := Lib.hid (few_v h)
  have C2 := Lib.hid (fun W (hW : Below w.heap.size w W) => check_ok e W (hE.below hW) hk)
  have d1 : decide (1099511627776 < f) = true := decide_eq_true hf
  clear hE hk h hf
  obtain ⟨c0, c1, c2, c3, c4, c5, c6, c7, c8, c9, c10, c11, c12, c13, c14, c15⟩ := efld HV.out.head
  go_enter Try.func5, Try.ntmps5
  go_wp2_with (first | (refine lde rfl _ rfl _ _ rfl HV.out.head ?_) | (go_at_call 8; (with_reducible refine (awake_c _).mono ?_); rintro r W ⟨rfl, hb⟩; replace HV := Lib.hid (HV.out.grow hb); clear hb c0 c1 c2 c3 c4 c5 c6 c7 c8 c9 c10 c11 c12 c13 c14 c15; obtain ⟨c0, c1, c2, c3, c4, c5, c6, c7, c8, c9, c10, c11, c12, c13, c14, c15⟩ := efld HV.out.head) | (go_at_call 9; (with_reducible refine (C1.out _).mono ?_); rintro r W ⟨rfl, hb⟩; replace HV := Lib.hid (HV.out.grow hb); clear hb c0 c1 c2 c3 c4 c5 c6 c7 c8 c9 c10 c11 c12 c13 c14 c15; obtain ⟨c0, c1, c2, c3, c4, c5, c6, c7, c8, c9, c10, c11, c12, c13, c14, c15⟩ := efld HV.out.head) | (go_at_call 12; (with_reducible refine (C2.out _ HV.out.old).mono ?_); rintro r W ⟨rfl, hb⟩; replace HV := Lib.hid (HV.out.grow hb); clear hb c0 c1 c2 c3 c4 c5 c6 c7 c8 c9 c10 c11 c12 c13 c14 c15; obtain ⟨c0, c1, c2, c3, c4, c5, c6, c7, c8, c9, c10, c11, c12, c13, c14, c15⟩ := efld HV.out.head) | fail)
  go_ret
  exact ⟨rfl, HV.out.old⟩

theorem rest_v {e : Eg} (hk : Em.okB (en e) = true) {w : World} (hE : EngIn w e) {f a b c : Int} (h2 : Em.n2 (en e) f = a) (h1 : Em.n1 (en e) f = b) (h3 : Em.ht (en e) f = c) {W : World} (hW : Below w.heap.size w W) : Calls Try.prog 10 #[.agg (ec e), .int .i64 f] W fun r w' => r = .returned (.tuple #[.int .i64 a, .int .i64 b, .int .i64 c]) ∧ Below W.heap.size W w' := by
  have := rest_ok e f W (hE.below hW) hk
  rwa [h2, h1, h3] at this
theorem peak_v {t : Tv} (hk : Tb.Ok t.xs t.ys) {w : World} (hT : TabIn w t.A t.B t.xs t.ys) {a : Int} (h : Tb.mx t.ys = a) {W : World} (hW : Below w.heap.size w W) : Calls Try.prog 16 #[.agg #[.slice t.A t.xs.length t.ca, .slice t.B t.ys.length t.cb]] W fun r w' => r = .returned (.int .i64 a) ∧ Below W.heap.size W w' := by
  have := peak_c t.A t.B t.ca t.cb t.xs t.ys W (hT.below hW)
  rwa [show Tb.pk t.xs t.ys = a from by simp [Tb.pk, (Tb.ok_iff _ _).2 hk, h]] at this

set_option maxRecDepth 100000 in
set_option maxHeartbeats 4000000 in
theorem SynthRises_go (e : Eg) (f m : Int) (w : World) (hE : EngIn w e) (h : fewE e = true) (hk : Em.okB (en e) = true) (hf : ¬ 1099511627776 < f) (hl : -9223372036854775808 ≤ f) (h0 : 0 ≤ m) (h1 : m ≤ 65535) : Calls Try.prog 5 #[.agg (ec e), .int .i64 f, .int .u16 m] w fun r w' => r = .returned (.bool true) ∧ Below w.heap.size w w' := by
  have HV := Lib.hid (one_e w e)
  have K := Em.ok_of hk
  obtain ⟨a, ha⟩ : ∃ a, Em.n2 (en e) f = a := ⟨_, rfl⟩
  obtain ⟨b, hb⟩ : ∃ a, Em.n1 (en e) f = a := ⟨_, rfl⟩
  obtain ⟨c, hc⟩ : ∃ a, Em.ht (en e) f = a := ⟨_, rfl⟩
  obtain ⟨x, hx⟩ : ∃ a, Em.n2 (en e) (f + m) = a := ⟨_, rfl⟩
  obtain ⟨y, hy⟩ : ∃ a, Em.n1 (en e) (f + m) = a := ⟨_, rfl⟩
  obtain ⟨z, hz⟩ : ∃ a, Em.ht (en e) (f + m) = a := ⟨_, rfl⟩
  obtain ⟨p2, q2⟩ : ∃ a, Tb.mx e.p.ys = a := ⟨_, rfl⟩
  obtain ⟨p1, q1⟩ : ∃ a, Tb.mx e.q.ys = a := ⟨_, rfl⟩
  obtain ⟨p3, q3⟩ : ∃ a, Tb.mx e.h.ys = a := ⟨_, rfl⟩
  have d1 : decide (1099511627776 < f) = false := decide_eq_false hf
  have d2 : decide (a ≤ x) = true := decide_eq_true (by rw [← ha, ← hx]; exact Em.n2_mono K (by omega))
  have d3 : decide (b ≤ y) = true := decide_eq_true (by rw [← hb, ← hy]; exact Em.n1_mono K (by omega))
  have d4 : decide (c ≤ z) = true := decide_eq_true (by rw [← hc, ← hz]; exact Em.ht_mono K (by omega))
  have d5 : decide (x ≤ p2) = true := decide_eq_true (by rw [← hx, ← q2]; exact Em.n2_pk K _)
  have d6 : decide (y ≤ p1) = true := decide_eq_true (by rw [← hy, ← q1]; exact Em.n1_pk K _)
  have d7 : decide (z ≤ p3) = true := decide_eq_true (by rw [← hz, ← q3]; exact Em.ht_pk K _)
  have d8 : decide (0 ≤ a) = true := decide_eq_true (by rw [← ha]; exact (Em.n2_bd K _).1)
  have w1 : IntKind.i64.wrap m = m := IntWalk.i64_in _ (by omega)
  have w2 : IntKind.i64.wrap (f + m) = f + m := IntWalk.i64_in _ (by omega)
  have C1 := Lib.hid (few_v h)
  have C2 := Lib.hid (fun W (hW : Below w.heap.size w W) => check_ok e W (hE.below hW) hk)
  have C3 := Lib.hid (fun W (hW : Below w.heap.size w W) => rest_v hk hE ha hb hc hW)
  have C4 := Lib.hid (fun W (hW : Below w.heap.size w W) => rest_v hk hE hx hy hz hW)
  have P2 := Lib.hid (fun W (hW : Below w.heap.size w W) => peak_v (t := e.p) K.p.ok hE.p q2 hW)
  have P1 := Lib.hid (fun W (hW : Below w.heap.size w W) => peak_v (t := e.q) K.q.ok hE.q q1 hW)
  have P3 := Lib.hid (fun W (hW : Below w.heap.size w W) => peak_v (t := e.h) K.h.ok hE.h q3 hW)
  clear hE hk h hf hl h0 h1 K ha hb hc hx hy hz q1 q2 q3
  obtain ⟨c0, c1, c2, c3, c4, c5, c6, c7, c8, c9, c10, c11, c12, c13, c14, c15⟩ := efld HV.out.head
  go_enter Try.func5, Try.ntmps5
  go_wp2_with (first | (refine lde rfl _ rfl _ _ rfl HV.out.head ?_) | (go_at_call 8; (with_reducible refine (awake_c _).mono ?_); rintro r W ⟨rfl, hb⟩; replace HV := Lib.hid (HV.out.grow hb); clear hb c0 c1 c2 c3 c4 c5 c6 c7 c8 c9 c10 c11 c12 c13 c14 c15; obtain ⟨c0, c1, c2, c3, c4, c5, c6, c7, c8, c9, c10, c11, c12, c13, c14, c15⟩ := efld HV.out.head) | (go_at_call 9; (with_reducible refine (C1.out _).mono ?_); rintro r W ⟨rfl, hb⟩; replace HV := Lib.hid (HV.out.grow hb); clear hb c0 c1 c2 c3 c4 c5 c6 c7 c8 c9 c10 c11 c12 c13 c14 c15; obtain ⟨c0, c1, c2, c3, c4, c5, c6, c7, c8, c9, c10, c11, c12, c13, c14, c15⟩ := efld HV.out.head) | (go_at_call 12; (with_reducible refine (C2.out _ HV.out.old).mono ?_); rintro r W ⟨rfl, hb⟩; replace HV := Lib.hid (HV.out.grow hb); clear hb c0 c1 c2 c3 c4 c5 c6 c7 c8 c9 c10 c11 c12 c13 c14 c15; obtain ⟨c0, c1, c2, c3, c4, c5, c6, c7, c8, c9, c10, c11, c12, c13, c14, c15⟩ := efld HV.out.head) | (go_at_call 10; (with_reducible refine (C3.out _ HV.out.old).mono ?_); rintro r W ⟨rfl, hb⟩; replace HV := Lib.hid (HV.out.grow hb); clear hb c0 c1 c2 c3 c4 c5 c6 c7 c8 c9 c10 c11 c12 c13 c14 c15; obtain ⟨c0, c1, c2, c3, c4, c5, c6, c7, c8, c9, c10, c11, c12, c13, c14, c15⟩ := efld HV.out.head) | (go_at_call 10; (with_reducible refine (C4.out _ HV.out.old).mono ?_); rintro r W ⟨rfl, hb⟩; replace HV := Lib.hid (HV.out.grow hb); clear hb c0 c1 c2 c3 c4 c5 c6 c7 c8 c9 c10 c11 c12 c13 c14 c15; obtain ⟨c0, c1, c2, c3, c4, c5, c6, c7, c8, c9, c10, c11, c12, c13, c14, c15⟩ := efld HV.out.head) | (go_at_call 16; (with_reducible refine (P2.out _ HV.out.old).mono ?_); rintro r W ⟨rfl, hb⟩; replace HV := Lib.hid (HV.out.grow hb); clear hb c0 c1 c2 c3 c4 c5 c6 c7 c8 c9 c10 c11 c12 c13 c14 c15; obtain ⟨c0, c1, c2, c3, c4, c5, c6, c7, c8, c9, c10, c11, c12, c13, c14, c15⟩ := efld HV.out.head) | (go_at_call 16; (with_reducible refine (P1.out _ HV.out.old).mono ?_); rintro r W ⟨rfl, hb⟩; replace HV := Lib.hid (HV.out.grow hb); clear hb c0 c1 c2 c3 c4 c5 c6 c7 c8 c9 c10 c11 c12 c13 c14 c15; obtain ⟨c0, c1, c2, c3, c4, c5, c6, c7, c8, c9, c10, c11, c12, c13, c14, c15⟩ := efld HV.out.head) | (go_at_call 16; (with_reducible refine (P3.out _ HV.out.old).mono ?_); rintro r W ⟨rfl, hb⟩; replace HV := Lib.hid (HV.out.grow hb); clear hb c0 c1 c2 c3 c4 c5 c6 c7 c8 c9 c10 c11 c12 c13 c14 c15; obtain ⟨c0, c1, c2, c3, c4, c5, c6, c7, c8, c9, c10, c11, c12, c13, c14, c15⟩ := efld HV.out.head) | fail)
  go_ret
  exact ⟨rfl, HV.out.old⟩

theorem SynthRises_walk (e : Eg) (f : Int) (lf : -9223372036854775808 ≤ f ∧ f ≤ 9223372036854775807) (m : Int) (lm : 0 ≤ m ∧ m ≤ 65535) (w : World) (hE : EngIn w e) : Calls Try.prog 5 #[.agg (ec e), .int .i64 f, .int .u16 m] w fun r w' => r = .returned (.bool true) ∧ Below w.heap.size w w' := by
  cases h : fewE e with
  | false => exact SynthRises_few e f m w h
  | true =>
    cases hk : Em.okB (en e) with
    | false => exact SynthRises_no e f m w hE h hk
    | true =>
      by_cases hf : 1099511627776 < f
      · exact SynthRises_much e f m w hE h hk hf
      · exact SynthRises_go e f m w hE h hk hf lf.1 lm.1 lm.2

end Ew
end Go.Proofs.Ytnaiphhadfolpaa
