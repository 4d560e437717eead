/- A count's value, and how far off it may be told: sensor.Value, sensor.Step. -/
import Derived.Test.YtildceoakohhmaaSensorSearch
import Derived.Laws.EntriesVeiled
namespace Go.Proofs.Ytildceoakohhmaa
namespace Sw
open Go.RowKit

/-- What Value carries: the scale and the count in their blocks, all that lay. -/
structure Kn (w W : World) (b c : Nat) (g o l h n : Int) : Prop where
  at_ : Scl W b 24 g o l h
  num : W.heap[c]? = some (.cells #[.int .i64 n] 3 (0, 0))
  old : Below w.heap.size w W
namespace Kn
variable {w W W' : World} {b c : Nat} {g o l h n : Int}
theorem grow (k : Kn w W b c g o l h n) (hb : Below W.heap.size W W') : Kn w W' b c g o l h n := ⟨k.at_.grow hb, (hb.block c (Array.getElem?_eq_some_iff.1 k.num).1).trans k.num, k.old.trans (hb.mono k.old.size)⟩
theorem new (w : World) (g o l h n : Int) : Kn w ((w.alloc (.cells (sc g o l h) 24)).alloc (.cells #[.int .i64 n] 3)) w.heap.size (w.heap.size + 1) g o l h n := by
  have h1 := (Below.refl (w.alloc (.cells (sc g o l h) 24)).heap.size (w.alloc (.cells (sc g o l h) 24))).alloc (Nat.le_refl _) (.cells #[.int .i64 n] 3)
  have h2 := heap_alloc_last (w.alloc (.cells (sc g o l h) 24)) (.cells #[.int .i64 n] 3)
  have e : (w.alloc (.cells (sc g o l h) 24)).heap.size = w.heap.size + 1 := by simp
  refine ⟨(Scl.new w _ g o l h).grow h1, ?_, (Kp.new w g o l h).old.trans (h1.mono (by rw [e]; omega))⟩
  rw [← e]
  exact h2
end Kn

set_option maxRecDepth 100000 in
set_option maxHeartbeats 4000000 in
theorem value_c (g o l h n : Int) (w : World) : Calls Try.prog 14 #[.agg (sc g o l h), .int .i64 n] w fun e w' => e = .returned (.int .i64 (Sn.val g o l h n)) ∧ Below w.heap.size w w' := by
  have KN := Lib.hid (Kn.new w g o l h n)
  by_cases k : Sn.Ok g o l h
  · have CK := Lib.hid (check_ok k)
    have K := Lib.hid k
    have hl := ok_lh k
    clear k
    go_enter Try.func14, Try.ntmps14
    go_wp2_with (first | (refine ld_sc rfl _ rfl _ _ _ _ _ rfl KN.out.at_ ?_) | (go_at_call 10; (with_reducible refine (CK.out _).mono ?_); rintro e W1 ⟨rfl, hb⟩; replace KN := Lib.hid (KN.out.grow hb); clear hb CK) | fail)
    have HC : Hid (Cl (W1.alloc (.cells #[.func (.func 19) #[.agg (sc g o l h)] #[]] 34)) W1.heap.size w.heap.size (w.heap.size + 1) g o l h n) :=
      ⟨heap_alloc_last W1 _, (KN.out.grow ((Below.refl _ _).alloc (Nat.le_refl _) _)).at_, (KN.out.grow ((Below.refl _ _).alloc (Nat.le_refl _) _)).num⟩
    have HO : Hid (Below w.heap.size w (W1.alloc (.cells #[.func (.func 19) #[.agg (sc g o l h)] #[]] 34))) := (KN.out.grow ((Below.refl _ _).alloc (Nat.le_refl _) _)).old
    clear KN
    generalize World.alloc _ _ = W2 at *
    generalize W1.heap.size = b1 at *
    generalize w.heap.size + 1 = b3 at *
    have HW : Hid (IntKind.i64.wrap (h - l) = h - l) := IntWalk.i64_in _ (by omega)
    have CS : Hid (∀ W, Cl W b1 w.heap.size b3 g o l h n → Calls Try.prog 23 #[.int .i64 (h - l), .func (.func 24) #[] #[.pointer (some ⟨b1, 0, none⟩), .pointer (some ⟨w.heap.size, 0, none⟩), .pointer (some ⟨b3, 0, none⟩)]] W fun e w' => (∃ r : Nat, e = .returned (.int .i64 (r : Int)) ∧ Sn.IsV g o l h n (l + (r : Int))) ∧ Below W.heap.size W w') := fun W hW => by
      have hM : (((h - l).toNat : Nat) : Int) = h - l := by omega
      have := search_c g o l h n K.out (h - l).toNat hM b1 w.heap.size b3 W hW
      rwa [hM] at this
    obtain ⟨l1, l2, l3⟩ := hl
    go_region_held3 (fun V => V.cell? ⟨w.heap.size, 2, none⟩ = some (.int .i64 l) ∧ V.cell? ⟨w.heap.size, 3, none⟩ = some (.int .i64 h)) (first | exact HC.out.at_.fld.2.2 | exact HC.out.drew.at_.fld.2.2 | fail)
      (first | (go_at_call 23; (try rw [HW.out]); (with_reducible refine (CS.out _ HC.out.drew).mono ?_); rintro e W3 ⟨⟨r, rfl, hr⟩, hb⟩; have HR := Lib.hid hr; replace HC := Lib.hid (HC.out.drew.grow hb); replace HO := Lib.hid (HO.out.drew.trans (hb.mono HO.out.drew.size)); clear hb hr CS) | fail)
    all_goals
      have h1 := HR.out.lo
      have h2 := HR.out.hi
      go_wp2_with fail
      go_ret
      refine ⟨FixC.ret_int ?_, HO.out⟩
      rw [Sn.val_of K.out HR.out]
      try exact IntWalk.i64_in _ (by omega)
  · have E : Hid (Sn.val g o l h n = 0) := Sn.val_no k
    have CK := Lib.hid (check_no k)
    clear k
    go_enter Try.func14, Try.ntmps14
    go_wp2_with (first | (refine ld_sc rfl _ rfl _ _ _ _ _ rfl KN.out.at_ ?_) | (go_at_call 10; (with_reducible refine (CK.out _).mono ?_); rintro e W1 ⟨rfl, hb⟩; replace KN := Lib.hid (KN.out.grow hb); clear hb CK) | fail)
    go_ret
    exact ⟨FixC.ret_int E.out.symm, KN.out.old⟩

set_option maxRecDepth 100000 in
set_option maxHeartbeats 4000000 in
theorem step_c (g o l h : Int) (w : World) : Calls Try.prog 16 #[.agg (sc g o l h)] w fun e w' => e = .returned (.int .i64 (Sn.stp g o l h)) ∧ Below w.heap.size w w' := by
  have KP := Lib.hid (Kp.new w g o l h)
  by_cases k : Sn.Ok g o l h
  · have E : Hid (Sn.stp g o l h = Sn.step g l h) := Sn.stp_ok k
    have CK := Lib.hid (check_ok k)
    have hl := ok_lh k
    have hg := ok_g k
    have hc := (Sn.ceil_in hg.1).2
    clear k
    obtain ⟨l1, l2, l3⟩ := hl
    obtain ⟨g1, g2⟩ := hg
    obtain ⟨c1, c2⟩ := hc
    go_enter Try.func16, Try.ntmps16
    go_wp2_with (first | (refine ld_sc rfl _ rfl _ _ _ _ _ rfl KP.out.at_ ?_) | (go_at_call 10; (with_reducible refine (CK.out _).mono ?_); rintro e W1 ⟨rfl, hb⟩; replace KP := Lib.hid (KP.out.grow hb); clear hb CK; have f0 := KP.out.at_.fld.1; have f2 := KP.out.at_.fld.2.2.1; have f3 := KP.out.at_.fld.2.2.2) | fail)
    all_goals
      go_ret
      refine ⟨FixC.ret_int ?_, KP.out.old⟩
      rw [E.out]
      unfold Sn.step
      clear E KP f0 f2 f3
      generalize (65536 + g - 1) / g = c at *
      split <;> omega
  · have E : Hid (Sn.stp g o l h = 0) := Sn.stp_no k
    have CK := Lib.hid (check_no k)
    clear k
    go_enter Try.func16, Try.ntmps16
    go_wp2_with (first | (refine ld_sc rfl _ rfl _ _ _ _ _ rfl KP.out.at_ ?_) | (go_at_call 10; (with_reducible refine (CK.out _).mono ?_); rintro e W1 ⟨rfl, hb⟩; replace KP := Lib.hid (KP.out.grow hb); clear hb CK) | fail)
    go_ret
    exact ⟨FixC.ret_int E.out.symm, KP.out.old⟩
end Sw
end Go.Proofs.Ytildceoakohhmaa
