/- Whether a scale may be: sensor.Check. -/
import Derived.Test.YtildceoakohhmaaSensorCount
namespace Go.Proofs.Ytildceoakohhmaa
namespace Sw
open Go.RowKit

/-- What a call carries: the scale in its block, all that lay. -/
structure Kp (w W : World) (b : Nat) (g o l h : Int) : Prop where
  at_ : Scl W b 24 g o l h
  old : Below w.heap.size w W
namespace Kp
variable {w W W' : World} {b : Nat} {g o l h : Int}
theorem grow (k : Kp w W b g o l h) (hb : Below W.heap.size W W') : Kp w W' b g o l h := ⟨k.at_.grow hb, k.old.trans (hb.mono k.old.size)⟩
theorem drew (k : Kp w W b g o l h) : Kp w W.drew b g o l h := ⟨k.at_, k.old.drew⟩
theorem new (w : World) (g o l h : Int) : Kp w (w.alloc (.cells (sc g o l h) 24)) w.heap.size g o l h := ⟨Scl.new w _ g o l h, (Below.refl _ _).alloc (Nat.le_refl _) _⟩
end Kp

set_option maxRecDepth 100000 in
set_option maxHeartbeats 4000000 in
theorem check_c (g o l h : Int) (w : World) : Calls Try.prog 10 #[.agg (sc g o l h)] w fun e w' => e = .returned (.int .i64 (Sn.err g o l h)) ∧ Below w.heap.size w w' := by
  have hc : (¬ (1 ≤ g ∧ g ≤ 1048576)) ∨ ((1 ≤ g ∧ g ≤ 1048576) ∧ ¬ (0 ≤ o ∧ o ≤ 65535)) ∨ ((1 ≤ g ∧ g ≤ 1048576) ∧ (0 ≤ o ∧ o ≤ 65535) ∧ ¬ (-1048576 ≤ l ∧ l ≤ 1048576)) ∨ ((1 ≤ g ∧ g ≤ 1048576) ∧ (0 ≤ o ∧ o ≤ 65535) ∧ (-1048576 ≤ l ∧ l ≤ 1048576) ∧ ¬ (-1048576 ≤ h ∧ h ≤ 1048576)) ∨ ((1 ≤ g ∧ g ≤ 1048576) ∧ (0 ≤ o ∧ o ≤ 65535) ∧ (-1048576 ≤ l ∧ l ≤ 1048576) ∧ (-1048576 ≤ h ∧ h ≤ 1048576)) := by omega
  have KP := Lib.hid (Kp.new w g o l h)
  rcases hc with h1 | ⟨h1, h2⟩ | ⟨h1, h2, h3⟩ | ⟨h1, h2, h3, h4⟩ | ⟨h1, h2, h3, h4⟩
  · have E : Hid (Sn.err g o l h = 60) := Sn.err_no (fun k => h1 ⟨k.1, k.2.1⟩)
    have H1 := Lib.hid h1
    clear h1
    go_enter Try.func10, Try.ntmps10
    go_wp2_with (first | (go_at_call 18; (with_reducible refine (within_f H1.out _).mono ?_); rintro e w' ⟨rfl, rfl⟩) | (refine ld_sc rfl _ rfl _ _ _ _ _ rfl KP.out.at_ ?_) | fail)
    go_ret
    exact ⟨FixC.ret_int E.out.symm, KP.out.old⟩
  · have E : Hid (Sn.err g o l h = 60) := Sn.err_no (fun k => h2 ⟨k.2.2.1, k.2.2.2.1⟩)
    have H1 := Lib.hid h1
    have H2 := Lib.hid h2
    clear h1 h2
    go_enter Try.func10, Try.ntmps10
    go_wp2_with (first | (go_at_call 18; (with_reducible refine (within_t H1.out _).mono ?_); rintro e w' ⟨rfl, rfl⟩) | (go_at_call 18; (with_reducible refine (within_f H2.out _).mono ?_); rintro e w' ⟨rfl, rfl⟩) | (refine ld_sc rfl _ rfl _ _ _ _ _ rfl KP.out.at_ ?_) | fail)
    go_ret
    exact ⟨FixC.ret_int E.out.symm, KP.out.old⟩
  · have E : Hid (Sn.err g o l h = 60) := Sn.err_no (fun k => h3 ⟨k.2.2.2.2.1, by have := k.2.2.2.2.2.1; have := k.2.2.2.2.2.2.1; omega⟩)
    have H1 := Lib.hid h1
    have H2 := Lib.hid h2
    have H3 := Lib.hid h3
    clear h1 h2 h3
    go_enter Try.func10, Try.ntmps10
    go_wp2_with (first | (go_at_call 18; (with_reducible refine (within_t H1.out _).mono ?_); rintro e w' ⟨rfl, rfl⟩) | (go_at_call 18; (with_reducible refine (within_t H2.out _).mono ?_); rintro e w' ⟨rfl, rfl⟩) | (go_at_call 18; (with_reducible refine (within_f H3.out _).mono ?_); rintro e w' ⟨rfl, rfl⟩) | (refine ld_sc rfl _ rfl _ _ _ _ _ rfl KP.out.at_ ?_) | fail)
    go_ret
    exact ⟨FixC.ret_int E.out.symm, KP.out.old⟩
  · have E : Hid (Sn.err g o l h = 60) := Sn.err_no (fun k => h4 ⟨by have := k.2.2.2.2.1; have := k.2.2.2.2.2.2.1; omega, k.2.2.2.2.2.1⟩)
    have H1 := Lib.hid h1
    have H2 := Lib.hid h2
    have H3 := Lib.hid h3
    have H4 := Lib.hid h4
    clear h1 h2 h3 h4
    go_enter Try.func10, Try.ntmps10
    go_wp2_with (first | (go_at_call 18; (with_reducible refine (within_t H1.out _).mono ?_); rintro e w' ⟨rfl, rfl⟩) | (go_at_call 18; (with_reducible refine (within_t H2.out _).mono ?_); rintro e w' ⟨rfl, rfl⟩) | (go_at_call 18; (with_reducible refine (within_t H3.out _).mono ?_); rintro e w' ⟨rfl, rfl⟩) | (go_at_call 18; (with_reducible refine (within_f H4.out _).mono ?_); rintro e w' ⟨rfl, rfl⟩) | (refine ld_sc rfl _ rfl _ _ _ _ _ rfl KP.out.at_ ?_) | fail)
    go_ret
    exact ⟨FixC.ret_int E.out.symm, KP.out.old⟩
  · have H1 := Lib.hid h1
    have H2 := Lib.hid h2
    have H3 := Lib.hid h3
    have H4 := Lib.hid h4
    have CL := Lib.hid (count_c g o l h l h3 h1 h2)
    have CH := Lib.hid (count_c g o l h h h4 h1 h2)
    have E : Hid (l < h → 0 ≤ Sn.cnt g o l → Sn.cnt g o h ≤ 65535 → Sn.err g o l h = 0) := fun h5 h6 h7 => Sn.err_ok ⟨h1.1, h1.2, h2.1, h2.2, h3.1, h4.2, h5, h6, h7⟩
    have N : Hid (¬ (l < h ∧ 0 ≤ Sn.cnt g o l ∧ Sn.cnt g o h ≤ 65535) → Sn.err g o l h = 60) := fun q => Sn.err_no fun k => q ⟨k.2.2.2.2.2.2.1, k.2.2.2.2.2.2.2.1, k.2.2.2.2.2.2.2.2⟩
    clear h1 h2 h3 h4
    generalize Sn.cnt g o l = a at *
    generalize Sn.cnt g o h = b at *
    rcases (by omega : h ≤ l ∨ (l < h ∧ a < 0) ∨ (l < h ∧ 0 ≤ a ∧ 65535 < b) ∨ (l < h ∧ 0 ≤ a ∧ b ≤ 65535)) with h5 | ⟨h5, h6⟩ | ⟨h5, h6, h7⟩ | ⟨h5, h6, h7⟩
    · replace N := Lib.hid (N.out (by omega))
      go_enter Try.func10, Try.ntmps10
      go_wp2_with (first | (go_at_call 18; (with_reducible refine (within_t H1.out _).mono ?_); rintro e w' ⟨rfl, rfl⟩) | (go_at_call 18; (with_reducible refine (within_t H2.out _).mono ?_); rintro e w' ⟨rfl, rfl⟩) | (go_at_call 18; (with_reducible refine (within_t H3.out _).mono ?_); rintro e w' ⟨rfl, rfl⟩) | (go_at_call 18; (with_reducible refine (within_t H4.out _).mono ?_); rintro e w' ⟨rfl, rfl⟩) | (refine ld_sc rfl _ rfl _ _ _ _ _ rfl KP.out.at_ ?_) | fail)
      go_ret
      exact ⟨FixC.ret_int N.out.symm, KP.out.old⟩
    · replace N := Lib.hid (N.out (by omega))
      go_enter Try.func10, Try.ntmps10
      go_wp2_with (first | (go_at_call 18; (with_reducible refine (within_t H1.out _).mono ?_); rintro e w' ⟨rfl, rfl⟩) | (go_at_call 18; (with_reducible refine (within_t H2.out _).mono ?_); rintro e w' ⟨rfl, rfl⟩) | (go_at_call 18; (with_reducible refine (within_t H3.out _).mono ?_); rintro e w' ⟨rfl, rfl⟩) | (go_at_call 18; (with_reducible refine (within_t H4.out _).mono ?_); rintro e w' ⟨rfl, rfl⟩) | (refine ld_sc rfl _ rfl _ _ _ _ _ rfl KP.out.at_ ?_) | (go_at_call 19; (with_reducible refine (CL.out _).mono ?_); rintro e W1 ⟨rfl, hb⟩; replace KP := Lib.hid (KP.out.grow hb); clear hb) | fail)
      go_ret
      exact ⟨FixC.ret_int N.out.symm, KP.out.old⟩
    · replace N := Lib.hid (N.out (by omega))
      go_enter Try.func10, Try.ntmps10
      go_wp2_with (first | (go_at_call 18; (with_reducible refine (within_t H1.out _).mono ?_); rintro e w' ⟨rfl, rfl⟩) | (go_at_call 18; (with_reducible refine (within_t H2.out _).mono ?_); rintro e w' ⟨rfl, rfl⟩) | (go_at_call 18; (with_reducible refine (within_t H3.out _).mono ?_); rintro e w' ⟨rfl, rfl⟩) | (go_at_call 18; (with_reducible refine (within_t H4.out _).mono ?_); rintro e w' ⟨rfl, rfl⟩) | (refine ld_sc rfl _ rfl _ _ _ _ _ rfl KP.out.at_ ?_) | (go_at_call 19; (with_reducible refine (CL.out _).mono ?_); rintro e W1 ⟨rfl, hb⟩; replace KP := Lib.hid (KP.out.grow hb); clear hb CL; have c3 := KP.out.at_.fld.2.2.2) | (go_at_call 19; (with_reducible refine (CH.out _).mono ?_); rintro e W2 ⟨rfl, hb⟩; replace KP := Lib.hid (KP.out.grow hb); clear hb) | fail)
      go_ret
      exact ⟨FixC.ret_int N.out.symm, KP.out.old⟩
    · replace E := Lib.hid (E.out h5 h6 h7)
      go_enter Try.func10, Try.ntmps10
      go_wp2_with (first | (go_at_call 18; (with_reducible refine (within_t H1.out _).mono ?_); rintro e w' ⟨rfl, rfl⟩) | (go_at_call 18; (with_reducible refine (within_t H2.out _).mono ?_); rintro e w' ⟨rfl, rfl⟩) | (go_at_call 18; (with_reducible refine (within_t H3.out _).mono ?_); rintro e w' ⟨rfl, rfl⟩) | (go_at_call 18; (with_reducible refine (within_t H4.out _).mono ?_); rintro e w' ⟨rfl, rfl⟩) | (refine ld_sc rfl _ rfl _ _ _ _ _ rfl KP.out.at_ ?_) | (go_at_call 19; (with_reducible refine (CL.out _).mono ?_); rintro e W1 ⟨rfl, hb⟩; replace KP := Lib.hid (KP.out.grow hb); clear hb CL; have c3 := KP.out.at_.fld.2.2.2) | (go_at_call 19; (with_reducible refine (CH.out _).mono ?_); rintro e W2 ⟨rfl, hb⟩; replace KP := Lib.hid (KP.out.grow hb); clear hb) | fail)
      go_ret
      exact ⟨FixC.ret_int E.out.symm, KP.out.old⟩
end Sw
end Go.Proofs.Ytildceoakohhmaa
