/- The walk of CheckTells. -/
import Derived.Test.YtimflomgaknoaaaCheckAwake
import Derived.Test.YtimflomgaknoaaaCheckRef2
import Derived.ChangeKeysEq
import Derived.Laws.StructEq
namespace Go.Proofs.Ytimflomgaknoaaa
namespace Cw
open Go.RowKit Ck Lk

theorem eqin_w (p : Wa) (w : World) : (Op.equalIn 10000 25 (.agg (wc p)) (.agg (wc p))).run Try.prog w = .ok true w := by
  simp [go_sem, wc]
theorem eq_w (p : Wa) (w : World) : (binOp .eql 25 (.agg (wc p)) (.agg (wc p))).run Try.prog w = .ok (.bool true) w := by
  rw [run_eql_struct, eqin_w]
  rfl

set_option maxRecDepth 100000 in
set_option maxHeartbeats 8000000 in
theorem CheckTells_walk (l : Lm) (x : Wa) (v : Int) (w : World) : Calls Try.prog 3 #[.agg (lc l), .agg (wc x), .int .i64 v] w fun e w' => e = .returned (.bool true) ∧ Below w.heap.size w w' := by
  have HV := Lib.hid (two_lw w l x)
  obtain ⟨r, er⟩ : ∃ r, err l = r := ⟨_, rfl⟩
  obtain ⟨b, eb⟩ : ∃ b, wrong l x v = b := ⟨_, rfl⟩
  obtain ⟨y, ey⟩ : ∃ y, Ck.step l x v = y := ⟨_, rfl⟩
  obtain ⟨g, eg⟩ : ∃ g, good l x v = g := ⟨_, rfl⟩
  have C1 := Lib.hid (fun W => check_v er W)
  have C2 := Lib.hid (fun W => wrong_v eb W)
  have C3 := Lib.hid (fun W => step_v ey eg W)
  have D1 := Lib.hid (fun W => rcheck_v er W)
  have D2 := Lib.hid (fun W => rwrong_v eb W)
  have D3 := Lib.hid (fun W => rstep_v ey eg W)
  clear er eb ey eg
  have E := eq_w y
  dsimp only [wc] at E
  go_enter Try.func3, Try.ntmps3
  go_wp2_with (first
    | (go_at_call 7; refine (awake_c _).mono ?_; rintro e W ⟨rfl, hb⟩; replace HV := Lib.hid (HV.out.grow hb); clear hb)
    | (refine ldl rfl _ rfl _ _ rfl HV.out.h2 ?_)
    | (refine ldw rfl _ rfl _ _ rfl HV.out.head ?_)
    | (go_at_call 8; (with_reducible refine (C3.out _).mono ?_); rintro e W1 ⟨rfl, hb⟩; replace HV := Lib.hid (HV.out.grow hb); clear hb C3)
    | (refine stw rfl _ _ rfl rfl _ zw y rfl rfl (heap_alloc_last W1 _) ?_; intro W2 h1 h2; have HV2 := Lib.hid (HV.out.put h1 h2); clear h1 h2 HV)
    | (refine ldl rfl _ rfl _ _ rfl HV2.out.h3 ?_)
    | (refine ldw rfl _ rfl _ _ rfl HV2.out.h2 ?_)
    | (go_at_call 9; (with_reducible refine (D3.out _).mono ?_); rintro e W3 ⟨rfl, hb⟩; replace HV2 := Lib.hid (HV2.out.grow hb); clear hb D3)
    | (refine stw rfl _ _ rfl rfl _ zw y rfl rfl (heap_alloc_last W3 _) ?_; intro W4 h1 h2; have HV3 := Lib.hid (HV2.out.put h1 h2); clear h1 h2 HV2)
    | fail)
  go_region_held3 (fun V => (WFld V W3.heap.size y ∧ WFld V W1.heap.size y) ∧ WFld V (w.heap.size + 1) x ∧ LFld V w.heap.size l) (first | exact ⟨⟨wfld HV3.out.head, wfld HV3.out.h2⟩, wfld HV3.out.h3, lfld HV3.out.h4⟩ | exact ⟨⟨wfld HV3.out.drew.head, wfld HV3.out.drew.h2⟩, wfld HV3.out.drew.h3, lfld HV3.out.drew.h4⟩ | fail)
    (first
      | (go_at_call 10; (with_reducible refine (C1.out _).mono ?_); rintro e W ⟨rfl, hb⟩; replace HV3 := Lib.hid (HV3.out.drew.grow hb); clear hb C1)
      | (go_at_call 11; (with_reducible refine (D1.out _).mono ?_); rintro e W ⟨rfl, hb⟩; replace HV3 := Lib.hid (HV3.out.grow hb); clear hb D1)
      | (go_at_call 12; (with_reducible refine (C2.out _).mono ?_); rintro e W ⟨rfl, hb⟩; replace HV3 := Lib.hid (HV3.out.grow hb); clear hb C2)
      | (go_at_call 13; (with_reducible refine (D2.out _).mono ?_); rintro e W ⟨rfl, hb⟩; replace HV3 := Lib.hid (HV3.out.grow hb); clear hb D2)
      | fail)
  all_goals
    go_wp2_with fail
    go_ret
    exact ⟨rfl, HV3.out.old⟩
end Cw
end Go.Proofs.Ytimflomgaknoaaa
