/- What one fault makes of a count: change of package inject; the document's count, Check, On. -/
import Derived.Test.YtealfomdfnpmpaaInjectCalls
namespace Go.Proofs.Ytealfomdfnpmpaa
namespace Jw
open Go.RowKit Nj

theorem pr_1 {k s f l si la c : Int} (h : k = 1) : pr ⟨k, s, f, l⟩ si la c = Fx.add c s := if_pos h
theorem pr_2 {k s f l si la c : Int} (h : k = 2) : pr ⟨k, s, f, l⟩ si la c = la := by subst h; rfl
theorem pr_3 {k s f l si la c : Int} (h : k = 3) : pr ⟨k, s, f, l⟩ si la c = 65535 := by subst h; rfl
theorem pr_4 {k s f l si la c : Int} (h : k = 4) : pr ⟨k, s, f, l⟩ si la c = 0 := by subst h; rfl
theorem pr_5 {k s f l si la c : Int} (h : k = 5) (g : si.tmod 2 = 0) : pr ⟨k, s, f, l⟩ si la c = Fx.add c s := by
  subst h; show (if si.tmod 2 = 0 then Fx.add c s else c) = _; rw [if_pos g]
theorem pr_5n {k s f l si la c : Int} (h : k = 5) (g : ¬ si.tmod 2 = 0) : pr ⟨k, s, f, l⟩ si la c = c := by
  subst h; show (if si.tmod 2 = 0 then Fx.add c s else c) = _; rw [if_neg g]
theorem pr_6 {k s f l si la c : Int} (h : k = 6) : pr ⟨k, s, f, l⟩ si la c = Fx.add c (Fx.mul s (si + 1) 0) := by subst h; rfl
theorem pr_0 {k s f l si la c : Int} (h : k < 1 ∨ 6 < k) : pr ⟨k, s, f, l⟩ si la c = c := by
  unfold pr
  rw [if_neg (by simp only; omega), if_neg (by simp only; omega), if_neg (by simp only; omega), if_neg (by simp only; omega), if_neg (by simp only; omega), if_neg (by simp only; omega)]

set_option maxRecDepth 100000 in
set_option maxHeartbeats 4000000 in
theorem change_c (k s f l si la c : Int) (hsi : -1000000000000 ≤ si ∧ si ≤ 1000000000000) (w : World) : Calls Try.prog 18 #[.agg (fc k s f l), .int .i64 si, .int .i64 la, .int .i64 c] w fun e w' => e = .returned (.int .i64 (pr ⟨k, s, f, l⟩ si la c)) ∧ Below w.heap.size w w' := by
  have KP := Lib.hid (Kp.new w k s f l)
  have HW : Hid (IntKind.i64.wrap (si + 1) = si + 1) := IntWalk.i64_in _ (by omega)
  rcases (by omega : k = 1 ∨ k = 2 ∨ k = 3 ∨ k = 4 ∨ k = 5 ∨ k = 6 ∨ (k < 1 ∨ 6 < k)) with h | h | h | h | h | h | h
  · have E : Hid (pr ⟨k, s, f, l⟩ si la c = Fx.add c s) := pr_1 h
    have d1 : (k == 1) = true := by simp [h]
    clear h
    go_enter Try.func18, Try.ntmps18
    go_wp2_with (first | (go_at_call 22; refine (FixC.add_c _ _ _).mono ?_; rintro e w' ⟨rfl, rfl⟩) | fail)
    go_ret
    exact ⟨FixC.ret_int E.out.symm, KP.out.old⟩
  · have E : Hid (pr ⟨k, s, f, l⟩ si la c = la) := pr_2 h
    have d1 : (k == 1) = false := by simp [h]
    have d2 : (k == 2) = true := by simp [h]
    clear h
    go_enter Try.func18, Try.ntmps18
    go_wp2_with fail
    go_ret
    exact ⟨FixC.ret_int E.out.symm, KP.out.old⟩
  · have E : Hid (pr ⟨k, s, f, l⟩ si la c = 65535) := pr_3 h
    have d1 : (k == 1) = false := by simp [h]
    have d2 : (k == 2) = false := by simp [h]
    have d3 : (k == 3) = true := by simp [h]
    clear h
    go_enter Try.func18, Try.ntmps18
    go_wp2_with fail
    go_ret
    exact ⟨FixC.ret_int E.out.symm, KP.out.old⟩
  · have E : Hid (pr ⟨k, s, f, l⟩ si la c = 0) := pr_4 h
    have d1 : (k == 1) = false := by simp [h]
    have d2 : (k == 2) = false := by simp [h]
    have d3 : (k == 3) = false := by simp [h]
    have d4 : (k == 4) = true := by simp [h]
    clear h
    go_enter Try.func18, Try.ntmps18
    go_wp2_with fail
    go_ret
    exact ⟨FixC.ret_int E.out.symm, KP.out.old⟩
  · have d1 : (k == 1) = false := by simp [h]
    have d2 : (k == 2) = false := by simp [h]
    have d3 : (k == 3) = false := by simp [h]
    have d4 : (k == 4) = false := by simp [h]
    have d5 : (k == 5) = true := by simp [h]
    by_cases g : si.tmod 2 = 0
    · have E : Hid (pr ⟨k, s, f, l⟩ si la c = Fx.add c s) := pr_5 h g
      have d6 : (si.tmod 2 == 0) = true := by simp [g]
      clear h g
      go_enter Try.func18, Try.ntmps18
      go_wp2_with (first | (go_at_call 22; refine (FixC.add_c _ _ _).mono ?_; rintro e w' ⟨rfl, rfl⟩) | fail)
      go_ret
      exact ⟨FixC.ret_int E.out.symm, KP.out.old⟩
    · have E : Hid (pr ⟨k, s, f, l⟩ si la c = c) := pr_5n h g
      have d6 : (si.tmod 2 == 0) = false := by simp [g]
      clear h g
      go_enter Try.func18, Try.ntmps18
      go_wp2_with fail
      go_ret
      exact ⟨FixC.ret_int E.out.symm, KP.out.old⟩
  · have E : Hid (pr ⟨k, s, f, l⟩ si la c = Fx.add c (Fx.mul s (si + 1) 0)) := pr_6 h
    have d1 : (k == 1) = false := by simp [h]
    have d2 : (k == 2) = false := by simp [h]
    have d3 : (k == 3) = false := by simp [h]
    have d4 : (k == 4) = false := by simp [h]
    have d5 : (k == 5) = false := by simp [h]
    have d6 : (k == 6) = true := by simp [h]
    have hw := HW.out
    clear h
    go_enter Try.func18, Try.ntmps18
    go_wp2_with (first | (go_at_call 23; refine (FixC.mul_c _ _ _ _).mono ?_; rintro e w' ⟨rfl, rfl⟩) | (go_at_call 22; refine (FixC.add_c _ _ _).mono ?_; rintro e w' ⟨rfl, rfl⟩) | fail)
    go_ret
    exact ⟨FixC.ret_int E.out.symm, KP.out.old⟩
  · have E : Hid (pr ⟨k, s, f, l⟩ si la c = c) := pr_0 h
    have d1 : (k == 1) = false := by simp; omega
    have d2 : (k == 2) = false := by simp; omega
    have d3 : (k == 3) = false := by simp; omega
    have d4 : (k == 4) = false := by simp; omega
    have d5 : (k == 5) = false := by simp; omega
    have d6 : (k == 6) = false := by simp; omega
    clear h
    go_enter Try.func18, Try.ntmps18
    go_wp2_with fail
    go_ret
    exact ⟨FixC.ret_int E.out.symm, KP.out.old⟩

theorem count_c (n : Int) (w : World) : Calls Try.prog 19 #[.int .i64 n] w fun e w' => e = .returned (.int .i64 (cl n)) ∧ w = w' := by
  go_enter Try.func19, Try.ntmps19
  go_wp2
  all_goals
    go_ret
    exact ⟨FixC.ret_int (by unfold cl; (repeat' split) <;> omega), rfl⟩

set_option maxRecDepth 100000 in
set_option maxHeartbeats 4000000 in
theorem rcheck_c (k s f l : Int) (w : World) : Calls Try.prog 10 #[.agg (fc k s f l)] w fun e w' => e = .returned (.int .i64 (err ⟨k, s, f, l⟩)) ∧ Below w.heap.size w w' := by
  have KP := Lib.hid (Kp.new w k s f l)
  have EO : Hid (Ok ⟨k, s, f, l⟩ → err ⟨k, s, f, l⟩ = 0) := err_ok
  have EN : Hid (¬ Ok ⟨k, s, f, l⟩ → err ⟨k, s, f, l⟩ = 1) := err_no
  go_enter Try.func10, Try.ntmps10
  go_wp2
  all_goals
    go_ret
    first
      | exact ⟨FixC.ret_int (EO.out ⟨by simp only; omega, by simp only; omega, by simp only; omega, by simp only; omega, by simp only; omega, by simp only; omega, by simp only; omega, by simp only; omega⟩).symm, KP.out.old⟩
      | exact ⟨FixC.ret_int (EN.out (fun ⟨a, b, c, d, e, f, g, h⟩ => by simp only at *; omega)).symm, KP.out.old⟩
end Jw
end Go.Proofs.Ytealfomdfnpmpaa
