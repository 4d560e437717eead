/- The small functions of package synth: its methods, at, back, within. -/
import Derived.Test.YtioiffhbbhlgeaaSynthIn
import Derived.Test.YtioiffhbbhlgeaaTabBack2
namespace Go.Proofs.Ytioiffhbbhlgeaa
namespace Ew
open Go.RowKit TabC Lk

/-- An engine's block (type 26). -/
theorem one_e (w : World) (e : Eg) : Hv w (w.alloc (eo e)) [(w.heap.size, eo e)] := (Hv.nil w).made (eo e)

abbrev tob (t : Tv) : Obj := .cells (tc t) 24 (0, 0)
theorem info_t : (Try.prog.info? 24).map (·.size) = some 2 := by kernel_rfl
/-- A result that is a table, in a cell. -/
theorem res_t {fn : Func} {p : Tmp} (h : fn.results = #[.cell p 24]) (tmps : Array Value) (w : World) (g : Nat) (t : Tv) (hp : tmps.getD p undef = .pointer (some ⟨g, 0, none⟩)) (hP : w.heap[g]? = some (tob t)) :
    (results fn tmps).run Try.prog w = .ok (.agg (tc t)) w := by
  have hp' : tmps[p]?.getD undef = .pointer (some ⟨g, 0, none⟩) := by simpa using hp
  simp [results, h, hp', asAddr, run_loadVar_row (P := Try.prog) w g 24 24 (tc t) (0, 0) _ hP Try.underlying24 rfl info_t]

/-- And that of the program's own engine (type 68). -/
theorem one_s (w : World) (e : Eg) : Hv w (w.alloc (so e)) [(w.heap.size, so e)] := (Hv.nil w).made (so e)
theorem two_s (w : World) (e : Eg) (t : Tv) : Hv w ((w.alloc (so e)).alloc (tob t)) [(w.heap.size + 1, tob t), (w.heap.size, so e)] := by
  have := (one_s w e).made (tob t)
  rwa [World.size_alloc] at this

theorem m_fuel (e : Eg) (w : World) : Calls Try.prog 43 #[.agg (ec e)] w fun r w' => r = .returned (.agg (tc e.f)) ∧ Below w.heap.size w w' := by
  have HV := Lib.hid (one_s w e)
  have HW : Hid (Hv w ((w.alloc (so e)).alloc (tob e.f)) [(w.heap.size + 1, tob e.f), (w.heap.size, so e)]) := (two_s w e e.f)
  have c0 := Joins.cell_of_block HV.out.head 0
  have c1 := Joins.cell_of_block HV.out.head 1
  simp only [List.getElem?_toArray, List.getElem?_cons_zero, List.getElem?_cons_succ] at c0 c1
  go_enter Try.func43, Try.ntmps43
  go_wp2
  refine bodyPost_ret (res_t rfl _ _ _ _ rfl HW.out.head) rfl ?_
  exact ⟨rfl, HW.out.old⟩
theorem m_n2 (e : Eg) (w : World) : Calls Try.prog 44 #[.agg (ec e)] w fun r w' => r = .returned (.agg (tc e.p)) ∧ Below w.heap.size w w' := by
  have HV := Lib.hid (one_s w e)
  have HW : Hid (Hv w ((w.alloc (so e)).alloc (tob e.p)) [(w.heap.size + 1, tob e.p), (w.heap.size, so e)]) := (two_s w e e.p)
  have c0 := Joins.cell_of_block HV.out.head 2
  have c1 := Joins.cell_of_block HV.out.head 3
  simp only [List.getElem?_toArray, List.getElem?_cons_zero, List.getElem?_cons_succ] at c0 c1
  go_enter Try.func44, Try.ntmps44
  go_wp2
  refine bodyPost_ret (res_t rfl _ _ _ _ rfl HW.out.head) rfl ?_
  exact ⟨rfl, HW.out.old⟩
theorem m_n1 (e : Eg) (w : World) : Calls Try.prog 45 #[.agg (ec e)] w fun r w' => r = .returned (.agg (tc e.q)) ∧ Below w.heap.size w w' := by
  have HV := Lib.hid (one_s w e)
  have HW : Hid (Hv w ((w.alloc (so e)).alloc (tob e.q)) [(w.heap.size + 1, tob e.q), (w.heap.size, so e)]) := (two_s w e e.q)
  have c0 := Joins.cell_of_block HV.out.head 4
  have c1 := Joins.cell_of_block HV.out.head 5
  simp only [List.getElem?_toArray, List.getElem?_cons_zero, List.getElem?_cons_succ] at c0 c1
  go_enter Try.func45, Try.ntmps45
  go_wp2
  refine bodyPost_ret (res_t rfl _ _ _ _ rfl HW.out.head) rfl ?_
  exact ⟨rfl, HW.out.old⟩
theorem m_heat (e : Eg) (w : World) : Calls Try.prog 46 #[.agg (ec e)] w fun r w' => r = .returned (.agg (tc e.h)) ∧ Below w.heap.size w w' := by
  have HV := Lib.hid (one_s w e)
  have HW : Hid (Hv w ((w.alloc (so e)).alloc (tob e.h)) [(w.heap.size + 1, tob e.h), (w.heap.size, so e)]) := (two_s w e e.h)
  have c0 := Joins.cell_of_block HV.out.head 6
  have c1 := Joins.cell_of_block HV.out.head 7
  simp only [List.getElem?_toArray, List.getElem?_cons_zero, List.getElem?_cons_succ] at c0 c1
  go_enter Try.func46, Try.ntmps46
  go_wp2
  refine bodyPost_ret (res_t rfl _ _ _ _ rfl HW.out.head) rfl ?_
  exact ⟨rfl, HW.out.old⟩

set_option maxHeartbeats 1000000 in
theorem at_n2 (e : Eg) (x : Int) (w : World) (hT : TabIn w e.p.A e.p.B e.p.xs e.p.ys) : Calls Try.prog 48 #[.agg (ec e), .func (.func 44) #[] #[], .int .i64 x] w fun r w' => r = .returned (.int .i64 (Tb.atv e.p.xs e.p.ys x)) ∧ Below w.heap.size w w' := by
  have HV := Lib.hid (one_e w e)
  have HT := Lib.hid hT
  clear hT
  go_enter Try.func48, Try.ntmps48
  go_wp2_with (first | (refine lde rfl _ rfl _ _ rfl HV.out.head ?_) | (go_at_call 44; (with_reducible refine (m_n2 e _).mono ?_); rintro r W ⟨rfl, hb⟩; replace HV := Lib.hid (HV.out.grow hb); clear hb) | (go_at_call 20; (with_reducible refine (atv_c _ _ _ _ _ _ _ _ (HT.out.below HV.out.old)).mono ?_); rintro r W ⟨rfl, hb⟩; replace HV := Lib.hid (HV.out.grow hb); clear hb) | fail)
  go_ret
  exact ⟨rfl, HV.out.old⟩

set_option maxHeartbeats 1000000 in
theorem at_n1 (e : Eg) (x : Int) (w : World) (hT : TabIn w e.q.A e.q.B e.q.xs e.q.ys) : Calls Try.prog 48 #[.agg (ec e), .func (.func 45) #[] #[], .int .i64 x] w fun r w' => r = .returned (.int .i64 (Tb.atv e.q.xs e.q.ys x)) ∧ Below w.heap.size w w' := by
  have HV := Lib.hid (one_e w e)
  have HT := Lib.hid hT
  clear hT
  go_enter Try.func48, Try.ntmps48
  go_wp2_with (first | (refine lde rfl _ rfl _ _ rfl HV.out.head ?_) | (go_at_call 45; (with_reducible refine (m_n1 e _).mono ?_); rintro r W ⟨rfl, hb⟩; replace HV := Lib.hid (HV.out.grow hb); clear hb) | (go_at_call 20; (with_reducible refine (atv_c _ _ _ _ _ _ _ _ (HT.out.below HV.out.old)).mono ?_); rintro r W ⟨rfl, hb⟩; replace HV := Lib.hid (HV.out.grow hb); clear hb) | fail)
  go_ret
  exact ⟨rfl, HV.out.old⟩

set_option maxHeartbeats 1000000 in
theorem at_heat (e : Eg) (x : Int) (w : World) (hT : TabIn w e.h.A e.h.B e.h.xs e.h.ys) : Calls Try.prog 48 #[.agg (ec e), .func (.func 46) #[] #[], .int .i64 x] w fun r w' => r = .returned (.int .i64 (Tb.atv e.h.xs e.h.ys x)) ∧ Below w.heap.size w w' := by
  have HV := Lib.hid (one_e w e)
  have HT := Lib.hid hT
  clear hT
  go_enter Try.func48, Try.ntmps48
  go_wp2_with (first | (refine lde rfl _ rfl _ _ rfl HV.out.head ?_) | (go_at_call 46; (with_reducible refine (m_heat e _).mono ?_); rintro r W ⟨rfl, hb⟩; replace HV := Lib.hid (HV.out.grow hb); clear hb) | (go_at_call 20; (with_reducible refine (atv_c _ _ _ _ _ _ _ _ (HT.out.below HV.out.old)).mono ?_); rintro r W ⟨rfl, hb⟩; replace HV := Lib.hid (HV.out.grow hb); clear hb) | fail)
  go_ret
  exact ⟨rfl, HV.out.old⟩

def InTo (lo hi : Int) (l : List Int) (k : Nat) : Prop := ∀ j, j < k → Em.within (Tb.g l j) lo hi = true
theorem in_all {lo hi : Int} {l : List Int} (h : InTo lo hi l l.length) : (l.all fun n => Em.within n lo hi) = true :=
  List.all_eq_true.2 fun n hn => by obtain ⟨k, hk, rfl⟩ := Tb.mem_g hn; exact h k hk
theorem in_no {lo hi : Int} {l : List Int} {k : Nat} (hk : k < l.length) (h : Em.within (Tb.g l k) lo hi = false) : (l.all fun n => Em.within n lo hi) = false :=
  List.all_eq_false.2 ⟨_, Tb.g_mem hk, by simp [h]⟩
theorem within_c (lo hi : Int) (A : Option Addr) (c : Nat) (l : List Int) (w : World) (hl : l.length ≤ 9223372036854775807) (hA : Lk.IntsAt w .i64 A l) :
    Calls Try.prog 47 #[.int .i64 lo, .int .i64 hi, .slice A l.length c] w fun r w' => r = .returned (.bool (l.all fun n => Em.within n lo hi)) ∧ w = w' := by
  have HA := Lib.hid hA
  clear hA
  go_enter Try.func47, Try.ntmps47
  go_wp2_with fail
  go_loop [11] (fun i => ∃ k : Nat, k ≤ l.length ∧ i = .int .i64 k ∧ InTo lo hi l k) (fun i => l.length - (intOf i).toNat)
  case atStart => exact ⟨0, Nat.zero_le _, rfl, fun j hj => by omega⟩
  case round =>
    obtain ⟨k, hk, rfl, hin⟩ := hrel
    have HN := Lib.hid hin
    clear hin
    by_cases hlt : k < l.length
    · obtain ⟨b, off, rfl, hc⟩ := cellG HA.out hlt
      have HG := Lib.hid (fun h => in_no (lo := lo) (hi := hi) hlt h)
      have HP : Hid (Em.within (Tb.g l k) lo hi = true → InTo lo hi l (k + 1)) := fun h j hj => by
        by_cases e : j = k
        · rw [e]; exact h
        · exact HN.out j (by omega)
      generalize Tb.g l k = v at hc HG HP
      by_cases h1 : v < lo
      · have EF : Hid (Em.within v lo hi = false) := by show _ = _; simp [Em.within]; omega
        go_wp2_with fail
        go_ret
        exact ⟨ret_bool (HG.out EF.out).symm, rfl⟩
      · by_cases h2 : hi < v
        · have EF : Hid (Em.within v lo hi = false) := by show _ = _; simp [Em.within]; omega
          have d1 : decide (v < lo) = false := by simp; omega
          have d2 : decide (hi < v) = true := by simp; omega
          go_wp2_with fail
          go_ret
          exact ⟨ret_bool (HG.out EF.out).symm, rfl⟩
        · have EF : Hid (Em.within v lo hi = true) := by show _ = _; simp [Em.within]; omega
          have d1 : decide (v < lo) = false := by simp; omega
          have d2 : decide (hi < v) = false := by simp; omega
          go_wp2_with fail
          go_round
          case rel => exact ⟨k + 1, by omega, by go_num, HP.out EF.out⟩
          case measure => simp [intOf]; omega
    · go_wp2_with fail
      go_ret
      exact ⟨ret_bool (in_all (by rw [show l.length = k from by omega]; exact HN.out)).symm, rfl⟩

end Ew
end Go.Proofs.Ytioiffhbbhlgeaa
