/- synth.rising, of the four tables of an engine. -/
import Derived.Test.YtioiffhbbhlgeaaSynthCalls
namespace Go.Proofs.Ytioiffhbbhlgeaa
namespace Ew
open Go.RowKit TabC Lk

def tabB (e : Eg) : Nat → Bool
  | 0 => Tb.rsB e.f.xs e.f.ys
  | 1 => Tb.rsB e.p.xs e.p.ys
  | 2 => Tb.rsB e.q.xs e.q.ys
  | _ => Tb.rsB e.h.xs e.h.ys
def RiseTo (e : Eg) (k : Nat) : Prop := ∀ j, j < k → tabB e j = true
theorem RiseTo.next {e : Eg} {k : Nat} (h : RiseTo e k) (hk : tabB e k = true) : RiseTo e (k + 1) := fun j hj => by
  by_cases c : j = k
  · rw [c]; exact hk
  · exact h j (by omega)
theorem tabs_yes {e : Eg} (h : RiseTo e 4) : Em.tabs (en e) = true := by
  have h0 := h 0 (by decide)
  have h1 := h 1 (by decide)
  have h2 := h 2 (by decide)
  have h3 := h 3 (by decide)
  simp only [tabB] at h0 h1 h2 h3
  simp [Em.tabs, en, h0, h1, h2, h3]
theorem tabs_no {e : Eg} {k : Nat} (hk : k < 4) (h : tabB e k = false) : Em.tabs (en e) = false := by
  obtain rfl | rfl | rfl | rfl : k = 0 ∨ k = 1 ∨ k = 2 ∨ k = 3 := by omega
  all_goals simp only [tabB] at h; simp [Em.tabs, en, h]
/-- The four parts, in a block. -/
abbrev pa : Array Value := #[.func (.func 43) #[] #[], .func (.func 44) #[] #[], .func (.func 45) #[] #[], .func (.func 46) #[] #[]]
abbrev po : Obj := .cells pa 81 (0, 0)
theorem two_p (w : World) (g : Nat) (e : Eg) (hP : w.heap[g]? = some po) : Hv w (w.alloc (eo e)) [(w.heap.size, eo e), (g, po)] := ((Hv.nil w).add (g, po) hP).made (eo e)

set_option maxRecDepth 100000 in
set_option maxHeartbeats 4000000 in
theorem rising_all (e : Eg) (g : Nat) (w : World) (hE : EngIn w e) (hP : w.heap[g]? = some po) : Calls Try.prog 42 #[.agg (ec e), .slice (some ⟨g, 0, none⟩) 4 4] w fun r w' => r = .returned (.bool (Em.tabs (en e))) ∧ Below w.heap.size w w' := by
  have HV := Lib.hid (two_p w g e hP)
  have HE := Lib.hid hE
  clear hE hP
  go_enter Try.func42, Try.ntmps42
  go_wp2_with fail
  go_loopw [9] (fun i wr => ∃ k : Nat, k ≤ 4 ∧ i = .int .i64 k ∧ RiseTo e k ∧ Hv w wr [(w.heap.size, eo e), (g, po)]) (fun i _ => 4 - (intOf i).toNat)
  case atStart => exact ⟨0, by decide, rfl, (fun j hj => by omega), HV.out⟩
  case round =>
    clear HV
    obtain ⟨k, hk, rfl, hr, hv⟩ := hrel
    have HV := Lib.hid hv
    have HR := Lib.hid hr
    clear hv hr
    obtain rfl | rfl | rfl | rfl | rfl : k = 0 ∨ k = 1 ∨ k = 2 ∨ k = 3 ∨ k = 4 := by omega
    · have c0 := Joins.cell_of_block HV.out.h2 0
      simp only [List.getElem?_toArray, List.getElem?_cons_zero] at c0
      have EB : Hid (tabB e 0 = Tb.rsB e.f.xs e.f.ys) := rfl
      generalize Tb.rsB e.f.xs e.f.ys = bb at EB
      have CR : Hid (∀ W, TabIn W e.f.A e.f.B e.f.xs e.f.ys → Calls Try.prog 66 #[.agg #[.slice e.f.A e.f.xs.length e.f.ca, .slice e.f.B e.f.ys.length e.f.cb]] W fun r w' => r = .returned (.bool bb) ∧ Below W.heap.size W w') := fun W h => by
        have := rising_c e.f.A e.f.B e.f.ca e.f.cb e.f.xs e.f.ys W h
        rwa [show Tb.rsB e.f.xs e.f.ys = bb from EB.out] at this
      cases bb
      · go_wp2_with (first | (refine lde rfl _ rfl _ _ rfl HV.out.head ?_) | (go_at_call 43; (with_reducible refine (m_fuel e _).mono ?_); rintro r W ⟨rfl, hb⟩; replace HV := Lib.hid (HV.out.grow hb); clear hb c0) | (go_at_call 66; (with_reducible refine (CR.out _ (HE.out.f.below HV.out.old)).mono ?_); rintro r W ⟨rfl, hb⟩; replace HV := Lib.hid (HV.out.grow hb); clear hb) | fail)
        go_ret
        exact ⟨ret_bool (tabs_no (by decide) EB.out).symm, HV.out.old⟩
      · go_wp2_with (first | (refine lde rfl _ rfl _ _ rfl HV.out.head ?_) | (go_at_call 43; (with_reducible refine (m_fuel e _).mono ?_); rintro r W ⟨rfl, hb⟩; replace HV := Lib.hid (HV.out.grow hb); clear hb c0) | (go_at_call 66; (with_reducible refine (CR.out _ (HE.out.f.below HV.out.old)).mono ?_); rintro r W ⟨rfl, hb⟩; replace HV := Lib.hid (HV.out.grow hb); clear hb) | fail)
        go_roundw
        case rel => exact ⟨1, by omega, by go_num, HR.out.next EB.out, HV.out⟩
        case measure => simp [intOf]
    · have c0 := Joins.cell_of_block HV.out.h2 1
      simp only [List.getElem?_toArray, List.getElem?_cons_zero, List.getElem?_cons_succ] at c0
      have EB : Hid (tabB e 1 = Tb.rsB e.p.xs e.p.ys) := rfl
      generalize Tb.rsB e.p.xs e.p.ys = bb at EB
      have CR : Hid (∀ W, TabIn W e.p.A e.p.B e.p.xs e.p.ys → Calls Try.prog 66 #[.agg #[.slice e.p.A e.p.xs.length e.p.ca, .slice e.p.B e.p.ys.length e.p.cb]] W fun r w' => r = .returned (.bool bb) ∧ Below W.heap.size W w') := fun W h => by
        have := rising_c e.p.A e.p.B e.p.ca e.p.cb e.p.xs e.p.ys W h
        rwa [show Tb.rsB e.p.xs e.p.ys = bb from EB.out] at this
      cases bb
      · go_wp2_with (first | (refine lde rfl _ rfl _ _ rfl HV.out.head ?_) | (go_at_call 44; (with_reducible refine (m_n2 e _).mono ?_); rintro r W ⟨rfl, hb⟩; replace HV := Lib.hid (HV.out.grow hb); clear hb c0) | (go_at_call 66; (with_reducible refine (CR.out _ (HE.out.p.below HV.out.old)).mono ?_); rintro r W ⟨rfl, hb⟩; replace HV := Lib.hid (HV.out.grow hb); clear hb) | fail)
        go_ret
        exact ⟨ret_bool (tabs_no (by decide) EB.out).symm, HV.out.old⟩
      · go_wp2_with (first | (refine lde rfl _ rfl _ _ rfl HV.out.head ?_) | (go_at_call 44; (with_reducible refine (m_n2 e _).mono ?_); rintro r W ⟨rfl, hb⟩; replace HV := Lib.hid (HV.out.grow hb); clear hb c0) | (go_at_call 66; (with_reducible refine (CR.out _ (HE.out.p.below HV.out.old)).mono ?_); rintro r W ⟨rfl, hb⟩; replace HV := Lib.hid (HV.out.grow hb); clear hb) | fail)
        go_roundw
        case rel => exact ⟨2, by omega, by go_num, HR.out.next EB.out, HV.out⟩
        case measure => simp [intOf]
    · have c0 := Joins.cell_of_block HV.out.h2 2
      simp only [List.getElem?_toArray, List.getElem?_cons_zero, List.getElem?_cons_succ] at c0
      have EB : Hid (tabB e 2 = Tb.rsB e.q.xs e.q.ys) := rfl
      generalize Tb.rsB e.q.xs e.q.ys = bb at EB
      have CR : Hid (∀ W, TabIn W e.q.A e.q.B e.q.xs e.q.ys → Calls Try.prog 66 #[.agg #[.slice e.q.A e.q.xs.length e.q.ca, .slice e.q.B e.q.ys.length e.q.cb]] W fun r w' => r = .returned (.bool bb) ∧ Below W.heap.size W w') := fun W h => by
        have := rising_c e.q.A e.q.B e.q.ca e.q.cb e.q.xs e.q.ys W h
        rwa [show Tb.rsB e.q.xs e.q.ys = bb from EB.out] at this
      cases bb
      · go_wp2_with (first | (refine lde rfl _ rfl _ _ rfl HV.out.head ?_) | (go_at_call 45; (with_reducible refine (m_n1 e _).mono ?_); rintro r W ⟨rfl, hb⟩; replace HV := Lib.hid (HV.out.grow hb); clear hb c0) | (go_at_call 66; (with_reducible refine (CR.out _ (HE.out.q.below HV.out.old)).mono ?_); rintro r W ⟨rfl, hb⟩; replace HV := Lib.hid (HV.out.grow hb); clear hb) | fail)
        go_ret
        exact ⟨ret_bool (tabs_no (by decide) EB.out).symm, HV.out.old⟩
      · go_wp2_with (first | (refine lde rfl _ rfl _ _ rfl HV.out.head ?_) | (go_at_call 45; (with_reducible refine (m_n1 e _).mono ?_); rintro r W ⟨rfl, hb⟩; replace HV := Lib.hid (HV.out.grow hb); clear hb c0) | (go_at_call 66; (with_reducible refine (CR.out _ (HE.out.q.below HV.out.old)).mono ?_); rintro r W ⟨rfl, hb⟩; replace HV := Lib.hid (HV.out.grow hb); clear hb) | fail)
        go_roundw
        case rel => exact ⟨3, by omega, by go_num, HR.out.next EB.out, HV.out⟩
        case measure => simp [intOf]
    · have c0 := Joins.cell_of_block HV.out.h2 3
      simp only [List.getElem?_toArray, List.getElem?_cons_zero, List.getElem?_cons_succ] at c0
      have EB : Hid (tabB e 3 = Tb.rsB e.h.xs e.h.ys) := rfl
      generalize Tb.rsB e.h.xs e.h.ys = bb at EB
      have CR : Hid (∀ W, TabIn W e.h.A e.h.B e.h.xs e.h.ys → Calls Try.prog 66 #[.agg #[.slice e.h.A e.h.xs.length e.h.ca, .slice e.h.B e.h.ys.length e.h.cb]] W fun r w' => r = .returned (.bool bb) ∧ Below W.heap.size W w') := fun W h => by
        have := rising_c e.h.A e.h.B e.h.ca e.h.cb e.h.xs e.h.ys W h
        rwa [show Tb.rsB e.h.xs e.h.ys = bb from EB.out] at this
      cases bb
      · go_wp2_with (first | (refine lde rfl _ rfl _ _ rfl HV.out.head ?_) | (go_at_call 46; (with_reducible refine (m_heat e _).mono ?_); rintro r W ⟨rfl, hb⟩; replace HV := Lib.hid (HV.out.grow hb); clear hb c0) | (go_at_call 66; (with_reducible refine (CR.out _ (HE.out.h.below HV.out.old)).mono ?_); rintro r W ⟨rfl, hb⟩; replace HV := Lib.hid (HV.out.grow hb); clear hb) | fail)
        go_ret
        exact ⟨ret_bool (tabs_no (by decide) EB.out).symm, HV.out.old⟩
      · go_wp2_with (first | (refine lde rfl _ rfl _ _ rfl HV.out.head ?_) | (go_at_call 46; (with_reducible refine (m_heat e _).mono ?_); rintro r W ⟨rfl, hb⟩; replace HV := Lib.hid (HV.out.grow hb); clear hb c0) | (go_at_call 66; (with_reducible refine (CR.out _ (HE.out.h.below HV.out.old)).mono ?_); rintro r W ⟨rfl, hb⟩; replace HV := Lib.hid (HV.out.grow hb); clear hb) | fail)
        go_roundw
        case rel => exact ⟨4, by omega, by go_num, HR.out.next EB.out, HV.out⟩
        case measure => simp [intOf]
    · go_wp2_with fail
      go_ret
      exact ⟨ret_bool (tabs_yes HR.out).symm, HV.out.old⟩

end Ew
end Go.Proofs.Ytioiffhbbhlgeaa
