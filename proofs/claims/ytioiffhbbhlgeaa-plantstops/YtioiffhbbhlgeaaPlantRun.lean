/- Run. -/
import Derived.Test.YtioiffhbbhlgeaaPlantGo
import Derived.LoopTactic
namespace Go.Proofs.Ytioiffhbbhlgeaa
namespace Plw
open Go.RowKit TabC Lk Ew

/-- The boxes of a Run. -/
abbrev L5 (s : Nat) (e : Eg) (q : Pl.Pt) (d : Pl.Dr) : List (Nat × Obj) := [(s + 1, po q), (s + 1 + 1 + 1, zo), (s + 1 + 1, dro d), (s, eo e)]
theorem five_b (w : World) (e : Eg) (p : Pl.Pt) (d : Pl.Dr) : Hv w ((((w.alloc (eo e)).alloc (po p)).alloc (dro d)).alloc zo) (L5 w.heap.size e p d) := by
  have h := four_b w e p d
  exact ⟨fun x hx => h.has x (by simp only [List.mem_cons, List.not_mem_nil, or_false] at hx ⊢; rcases hx with rfl | rfl | rfl | rfl <;> simp), h.old⟩
/-- The third of the four, stored into. -/
theorem last_b {w W W' : World} {s : Nat} {e : Eg} {q r : Pl.Pt} {d : Pl.Dr} (hs : w.heap.size ≤ s) (h : Hv w W (L5 s e q d)) (hO : Off (s + 1 + 1 + 1) W W') (_ : W'.heap[s + 1 + 1 + 1]? = some (po r)) : Below w.heap.size w W' := h.old.trans (hO.below (by omega))

set_option maxRecDepth 100000 in
set_option maxHeartbeats 8000000 in
/-- **Run**. -/
theorem run_c (e : Eg) (p : Pl.Pt) (d : Pl.Dr) (n : Int) (w : World) (hE : EngIn w e) : Calls Try.prog 18 #[.agg (ec e), .agg (pc p), .agg (dc d), .int .i64 n] w fun r w' => r = .returned (.agg (pc (if 10000 < n then p else Pl.runs (en e) p d n.toNat))) ∧ Below w.heap.size w w' := by
  have HV : Hid (Hv w ((((w.alloc (eo e)).alloc (po p)).alloc (dro d)).alloc zo) (L5 w.heap.size e p d)) := Lib.hid (five_b w e p d)
  have HE := Lib.hid (fun W (hW : Below w.heap.size w W) => hE.below hW)
  have hn := Lib.hid (Nat.le_refl w.heap.size)
  clear hE
  by_cases h : 10000 < n
  · rw [if_pos h]
    go_enter Try.func18, Try.ntmps18
    go_wp2_with (first | (refine ldp rfl _ rfl _ _ rfl HV.out.head ?_) | (refine stp rfl _ _ rfl rfl _ ⟨0, 0, 0, 0, false⟩ p rfl rfl HV.out.h2 ?_; intro w' hP hO; replace HV := Lib.hid (last_b hn.out HV.out hO hP); replace hP := Lib.hid hP; clear hO) | fail)
    refine bodyPost_ret (res_p rfl _ _ _ _ rfl hP.out) rfl ?_
    exact ⟨rfl, HV.out⟩
  · rw [if_neg h]
    obtain ⟨N, hN⟩ : ∃ N, n.toNat = N := ⟨_, rfl⟩
    rw [hN]
    have hm : N ≤ 10000 := by omega
    obtain ⟨z, hz⟩ : ∃ z, Pl.runs (en e) p d N = z := ⟨_, rfl⟩
    rw [hz]
    have HZ := Lib.hid hz
    clear hz
    have HN := Lib.hid hN
    clear hN
    go_enter Try.func18, Try.ntmps18
    go_wp2_with fail
    go_loopw [13] (fun i wr => ∃ k : Nat, k ≤ N ∧ i = .int .i64 k ∧ Hv w wr (L5 w.heap.size e (Pl.runs (en e) p d k) d)) (fun i _ => N - (intOf i).toNat)
    case atStart => exact ⟨0, Nat.zero_le _, rfl, HV.out⟩
    case round =>
      clear HV
      obtain ⟨k, hk, rfl, hv⟩ := hrel
      have HV := Lib.hid hv
      clear hv
      by_cases hlt : (k : Int) < n
      · have hk2 : k + 1 ≤ N := by have := HN.out; omega
        obtain ⟨q, hq⟩ : ∃ q, Pl.runs (en e) p d k = q := ⟨_, rfl⟩
        obtain ⟨r, hr⟩ : ∃ r, Pl.runs (en e) p d (k + 1) = r := ⟨_, rfl⟩
        have hs : Pl.step (en e) q d = r := by rw [← hr, ← hq]; rfl
        have CS := Lib.hid (fun W (hW : Below w.heap.size w W) => step_v hs (HE.out W hW))
        rw [hq] at HV
        have HR := Lib.hid hr
        clear hq hr hs
        go_wp2_with (first | (refine lde rfl _ rfl _ _ rfl HV.out.h4 ?_) | (refine ldp rfl _ rfl _ _ rfl HV.out.head ?_) | (refine ldd rfl _ rfl _ _ rfl HV.out.h3 ?_) | (go_at_call 13; (with_reducible refine (CS.out _ HV.out.old).mono ?_); rintro x W ⟨rfl, hb⟩; replace HV := Lib.hid (HV.out.grow hb); clear hb) | (refine stp rfl _ _ rfl rfl _ q r rfl rfl HV.out.head ?_; intro w' hP hO; replace HV := Lib.hid (HV.out.change hO hP (by intro x hx; simp only [List.mem_cons, List.not_mem_nil, or_false] at hx; rcases hx with rfl | rfl | rfl <;> (dsimp only; omega)) (by omega)); clear hP hO) | fail)
        go_roundw
        case rel => exact ⟨k + 1, hk2, by go_num, by rw [HR.out]; exact HV.out⟩
        case measure => simp only [intOf, Int.toNat_natCast]; omega
      · obtain rfl : k = N := by have := HN.out; omega
        rw [HZ.out] at HV
        go_wp2_with (first | (refine ldp rfl _ rfl _ _ rfl HV.out.head ?_) | (refine stp rfl _ _ rfl rfl _ ⟨0, 0, 0, 0, false⟩ z rfl rfl HV.out.h2 ?_; intro w' hP hO; replace HV := Lib.hid (last_b hn.out HV.out hO hP); replace hP := Lib.hid hP; clear hO) | fail)
        refine bodyPost_ret (res_p rfl _ _ _ _ rfl hP.out) rfl ?_
        exact ⟨rfl, HV.out⟩
end Plw
end Go.Proofs.Ytioiffhbbhlgeaa
