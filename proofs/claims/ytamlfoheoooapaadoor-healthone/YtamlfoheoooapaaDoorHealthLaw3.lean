/- The walk of HealthOne. -/
import Derived.Test.YtamlfoheoooapaaDoorHealthKit
import Derived.Deep.DeepCutAuto
namespace Go.Proofs.YtamlfoheoooapaaDoor
namespace Qw
open Go.RowKit Lk

set_option maxRecDepth 100000 in
set_option maxHeartbeats 8000000 in
theorem HealthOne_walk (s : Nat) (hs : s < 256) (o : Nat) (hO : o < 256) (t : TypeId) (w : World) (hR : w.heap[0]? = some (.cells cc t (0, 0))) :
    Calls Tryd.prog 6 #[.int .u8 s, .int .u8 o] w fun r w' => r = .returned (.bool true) ∧ Below w.heap.size w w' := by
  have HV := Lib.hid ((Hv.nil w).add (RO t) hR)
  have AW := Lib.hid (fun W hR => awake_c t W hR)
  have hi : s % 5 < 5 := Nat.mod_lt _ (by decide)
  have hj : o % 5 < 5 := Nat.mod_lt _ (by decide)
  have s0 : (0 : Int) ≤ (s : Int) := by omega
  have s1 : (s : Int) ≤ 255 := by omega
  have o0 : (0 : Int) ≤ (o : Int) := by omega
  have o1 : (o : Int) ≤ 255 := by omega
  clear hR
  go_enter Tryd.func6, Tryd.ntmps6
  go_upto_region 3 with (first
    | (go_at_call 8; (with_reducible refine (AW.out _ HV.out.head).mono ?_); rintro r W ⟨rfl, hb⟩; replace HV := Lib.hid (HV.out.grow hb); clear hb)
    | fail)
  have N1 := Lib.hid (ne_made HV.out)
  have G1 := Lib.hid HV.out.old.size
  replace HV := Lib.hid (HV.out.made (go Hh.no))
  obtain ⟨V, hV⟩ : ∃ V, W.alloc (gao false false false false false) = V := ⟨_, rfl⟩
  rw [hV]
  replace HV : Hid (Hv w V [(W.heap.size, go Hh.no), RO t]) := by subst hV; exact HV.out
  clear hV
  generalize W.heap.size = M at *
  have c1 := cell_g HV.out.head hi
  have c2 := Joins.unfrozen_of_block HV.out.head (s % 5)
  replace HV := Lib.hid (put_h HV.out hi N1.out G1.out)
  go_upto_region 4 with fail
  clear c1 c2
  generalize V.setCell ⟨M, s % 5, none⟩ (.bool true) = V1 at *
  have N2 := Lib.hid (ne_made HV.out)
  have G2 := Lib.hid HV.out.old.size
  replace HV := Lib.hid (HV.out.made (go (Hh.put Hh.no 1)))
  go_upto_region 6 with fail
  obtain ⟨V2, hV⟩ : ∃ V2, V1.alloc (gao false true false false false) = V2 := ⟨_, rfl⟩
  rw [hV]
  replace HV : Hid (Hv w V2 [(V1.heap.size, go (Hh.put Hh.no 1)), (M, go (Hh.put Hh.no (s % 5))), RO t]) := by subst hV; exact HV.out
  clear hV
  generalize V1.heap.size = M2 at *
  have c1 := cell_g HV.out.head hj
  have c2 := Joins.unfrozen_of_block HV.out.head (o % 5)
  replace HV := Lib.hid (put_h HV.out hj N2.out G2.out)
  go_upto_region 7 with fail
  clear c1 c2
  generalize V2.setCell ⟨M2, o % 5, none⟩ (.bool true) = V3 at *
  have e1 := Hh.sc_one hi
  have e2 := Hh.well_one hi
  have e3 : o % 5 = 1 → Hh.sc (Hh.put (Hh.put Hh.no 1) (o % 5)) 0 = 155 := fun h => by rw [h]; exact Hh.sc_same
  have e4 := Hh.sc_two hj
  have C1 := Lib.hid (fun W hR => score_c (Hh.put (Hh.put Hh.no 1) (o % 5)) 0 t W hR)
  have C2 := Lib.hid (fun W hR => score_c (Hh.put Hh.no (s % 5)) 0 t W hR)
  have C3 := Lib.hid (fun W hR => step_c 0 0 (Hh.put Hh.no (s % 5)) true t W hR)
  have C4 := Lib.hid (fun W => well_v 0 (Hh.sc (Hh.put Hh.no (s % 5)) 0) true e2 W)
  rw [show Hh.nq 0 true = 0 from rfl] at C3
  generalize Hh.sc (Hh.put (Hh.put Hh.no 1) (o % 5)) 0 = b at *
  generalize Hh.put (Hh.put Hh.no 1) (o % 5) = v at *
  generalize Hh.sc (Hh.put Hh.no (s % 5)) 0 = a at *
  generalize Hh.put Hh.no (s % 5) = u at *
  have k1 : decide (155 ≤ a) = true := by simpa using e1
  clear e1 e2 AW N1 N2 G1 G2
  by_cases hj1 : o % 5 = 1
  · obtain rfl : b = 155 := e3 hj1
    clear e3 e4
    go_upto_region 9 with (first
      | (refine ldg rfl _ rfl _ _ rfl HV.out.head ?_)
      | (refine ldg rfl _ rfl _ _ rfl HV.out.h2 ?_)
      | (go_at_call 11; (with_reducible refine (C3.out _ HV.out.h3).mono ?_); rintro r W4 ⟨rfl, hb⟩; replace HV := Lib.hid ((HV.out.grow hb).made (ho 0 a)); clear hb)
      | (go_at_call 9; (first | (with_reducible refine (C1.out _ HV.out.h3).mono ?_) | (with_reducible refine (C2.out _ HV.out.h4).mono ?_)); rintro r W4 ⟨rfl, hb⟩; replace HV := Lib.hid (HV.out.grow hb); clear hb)
      | fail)
    go_wp2_with (first
      | go_big_skip
      | (refine ldh rfl _ rfl _ _ _ rfl HV.out.head ?_)
      | (refine ldg rfl _ rfl _ _ rfl HV.out.h3 ?_)
      | (go_at_call 13; (with_reducible refine (C4.out _).mono ?_); rintro r W ⟨rfl, hb⟩; replace HV := Lib.hid (HV.out.grow hb); clear hb)
      | (go_at_call 9; (with_reducible refine (C2.out _ HV.out.h4).mono ?_); rintro r W4 ⟨rfl, hb⟩; replace HV := Lib.hid (HV.out.grow hb); clear hb)
      | fail)
    go_ret
    exact ⟨rfl, HV.out.old⟩
  · have k2 : decide (b ≤ 115) = true := by simpa using e4 hj1
    have k3 : ((o : Int) % 5 == 1) = false := by simp; omega
    have k4 : decide ((o : Int) % 5 = 1) = false := by simp; omega
    have k5 : ((o : Int) % 5 != 1) = true := by simp; omega
    clear e3 e4 hj1
    go_upto_region 9 with (first
      | (refine ldg rfl _ rfl _ _ rfl HV.out.head ?_)
      | (refine ldg rfl _ rfl _ _ rfl HV.out.h2 ?_)
      | (go_at_call 11; (with_reducible refine (C3.out _ HV.out.h3).mono ?_); rintro r W4 ⟨rfl, hb⟩; replace HV := Lib.hid ((HV.out.grow hb).made (ho 0 a)); clear hb)
      | (go_at_call 9; (first | (with_reducible refine (C1.out _ HV.out.h3).mono ?_) | (with_reducible refine (C2.out _ HV.out.h4).mono ?_)); rintro r W4 ⟨rfl, hb⟩; replace HV := Lib.hid (HV.out.grow hb); clear hb)
      | fail)
    go_wp2_with (first
      | go_big_skip
      | (refine ldh rfl _ rfl _ _ _ rfl HV.out.head ?_)
      | (refine ldg rfl _ rfl _ _ rfl HV.out.h3 ?_)
      | (go_at_call 13; (with_reducible refine (C4.out _).mono ?_); rintro r W ⟨rfl, hb⟩; replace HV := Lib.hid (HV.out.grow hb); clear hb)
      | (go_at_call 9; (with_reducible refine (C2.out _ HV.out.h4).mono ?_); rintro r W4 ⟨rfl, hb⟩; replace HV := Lib.hid (HV.out.grow hb); clear hb)
      | fail)
    go_ret
    exact ⟨rfl, HV.out.old⟩
end Qw
end Go.Proofs.YtamlfoheoooapaaDoor
