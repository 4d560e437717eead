/- The contracts of the document's Step, Well. -/
import Derived.Test.YtamlfoheoooapaaDoorHealthRef
namespace Go.Proofs.YtamlfoheoooapaaDoor
namespace Qw
open Go.RowKit Lk

theorem rwell_c (q s : Int) (w : World) : Calls Tryd.prog 14 #[.agg (hc q s)] w fun r w' => r = .returned (.bool (Hh.well q s)) ∧ Below w.heap.size w w' := by
  have HB := Lib.hid ((Hv.nil w).made (ho q s))
  cases c1 : decide (128 ≤ s) with
  | false =>
    have e : Hh.well q s = false := by rw [Hh.well, c1]; rfl
    rw [e]
    clear e
    go_enter Tryd.func14, Tryd.ntmps14
    go_wp2_with (first | go_big_skip | fail)
    go_ret
    exact ⟨rfl, HB.out.old⟩
  | true =>
    have e : Hh.well q s = decide (q ≤ 5) := by rw [Hh.well, c1]; rfl
    rw [e]
    clear e
    go_enter Tryd.func14, Tryd.ntmps14
    go_wp2_with (first | go_big_skip | fail)
    go_ret
    exact ⟨rfl, HB.out.old⟩

theorem three_r (w : World) (q s : Int) (f : Nat → Bool) : Hv w (((w.alloc (ho q s)).alloc (go f)).alloc (ho 0 0)) [(w.heap.size + 1 + 1, ho 0 0), (w.heap.size + 1, go f), (w.heap.size, ho q s)] := by
  have := (((Hv.nil w).made (ho q s)).made (go f)).made (ho 0 0)
  simpa only [World.size_alloc] using this

set_option maxRecDepth 100000 in
set_option maxHeartbeats 4000000 in
theorem rstep_c (q s : Int) (f : Nat → Bool) (g : Bool) (w : World) :
    Calls Tryd.prog 12 #[.agg (hc q s), .agg (g5 f), .bool g] w fun r w' => r = .returned (.agg (hc (Hh.nq q g) (Hh.sc f (Hh.nq q g)))) ∧ Below w.heap.size w w' := by
  have HV := Lib.hid (three_r w q s f)
  obtain ⟨p, hp⟩ : ∃ p, Hh.nq q g = p := ⟨_, rfl⟩
  have CS := Lib.hid (fun W => rscore_c f p W)
  rw [hp]
  generalize Hh.sc f p = y at *
  have hn : w.heap.size ≤ w.heap.size + 1 + 1 := by omega
  cases g with
  | true =>
    obtain rfl : 0 = p := hp
    go_enter Tryd.func12, Tryd.ntmps12
    go_wp2_with (first
      | (refine ldg rfl _ rfl _ _ rfl HV.out.h2 ?_)
      | (go_at_call 10; (with_reducible refine (CS.out _).mono ?_); rintro r W ⟨rfl, hb⟩; replace HV := Lib.hid (HV.out.grow hb); clear hb)
      | (refine sth rfl _ _ rfl rfl _ 0 0 _ _ rfl rfl HV.out.head ?_; intro w' hP hO; replace HV := Lib.hid (HV.out.old.trans (hO.below hn)); replace hP := Lib.hid hP; clear hO)
      | fail)
    all_goals
      refine bodyPost_ret (res_h rfl _ _ _ _ _ rfl hP.out) rfl ?_
      exact ⟨rfl, HV.out⟩
  | false =>
    have HP : Hid (p = min (max q 0) 999 + 1) := hp.symm
    clear hp
    go_enter Tryd.func12, Tryd.ntmps12
    go_upto_region 2 with fail
    have e : (if 999 < if q < 0 then 0 else q then 999 else if q < 0 then 0 else q) + 1 = p := by
      rw [HP.out]
      (repeat' split) <;> omega
    rw [e]
    generalize (if 999 < if q < 0 then 0 else q then 999 else if q < 0 then 0 else q) = p1
    generalize (if q < 0 then 0 else q) = p2
    clear e HP
    go_wp2_with (first
      | (refine ldg rfl _ rfl _ _ rfl HV.out.h2 ?_)
      | (go_at_call 10; (with_reducible refine (CS.out _).mono ?_); rintro r W ⟨rfl, hb⟩; replace HV := Lib.hid (HV.out.grow hb); clear hb)
      | (refine sth rfl _ _ rfl rfl _ 0 0 _ _ rfl rfl HV.out.head ?_; intro w' hP hO; replace HV := Lib.hid (HV.out.old.trans (hO.below hn)); replace hP := Lib.hid hP; clear hO)
      | fail)
    all_goals
      refine bodyPost_ret (res_h rfl _ _ _ _ _ rfl hP.out) rfl ?_
      exact ⟨rfl, HV.out⟩

end Qw
end Go.Proofs.YtamlfoheoooapaaDoor
