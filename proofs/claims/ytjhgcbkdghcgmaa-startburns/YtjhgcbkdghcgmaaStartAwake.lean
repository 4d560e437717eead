/- 'awake' of layer 16's statements answers true, and leaves all that lay. Printed by gen_awake.py. -/
import Derived.Test.YtjhgcbkdghcgmaaScheduleLaws
import Derived.Test.YtjhgcbkdghcgmaaSynthAwake
import Derived.Test.YtjhgcbkdghcgmaaStartCalls
namespace Go.Proofs.Ytjhgcbkdghcgmaa
namespace Bw
open Go.RowKit TabC Lk Ew Hw

theorem y0 {e : Eg} {l : Lg} (h : en e = K0) (h' : la l = M0) (W : World) (hE : EngIn W e) (hL : LawIn W l) : Calls Try.prog 10 #[.agg (ec e), .agg (lc l), .int .i64 0] W fun r w' => r = .returned (.int .i64 220) ∧ Below W.heap.size W w' := by
  have := fuel_c e l 0 W hE hL
  rwa [h, h', show Sb.fuel K0 M0 0 = 220 from by decide +kernel] at this
theorem y1 {e : Eg} {l : Lg} (h : en e = K0) (h' : la l = M0) (W : World) (hE : EngIn W e) (hL : LawIn W l) : Calls Try.prog 10 #[.agg (ec e), .agg (lc l), .int .i64 5000] W fun r w' => r = .returned (.int .i64 240) ∧ Below W.heap.size W w' := by
  have := fuel_c e l 5000 W hE hL
  rwa [h, h', show Sb.fuel K0 M0 5000 = 240 from by decide +kernel] at this
theorem y2 {e : Eg} (h : en e = K0) (W : World) (hE : EngIn W e) : Calls Try.prog 12 #[.agg (ec e), .int .i64 1000] W fun r w' => r = .returned (.bool true) ∧ Below W.heap.size W w' := by
  have := ready_c e 1000 W hE
  have hi : e.light = 1000 := congrArg Em.En.light h
  rwa [h, hi, show (Em.okB K0 && decide ((1000 : Int) ≤ 1000)) = true from by decide +kernel] at this
theorem y3 {e : Eg} (h : en e = K0) (W : World) (hE : EngIn W e) : Calls Try.prog 12 #[.agg (ec e), .int .i64 999] W fun r w' => r = .returned (.bool false) ∧ Below W.heap.size W w' := by
  have := ready_c e 999 W hE
  have hi : e.light = 1000 := congrArg Em.En.light h
  rwa [h, hi, show (Em.okB K0 && decide ((1000 : Int) ≤ 999)) = false from by decide +kernel] at this
theorem y4 {l : Lg} (h : la l = M0) (W : World) (hL : LawIn W l) : Calls Try.prog 14 #[.agg (lc l), .bool true, .int .i64 1799] W fun r w' => r = .returned (.bool false) ∧ Below W.heap.size W w' := by
  have := away_c l 1799 W hL
  have hi : l.idle = 1800 := congrArg Sd.Ls.idle h
  rwa [h, hi, show (Sd.okB M0 && decide ((1800 : Int) ≤ 1799)) = false from by decide +kernel] at this
theorem y5 {l : Lg} (h : la l = M0) (W : World) (hL : LawIn W l) : Calls Try.prog 14 #[.agg (lc l), .bool true, .int .i64 1800] W fun r w' => r = .returned (.bool true) ∧ Below W.heap.size W w' := by
  have := away_c l 1800 W hL
  have hi : l.idle = 1800 := congrArg Sd.Ls.idle h
  rwa [h, hi, show (Sd.okB M0 && decide ((1800 : Int) ≤ 1800)) = true from by decide +kernel] at this
theorem y6 {l : Lg} (h : la l = M0) (W : World) (hL : LawIn W l) : Calls Try.prog 16 #[.agg (lc l), .int .i64 1000] W fun r w' => r = .returned (.bool true) ∧ Below W.heap.size W w' := by
  have := hot_c l 1000 W hL
  have hi : l.redE = 1000 := congrArg Sd.Ls.redE h
  rwa [h, hi, show (Sd.okB M0 && decide ((1000 : Int) ≤ 1000)) = true from by decide +kernel] at this
theorem y7 {l : Lg} (h : la l = M0) (W : World) (hL : LawIn W l) : Calls Try.prog 16 #[.agg (lc l), .int .i64 999] W fun r w' => r = .returned (.bool false) ∧ Below W.heap.size W w' := by
  have := hot_c l 999 W hL
  have hi : l.redE = 1000 := congrArg Sd.Ls.redE h
  rwa [h, hi, show (Sd.okB M0 && decide ((1000 : Int) ≤ 999)) = false from by decide +kernel] at this
theorem y8 {l : Lg} (h : la l = M0) (W : World) (hL : LawIn W l) : Calls Try.prog 18 #[.agg (lc l), .int .i64 200] W fun r w' => r = .returned (.bool true) ∧ Below W.heap.size W w' := by
  have := hung_c l 200 W hL
  have hi : l.patience = 200 := congrArg Sd.Ls.patience h
  rwa [h, hi, show (Sd.okB M0 && decide ((200 : Int) ≤ 200)) = true from by decide +kernel] at this
theorem y9 {l : Lg} (h : la l = M0) (W : World) (hL : LawIn W l) : Calls Try.prog 18 #[.agg (lc l), .int .i64 199] W fun r w' => r = .returned (.bool false) ∧ Below W.heap.size W w' := by
  have := hung_c l 199 W hL
  have hi : l.patience = 200 := congrArg Sd.Ls.patience h
  rwa [h, hi, show (Sd.okB M0 && decide ((200 : Int) ≤ 199)) = false from by decide +kernel] at this

set_option maxRecDepth 100000 in
set_option maxHeartbeats 4000000 in
theorem awake_c (w : World) : Calls Try.prog 7 #[] w fun r w' => r = .returned (.bool true) ∧ Below w.heap.size w w' := by
  have HV := Lib.hid (Hv.nil w)
  go_enter Try.func7, Try.ntmps7
  go_wp2_with fail
  refine (engine_c w).mono ?_
  rintro r W0 ⟨e, he, rfl, hE, hb⟩
  have HK := Lib.hid he
  replace HV := Lib.hid ((HV.out.grow hb).made (eo e))
  have HE := Lib.hid (fun W (hb : Below W0.heap.size W0 W) => hE.below hb)
  have HB := Lib.hid ((Below.refl W0.heap.size W0).alloc (Nat.le_refl _) (eo e))
  clear hE he hb
  go_wp2_with fail
  refine (laws_c _).mono ?_
  rintro r W1 ⟨l, hl, rfl, hL, hb⟩
  have HM := Lib.hid hl
  replace HV := Lib.hid ((HV.out.grow hb).made (lo l))
  have HL := Lib.hid (fun W (hb : Below W1.heap.size W1 W) => hL.below hb)
  replace HB := Lib.hid ((HB.out.trans (hb.mono HB.out.size)))
  have HG := Lib.hid (fun W (hc : Below W1.heap.size W1 W) => HE.out W (HB.out.trans (hc.mono HB.out.size)))
  replace HB := Lib.hid ((Below.refl W1.heap.size W1).alloc (Nat.le_refl _) (lo l))
  clear hL hl hb HE
  have C0 := Lib.hid (fun W h => y0 HK.out HM.out W (HG.out W h) (HL.out W h))
  have C1 := Lib.hid (fun W h => y1 HK.out HM.out W (HG.out W h) (HL.out W h))
  have C2 := Lib.hid (fun W h => y2 HK.out W (HG.out W h))
  have C3 := Lib.hid (fun W h => y3 HK.out W (HG.out W h))
  have C4 := Lib.hid (fun W h => y4 HM.out W (HL.out W h))
  have C5 := Lib.hid (fun W h => y5 HM.out W (HL.out W h))
  have C6 := Lib.hid (fun W h => y6 HM.out W (HL.out W h))
  have C7 := Lib.hid (fun W h => y7 HM.out W (HL.out W h))
  have C8 := Lib.hid (fun W h => y8 HM.out W (HL.out W h))
  have C9 := Lib.hid (fun W h => y9 HM.out W (HL.out W h))
  clear HG HK HM HL
  go_wp2_with (first | (refine lde rfl _ rfl _ _ rfl HV.out.h2 ?_) | (refine ldl rfl _ rfl _ _ rfl HV.out.head ?_) | (go_at_call 10; (first | (with_reducible refine (C0.out _ HB.out).mono ?_) | (with_reducible refine (C1.out _ HB.out).mono ?_)); rintro r W ⟨rfl, hb⟩; replace HV := Lib.hid (HV.out.grow hb); replace HB := Lib.hid (HB.out.trans (hb.mono HB.out.size)); clear hb) | (go_at_call 12; (first | (with_reducible refine (C2.out _ HB.out).mono ?_) | (with_reducible refine (C3.out _ HB.out).mono ?_)); rintro r W ⟨rfl, hb⟩; replace HV := Lib.hid (HV.out.grow hb); replace HB := Lib.hid (HB.out.trans (hb.mono HB.out.size)); clear hb) | (go_at_call 14; (first | (with_reducible refine (C4.out _ HB.out).mono ?_) | (with_reducible refine (C5.out _ HB.out).mono ?_) | (with_reducible refine (away_no _ _ _).mono ?_)); rintro r W ⟨rfl, hb⟩; replace HV := Lib.hid (HV.out.grow hb); replace HB := Lib.hid (HB.out.trans (hb.mono HB.out.size)); clear hb) | (go_at_call 16; (first | (with_reducible refine (C6.out _ HB.out).mono ?_) | (with_reducible refine (C7.out _ HB.out).mono ?_)); rintro r W ⟨rfl, hb⟩; replace HV := Lib.hid (HV.out.grow hb); replace HB := Lib.hid (HB.out.trans (hb.mono HB.out.size)); clear hb) | (go_at_call 18; (first | (with_reducible refine (C8.out _ HB.out).mono ?_) | (with_reducible refine (C9.out _ HB.out).mono ?_)); rintro r W ⟨rfl, hb⟩; replace HV := Lib.hid (HV.out.grow hb); replace HB := Lib.hid (HB.out.trans (hb.mono HB.out.size)); clear hb) | fail)
  go_ret
  exact ⟨rfl, HV.out.old⟩

end Bw
end Go.Proofs.Ytjhgcbkdghcgmaa
