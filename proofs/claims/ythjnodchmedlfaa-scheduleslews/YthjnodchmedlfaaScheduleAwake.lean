/- 'awake' of layer 14's statements answers true, and leaves all that lay; Few of laws; the statements' own laws. -/
import Derived.Test.YthjnodchmedlfaaScheduleCalls
import Derived.Test.YthjnodchmedlfaaSynthLaw1
namespace Go.Proofs.Ythjnodchmedlfaa
namespace Hw
open Go.RowKit TabC Lk Ew

def fewL (l : Lg) : Bool := fewB l.a.xs l.a.ys && fewB l.d.xs l.d.ys && fewB l.s.xs l.s.ys

set_option maxRecDepth 100000 in
set_option maxHeartbeats 4000000 in
theorem few_l (l : Lg) (w : World) : Calls Try.prog 8 #[.agg (lc l)] w fun r w' => r = .returned (.bool (fewL l)) ∧ Below w.heap.size w w' := by
  have HV := Lib.hid (one_l w l)
  obtain ⟨c0, c1, c2, c3, c4, c5, _⟩ := lfld HV.out.head
  obtain ⟨b1, h1⟩ : ∃ b, fewB l.a.xs l.a.ys = b := ⟨_, rfl⟩
  obtain ⟨b2, h2⟩ : ∃ b, fewB l.d.xs l.d.ys = b := ⟨_, rfl⟩
  obtain ⟨b3, h3⟩ : ∃ b, fewB l.s.xs l.s.ys = b := ⟨_, rfl⟩
  rw [show fewL l = (b1 && b2 && b3) from by simp only [fewL, h1, h2, h3]]
  have C1 := Lib.hid (fw_v h1)
  have C2 := Lib.hid (fw_v h2)
  have C3 := Lib.hid (fw_v h3)
  clear h1 h2 h3
  go_enter Try.func8, Try.ntmps8
  go_wp2_with (first | (go_at_call 22; (first | (with_reducible refine (C1.out _).mono ?_) | (with_reducible refine (C2.out _).mono ?_) | (with_reducible refine (C3.out _).mono ?_)); rintro r W ⟨rfl, hb⟩; replace HV := Lib.hid (HV.out.grow hb); clear hb c0 c1 c2 c3 c4 c5; obtain ⟨c0, c1, c2, c3, c4, c5, _⟩ := lfld HV.out.head) | fail)
  all_goals
    go_ret
    exact ⟨ret_bool (by simp [*]), HV.out.old⟩
theorem fewl_v {l : Lg} {b : Bool} (h : fewL l = b) (W : World) : Calls Try.prog 8 #[.agg (lc l)] W fun r w' => r = .returned (.bool b) ∧ Below W.heap.size W w' := h ▸ few_l l W

/-- The statements' own laws; their lists lie in the blocks behind N. -/
def M0 : Sd.Ls := ⟨[0, 10000], [300, 1000], [0, 10000], [0, 600], [0, 10000], [220, 260], 9000, 11000, 1000, 50, 1800, 200⟩
def L0 (N : Nat) : Lg := ⟨⟨some ⟨N + 1, 0, none⟩, some ⟨N + 1 + 1, 0, none⟩, 2, 2, [0, 10000], [300, 1000]⟩, ⟨some ⟨N + 1 + 1 + 1, 0, none⟩, some ⟨N + 1 + 1 + 1 + 1, 0, none⟩, 2, 2, [0, 10000], [0, 600]⟩, ⟨some ⟨N + 1 + 1 + 1 + 1 + 1, 0, none⟩, some ⟨N + 1 + 1 + 1 + 1 + 1 + 1, 0, none⟩, 2, 2, [0, 10000], [220, 260]⟩, 9000, 11000, 1000, 50, 1800, 200⟩
theorem madeL (w : World) : LawIn (((((((w.alloc (lo (L0 w.heap.size))).alloc (ro [0, 10000])).alloc (ro [300, 1000])).alloc (ro [0, 10000])).alloc (ro [0, 600])).alloc (ro [0, 10000])).alloc (ro [220, 260])) (L0 w.heap.size) ∧ Below w.heap.size w (((((((w.alloc (lo (L0 w.heap.size))).alloc (ro [0, 10000])).alloc (ro [300, 1000])).alloc (ro [0, 10000])).alloc (ro [0, 600])).alloc (ro [0, 10000])).alloc (ro [220, 260])) ∧ (((((((w.alloc (lo (L0 w.heap.size))).alloc (ro [0, 10000])).alloc (ro [300, 1000])).alloc (ro [0, 10000])).alloc (ro [0, 600])).alloc (ro [0, 10000])).alloc (ro [220, 260])).heap[w.heap.size]? = some (lo (L0 w.heap.size)) := by
  have h := (((((((Hv.nil w).made (lo (L0 w.heap.size))).made (ro [0, 10000])).made (ro [300, 1000])).made (ro [0, 10000])).made (ro [0, 600])).made (ro [0, 10000])).made (ro [220, 260])
  simp only [World.size_alloc] at h
  have g : ∀ (n : Nat) (l : List Int), (n, ro l) ∈ _ → Lk.IntsAt _ .i64 (some ⟨n, 0, none⟩) l := fun n l hm => ints_row (h.has (n, ro l) hm)
  refine ⟨⟨⟨by show 2 ≤ _; decide, by show 2 ≤ _; decide, ?_, ?_⟩, ⟨by show 2 ≤ _; decide, by show 2 ≤ _; decide, ?_, ?_⟩, ⟨by show 2 ≤ _; decide, by show 2 ≤ _; decide, ?_, ?_⟩⟩, h.old, h.has (w.heap.size, _) (by simp)⟩
  all_goals exact g _ _ (by simp [L0])

/-- A result that is laws, in a cell. -/
theorem res_l {fn : Func} {p : Tmp} (h : fn.results = #[.cell p 28]) (tmps : Array Value) (w : World) (g : Nat) (l : Lg) (hp : tmps.getD p undef = .pointer (some ⟨g, 0, none⟩)) (hP : w.heap[g]? = some (lo l)) :
    (results fn tmps).run Try.prog w = .ok (.agg (lc l)) w := by
  have hp' : tmps[p]?.getD undef = .pointer (some ⟨g, 0, none⟩) := by simpa using hp
  simp [results, h, hp', asAddr, run_loadVar_row (P := Try.prog) w g 28 28 (lc l) (0, 0) _ hP Try.underlying28 rfl info_l]

set_option maxHeartbeats 4000000 in
theorem laws_c (w : World) : Calls Try.prog 21 #[] w fun r w' => ∃ l, la l = M0 ∧ r = .returned (.agg (lc l)) ∧ LawIn w' l ∧ Below w.heap.size w w' := by
  have HM := Lib.hid (madeL w)
  go_enter Try.func21, Try.ntmps21
  go_wp2_with fail
  refine bodyPost_ret (res_l rfl _ _ _ (L0 w.heap.size) rfl HM.out.2.2) rfl ?_
  exact ⟨L0 w.heap.size, rfl, rfl, HM.out.1, HM.out.2.1⟩

/-- No laws. -/
def Y0 : Lg := ⟨⟨none, none, 0, 0, [], []⟩, ⟨none, none, 0, 0, [], []⟩, ⟨none, none, 0, 0, [], []⟩, 0, 0, 0, 0, 0, 0⟩
abbrev yc : Array Value := #[.slice none 0 0, .slice none 0 0, .slice none 0 0, .slice none 0 0, .slice none 0 0, .slice none 0 0, .int .i64 0, .int .i64 0, .int .i64 0, .int .i64 0, .int .i64 0, .int .i64 0]
abbrev yo : Obj := .cells yc 28 (0, 0)
theorem none_l (W : World) : LawIn W Y0 := by
  have t : TabIn W none none [] [] := ⟨by decide, by decide, fun i hi => by simp at hi, fun i hi => by simp at hi⟩
  exact ⟨t, t, t⟩
theorem y_none (W : World) : Calls Try.prog 10 #[.agg yc] W fun r w' => r = .returned (.int .i64 140) ∧ Below W.heap.size W w' := cl_no Y0 W (none_l W) (by decide +kernel)
theorem y_check {l : Lg} (h : la l = M0) (W : World) (hL : LawIn W l) : Calls Try.prog 10 #[.agg (lc l)] W fun r w' => r = .returned (.int .i64 0) ∧ Below W.heap.size W w' := cl_ok l W hL (by rw [h]; decide +kernel)
theorem y_ask {e : Eg} (h : en e = K0) (x v : Int) (hv : Sd.ask K0 x = v) (W : World) (hE : EngIn W e) : Calls Try.prog 12 #[.agg (ec e), .int .i64 x] W fun r w' => r = .returned (.int .i64 v) ∧ Below W.heap.size W w' := by
  have := ask_c e x W hE
  rwa [h, hv] at this
theorem y_allow {l : Lg} (h : la l = M0) (n x v : Int) (hv : Sd.allow M0 n x = v) (W : World) (hL : LawIn W l) : Calls Try.prog 14 #[.agg (lc l), .int .i64 n, .int .i64 x] W fun r w' => r = .returned (.int .i64 v) ∧ Below W.heap.size W w' := by
  have := allow_c l n x W hL
  rwa [h, hv] at this
theorem y_next {e : Eg} {l : Lg} (hk : en e = K0) (h : la l = M0) (n p x v : Int) (hv : Sd.next K0 M0 n p x = v) (W : World) (hE : EngIn W e) (hL : LawIn W l) : Calls Try.prog 16 #[.agg (ec e), .agg (lc l), .int .i64 n, .int .i64 p, .int .i64 x] W fun r w' => r = .returned (.int .i64 v) ∧ Below W.heap.size W w' := by
  have := next_c e l n p x W hE hL
  rwa [hk, h, hv] at this

section
variable {ops : Array Oper} {rest : List Oper} {op : Oper} {a : Act} {w : World} {Q : Exit → Act → World → Prop}
/-- Laws stored as a whole into a new block. -/
theorem sty (hgd : op.guard = none) (x y : Operand) (ho : op.op = .store 28 x y) (hd : op.dst = none)
    (g : Nat) (p : Lg) (hx : a.eval x = .pointer (some ⟨g, 0, none⟩)) (hy : a.eval y = .agg (lc p)) (hP : w.heap[g]? = some yo)
    (h : ∀ w', w'.heap[g]? = some (lo p) → Off g w w' → wpList Try.prog ops Q rest a w') : wpList Try.prog ops Q (op :: rest) a w :=
  stl hgd x y ho hd g Y0 p hx hy hP h
end

set_option maxRecDepth 100000 in
set_option maxHeartbeats 8000000 in
theorem awake_c (w : World) : Calls Try.prog 7 #[] w fun r w' => r = .returned (.bool true) ∧ Below w.heap.size w w' := by
  have HV := Lib.hid (Hv.nil w)
  go_enter Try.func7, Try.ntmps7
  go_wp2_with fail
  refine (engine_c w).mono ?_
  rintro r W0 ⟨e, he, rfl, hE, hb⟩
  have HK := Lib.hid he
  replace HV := Lib.hid ((HV.out.grow hb).made (eo e))
  have HE := Lib.hid (fun W (hb : Below W0.heap.size W0 W) => hE.below hb)
  have HB := Lib.hid ((Below.refl W0.heap.size W0).alloc (Nat.le_refl _) (eo e))
  clear hE he hb
  go_wp2_with fail
  refine (laws_c _).mono ?_
  rintro r W1 ⟨l, hl, rfl, hL, hb⟩
  have HM := Lib.hid hl
  replace HV := Lib.hid ((HV.out.grow hb).made (lo l))
  have HL := Lib.hid (fun W (hb : Below W1.heap.size W1 W) => hL.below hb)
  replace HB := Lib.hid ((HB.out.trans (hb.mono HB.out.size)))
  have HG := Lib.hid (fun W (hc : Below W1.heap.size W1 W) => HE.out W (HB.out.trans (hc.mono HB.out.size)))
  replace HB := Lib.hid ((Below.refl W1.heap.size W1).alloc (Nat.le_refl _) (lo l))
  clear hL hl hb HE
  have C1 := Lib.hid (fun W h => y_check HM.out W (HL.out W h))
  have C2 := Lib.hid (fun W h => y_ask HK.out 500 550 (by decide +kernel) W (HG.out W h))
  have C3 := Lib.hid (fun W h => y_ask HK.out 5000 900 (by decide +kernel) W (HG.out W h))
  have C4 := Lib.hid (fun W h => y_allow HM.out 5000 900 650 (by decide +kernel) W (HL.out W h))
  have C5 := Lib.hid (fun W h => y_allow HM.out 5000 10 300 (by decide +kernel) W (HL.out W h))
  have C6 := Lib.hid (fun W h => y_next HK.out HM.out 5000 400 900 450 (by decide +kernel) W (HG.out W h) (HL.out W h))
  have C7 := Lib.hid (fun W h => y_next HK.out HM.out 5000 640 900 650 (by decide +kernel) W (HG.out W h) (HL.out W h))
  clear HG HK HM HL
  go_wp2_with (first | (refine lde rfl _ rfl _ _ rfl HV.out.h2 ?_) | (refine ldl rfl _ rfl _ _ rfl HV.out.head ?_) | (go_at_call 10; (first | (with_reducible refine (C1.out _ HB.out).mono ?_) | (with_reducible refine (y_none _).mono ?_)); rintro r W ⟨rfl, hb⟩; replace HV := Lib.hid (HV.out.grow hb); replace HB := Lib.hid (HB.out.trans (hb.mono HB.out.size)); clear hb) | (go_at_call 12; (first | (with_reducible refine (C2.out _ HB.out).mono ?_) | (with_reducible refine (C3.out _ HB.out).mono ?_)); rintro r W ⟨rfl, hb⟩; replace HV := Lib.hid (HV.out.grow hb); replace HB := Lib.hid (HB.out.trans (hb.mono HB.out.size)); clear hb) | (go_at_call 14; (first | (with_reducible refine (C4.out _ HB.out).mono ?_) | (with_reducible refine (C5.out _ HB.out).mono ?_)); rintro r W ⟨rfl, hb⟩; replace HV := Lib.hid (HV.out.grow hb); replace HB := Lib.hid (HB.out.trans (hb.mono HB.out.size)); clear hb) | (go_at_call 16; (first | (with_reducible refine (C6.out _ HB.out).mono ?_) | (with_reducible refine (C7.out _ HB.out).mono ?_)); rintro r W ⟨rfl, hb⟩; replace HV := Lib.hid (HV.out.grow hb); replace HB := Lib.hid (HB.out.trans (hb.mono HB.out.size)); clear hb) | fail)
  go_ret
  exact ⟨rfl, HV.out.old⟩

end Hw
end Go.Proofs.Ythjnodchmedlfaa
