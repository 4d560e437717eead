/- Few of laws; the statements' own laws. -/
import Derived.Test.YtjhgcbkdghcgmaaScheduleIn
namespace Go.Proofs.Ytjhgcbkdghcgmaa
namespace Hw
open Go.RowKit TabC Lk Ew

def fewL (l : Lg) : Bool := fewB l.a.xs l.a.ys && fewB l.d.xs l.d.ys && fewB l.s.xs l.s.ys

set_option maxRecDepth 100000 in
set_option maxHeartbeats 4000000 in
theorem few_l (l : Lg) (w : World) : Calls Try.prog 8 #[.agg (lc l)] w fun r w' => r = .returned (.bool (fewL l)) ∧ Below w.heap.size w w' := by
  have HV := Lib.hid (one_l w l)
  obtain ⟨c0, c1, c2, c3, c4, c5, _⟩ := lfld HV.out.head
  obtain ⟨b1, h1⟩ : ∃ b, fewB l.a.xs l.a.ys = b := ⟨_, rfl⟩
  obtain ⟨b2, h2⟩ : ∃ b, fewB l.d.xs l.d.ys = b := ⟨_, rfl⟩
  obtain ⟨b3, h3⟩ : ∃ b, fewB l.s.xs l.s.ys = b := ⟨_, rfl⟩
  rw [show fewL l = (b1 && b2 && b3) from by simp only [fewL, h1, h2, h3]]
  have C1 := Lib.hid (fw_v h1)
  have C2 := Lib.hid (fw_v h2)
  have C3 := Lib.hid (fw_v h3)
  clear h1 h2 h3
  go_enter Try.func8, Try.ntmps8
  go_wp2_with (first | (go_at_call 24; (first | (with_reducible refine (C1.out _).mono ?_) | (with_reducible refine (C2.out _).mono ?_) | (with_reducible refine (C3.out _).mono ?_)); rintro r W ⟨rfl, hb⟩; replace HV := Lib.hid (HV.out.grow hb); clear hb c0 c1 c2 c3 c4 c5; obtain ⟨c0, c1, c2, c3, c4, c5, _⟩ := lfld HV.out.head) | fail)
  all_goals
    go_ret
    exact ⟨ret_bool (by simp [*]), HV.out.old⟩
theorem fewl_v {l : Lg} {b : Bool} (h : fewL l = b) (W : World) : Calls Try.prog 8 #[.agg (lc l)] W fun r w' => r = .returned (.bool b) ∧ Below W.heap.size W w' := h ▸ few_l l W

/-- The statements' own laws; their lists lie in the blocks behind N. -/
def M0 : Sd.Ls := ⟨[0, 10000], [300, 1000], [0, 10000], [0, 600], [0, 10000], [220, 260], 9000, 11000, 1000, 50, 1800, 200⟩
def L0 (N : Nat) : Lg := ⟨⟨some ⟨N + 1, 0, none⟩, some ⟨N + 1 + 1, 0, none⟩, 2, 2, [0, 10000], [300, 1000]⟩, ⟨some ⟨N + 1 + 1 + 1, 0, none⟩, some ⟨N + 1 + 1 + 1 + 1, 0, none⟩, 2, 2, [0, 10000], [0, 600]⟩, ⟨some ⟨N + 1 + 1 + 1 + 1 + 1, 0, none⟩, some ⟨N + 1 + 1 + 1 + 1 + 1 + 1, 0, none⟩, 2, 2, [0, 10000], [220, 260]⟩, 9000, 11000, 1000, 50, 1800, 200⟩
theorem madeL (w : World) : LawIn (((((((w.alloc (lo (L0 w.heap.size))).alloc (ro [0, 10000])).alloc (ro [300, 1000])).alloc (ro [0, 10000])).alloc (ro [0, 600])).alloc (ro [0, 10000])).alloc (ro [220, 260])) (L0 w.heap.size) ∧ Below w.heap.size w (((((((w.alloc (lo (L0 w.heap.size))).alloc (ro [0, 10000])).alloc (ro [300, 1000])).alloc (ro [0, 10000])).alloc (ro [0, 600])).alloc (ro [0, 10000])).alloc (ro [220, 260])) ∧ (((((((w.alloc (lo (L0 w.heap.size))).alloc (ro [0, 10000])).alloc (ro [300, 1000])).alloc (ro [0, 10000])).alloc (ro [0, 600])).alloc (ro [0, 10000])).alloc (ro [220, 260])).heap[w.heap.size]? = some (lo (L0 w.heap.size)) := by
  have h := (((((((Hv.nil w).made (lo (L0 w.heap.size))).made (ro [0, 10000])).made (ro [300, 1000])).made (ro [0, 10000])).made (ro [0, 600])).made (ro [0, 10000])).made (ro [220, 260])
  simp only [World.size_alloc] at h
  have g : ∀ (n : Nat) (l : List Int), (n, ro l) ∈ _ → Lk.IntsAt _ .i64 (some ⟨n, 0, none⟩) l := fun n l hm => ints_row (h.has (n, ro l) hm)
  refine ⟨⟨⟨by show 2 ≤ _; decide, by show 2 ≤ _; decide, ?_, ?_⟩, ⟨by show 2 ≤ _; decide, by show 2 ≤ _; decide, ?_, ?_⟩, ⟨by show 2 ≤ _; decide, by show 2 ≤ _; decide, ?_, ?_⟩⟩, h.old, h.has (w.heap.size, _) (by simp)⟩
  all_goals exact g _ _ (by simp [L0])

/-- A result that is laws, in a cell. -/
theorem res_l {fn : Func} {p : Tmp} (h : fn.results = #[.cell p 28]) (tmps : Array Value) (w : World) (g : Nat) (l : Lg) (hp : tmps.getD p undef = .pointer (some ⟨g, 0, none⟩)) (hP : w.heap[g]? = some (lo l)) :
    (results fn tmps).run Try.prog w = .ok (.agg (lc l)) w := by
  have hp' : tmps[p]?.getD undef = .pointer (some ⟨g, 0, none⟩) := by simpa using hp
  simp [results, h, hp', asAddr, run_loadVar_row (P := Try.prog) w g 28 28 (lc l) (0, 0) _ hP Try.underlying28 rfl info_l]

set_option maxHeartbeats 4000000 in
theorem laws_c (w : World) : Calls Try.prog 23 #[] w fun r w' => ∃ l, la l = M0 ∧ r = .returned (.agg (lc l)) ∧ LawIn w' l ∧ Below w.heap.size w w' := by
  have HM := Lib.hid (madeL w)
  go_enter Try.func23, Try.ntmps23
  go_wp2_with fail
  refine bodyPost_ret (res_l rfl _ _ _ (L0 w.heap.size) rfl HM.out.2.2) rfl ?_
  exact ⟨L0 w.heap.size, rfl, rfl, HM.out.1, HM.out.2.1⟩

end Hw
end Go.Proofs.Ytjhgcbkdghcgmaa
