/- The counts of the package, as the start laid them. -/
import Derived.Test.YtamlfoheoooapaaDoorRows
import Derived.Test.YtamlfoheoooapaaDoorHealthIn
import Derived.OpenShut
import Derived.LaidMore
import Derived.MakeChecks
import Derived.ProofKit
namespace Go.Proofs.YtamlfoheoooapaaDoor
namespace Qw
open Go Go.RowKit Go.WideShapes Go.ChangeShapes Go.ChangeAt

/-- What the row's condition lists. -/
abbrev laid : List (String × DataW Unit) := [("turbojet/health.counts", Rows.laid_turbojet_health_counts)]
theorem gCounts : Tryd.prog.globalNamed "turbojet/health.counts" = some 0 := by kernel_rfl
theorem tCounts : (Tryd.prog.globals[0]?).map (·.type) = some 42 := by kernel_rfl
theorem c_counts : Tryd.prog.cellsOf 42 = 5 := by kernel_rfl
theorem c_one : Tryd.prog.cellsOf 2 = 1 := by kernel_rfl

theorem int_is {enc : TypeId × Value → Unit} {W : World} {sp : Nat → Bool} {held : Bool} {b f : Nat} {v : Value} {n : Int} {x : DataW Unit × List MemPlace} (h : DataW.trod enc Tryd.prog W b sp held f 2 [v] = some x) (hx : x.1 = .lit (.int .i64 n)) : v = .int .i64 n := by
  obtain ⟨m, e, h2, _⟩ := DataW.trod_int Tryd.underlying2 h
  have e' : v = .int .i64 m := by simpa using e
  have h3 : x.1 = .lit (.int .i64 m) := congrArg Prod.fst h2 |>.trans rfl
  have : n = m := by
    rw [hx] at h3
    simpa using h3
  rw [e', this]
theorem list5 {α : Type} {l : List α} (h : l.length = 5) : ∃ a b c d e, l = [a, b, c, d, e] := by
  match l, h with
  | [a, b, c, d, e], _ => exact ⟨a, b, c, d, e, rfl⟩
theorem counts_is {enc : TypeId × Value → Unit} {W : World} {sp : Nat → Bool} {held : Bool} {b f : Nat} {cs : List Value} {p : List MemPlace} (h : DataW.trod enc Tryd.prog W b sp held f 42 cs = some (Rows.laid_turbojet_health_counts, p)) : cs = cc.toList := by
  obtain ⟨xs, n, _, hx, hl, hn, hh⟩ := DataW.trod_array Tryd.underlying42 h
  rw [c_counts] at hl
  rw [c_one] at hh
  obtain ⟨c0, c1, c2, c3, c4, rfl⟩ := list5 hl
  obtain ⟨x0, x1, x2, x3, x4, rfl⟩ := list5 hn
  have h1 := congrArg Prod.fst hx
  simp only [Rows.laid_turbojet_health_counts, List.map_cons, List.map_nil, DataW.agg.injEq, List.cons.injEq, and_true] at h1
  have e0 := int_is (hh 0 (by decide)) h1.1.symm
  have e1 := int_is (hh 1 (by decide)) h1.2.1.symm
  have e2 := int_is (hh 2 (by decide)) h1.2.2.1.symm
  have e3 := int_is (hh 3 (by decide)) h1.2.2.2.1.symm
  have e4 := int_is (hh 4 (by decide)) h1.2.2.2.2.symm
  rw [e0, e1, e2, e3, e4]

/-- What the condition gives the walks. -/
theorem of_laid {W : World} (h : laidMetH Tryd.prog laid W) : ∃ t, W.heap[0]? = some (.cells cc t (0, 0)) := by
  rw [MakeChecks.laidMetH_plain _ _ _ (by kernel_rfl)] at h
  obtain ⟨ps, ⟨g0, t0, cs0, f0, p0, q0, hg0, ht0, hv0, hd0, _, hps⟩, _, hc⟩ := h
  obtain rfl := Option.some.inj (gCounts.symm.trans hg0)
  obtain rfl := Option.some.inj (tCounts.symm.trans ht0)
  have hcs : cs0 = cc := Array.toList_inj.1 (counts_is hd0)
  subst hcs
  obtain ⟨⟨c, t, hb⟩, _⟩ := hc 0 0 (by rw [hps]; exact List.mem_append_left _ (List.mem_append_left _ (List.mem_map.2 ⟨0, List.mem_range.2 (Nat.lt_of_lt_of_eq (by decide : 0 < 5) (by kernel_rfl)), rfl⟩)))
  refine ⟨t, ?_⟩
  simp only [World.var?, gCounts, Option.bind_some, hb] at hv0
  rw [hb, Option.some.inj hv0]

/-- The start's own heap meets the condition. -/
theorem door_met (os : Os) (args : Array Value) : laidMetH Tryd.prog laid ((World.doorLaid Tryd.prog 14 os).forCall (fun _ _ => 0) ⟨#[], args, []⟩).memory :=
  laidMetH_of_parts3 (fuel := 8) (laidMet_of_run' 8 (by kernel_rfl) (by kernel_rfl)) (by kernel_rfl) (by kernel_rfl)
end Qw
end Go.Proofs.YtamlfoheoooapaaDoor
