/- 'awake' of layer 3's statements answers true, and leaves all that lay. -/
import Derived.Test.YthjefnkgfmkijaaGridRef3
namespace Go.Proofs.Ythjefnkgfmkijaa
namespace GridC
open Go.RowKit TabC

theorem ints_box {W : World} {n t : Nat} {l : List Int} (h : Lk.BoxV W n t (l.map (fun v => Value.int .i64 v)).toArray) : Lk.IntsAt W .i64 (some ⟨n, 0, none⟩) l := by
  intro i hi
  refine ⟨n, 0, rfl, ?_⟩
  rw [h.cell]
  simp [hi]

/-- The document's two tables; the blocks from N on. -/
def TA (N : Nat) (k : Nat) : Tv := if k = 0 then ⟨some ⟨N + 1, 0, none⟩, some ⟨N + 1 + 1, 0, none⟩, 2, 2, [0, 10], [0, 100]⟩ else ⟨some ⟨N + 1 + 1 + 1, 0, none⟩, some ⟨N + 1 + 1 + 1 + 1, 0, none⟩, 2, 2, [0, 10], [100, 200]⟩
def XA (k : Nat) : List Int := if k = 0 then [0, 10] else [0, 10]
def YA (k : Nat) : List Int := if k = 0 then [0, 100] else [100, 200]
theorem XA_eq (N : Nat) : X (TA N) = XA := by funext k; unfold X TA XA; split <;> rfl
theorem YA_eq (N : Nat) : Y (TA N) = YA := by funext k; unfold Y TA YA; split <;> rfl

def awW (w : World) : World := ((((((((w.alloc (.cells #[.int .i64 0, .int .i64 10] 3)).alloc (.cells #[.int .i64 0, .int .i64 10] 3)).alloc (.cells #[.int .i64 0, .int .i64 100] 3)).alloc (.cells #[.int .i64 0, .int .i64 10] 3)).alloc (.cells #[.int .i64 100, .int .i64 200] 3)).alloc (.cells #[.slice (some ⟨w.heap.size + 1, 0, none⟩) 2 2, .slice (some ⟨w.heap.size + 1 + 1, 0, none⟩) 2 2, .slice (some ⟨w.heap.size + 1 + 1 + 1, 0, none⟩) 2 2, .slice (some ⟨w.heap.size + 1 + 1 + 1 + 1, 0, none⟩) 2 2] 37)).alloc (.cells #[.slice (some ⟨w.heap.size, 0, none⟩) 2 2, .slice (some ⟨w.heap.size + 1 + 1 + 1 + 1 + 1, 0, none⟩) 2 2] 26)).alloc (.cells #[.int .i64 0, .int .i64 5] 3))
abbrev Aw (w W : World) : Prop := GHeld (w.heap.size + 1 + 1 + 1 + 1 + 1 + 1) (some ⟨w.heap.size, 0, none⟩) (some ⟨w.heap.size + 1 + 1 + 1 + 1 + 1, 0, none⟩) 2 2 [0, 10] 2 (TA w.heap.size) w W

theorem aw_new (w : World) : Aw w (awW w) ∧ Lk.IntsAt (awW w) .i64 (some ⟨w.heap.size + 1 + 1 + 1 + 1 + 1 + 1 + 1, 0, none⟩) [0, 5] := by
  have b0 := ((((((((Lk.BoxV.new w 3 #[.int .i64 0, .int .i64 10]).alloc (.cells #[.int .i64 0, .int .i64 10] 3)).alloc (.cells #[.int .i64 0, .int .i64 100] 3)).alloc (.cells #[.int .i64 0, .int .i64 10] 3)).alloc (.cells #[.int .i64 100, .int .i64 200] 3)).alloc (.cells #[.slice (some ⟨w.heap.size + 1, 0, none⟩) 2 2, .slice (some ⟨w.heap.size + 1 + 1, 0, none⟩) 2 2, .slice (some ⟨w.heap.size + 1 + 1 + 1, 0, none⟩) 2 2, .slice (some ⟨w.heap.size + 1 + 1 + 1 + 1, 0, none⟩) 2 2] 37)).alloc (.cells #[.slice (some ⟨w.heap.size, 0, none⟩) 2 2, .slice (some ⟨w.heap.size + 1 + 1 + 1 + 1 + 1, 0, none⟩) 2 2] 26)).alloc (.cells #[.int .i64 0, .int .i64 5] 3))
  have b1 := (((((((Lk.BoxV.new (w.alloc (.cells #[.int .i64 0, .int .i64 10] 3)) 3 #[.int .i64 0, .int .i64 10]).alloc (.cells #[.int .i64 0, .int .i64 100] 3)).alloc (.cells #[.int .i64 0, .int .i64 10] 3)).alloc (.cells #[.int .i64 100, .int .i64 200] 3)).alloc (.cells #[.slice (some ⟨w.heap.size + 1, 0, none⟩) 2 2, .slice (some ⟨w.heap.size + 1 + 1, 0, none⟩) 2 2, .slice (some ⟨w.heap.size + 1 + 1 + 1, 0, none⟩) 2 2, .slice (some ⟨w.heap.size + 1 + 1 + 1 + 1, 0, none⟩) 2 2] 37)).alloc (.cells #[.slice (some ⟨w.heap.size, 0, none⟩) 2 2, .slice (some ⟨w.heap.size + 1 + 1 + 1 + 1 + 1, 0, none⟩) 2 2] 26)).alloc (.cells #[.int .i64 0, .int .i64 5] 3))
  have b2 := ((((((Lk.BoxV.new ((w.alloc (.cells #[.int .i64 0, .int .i64 10] 3)).alloc (.cells #[.int .i64 0, .int .i64 10] 3)) 3 #[.int .i64 0, .int .i64 100]).alloc (.cells #[.int .i64 0, .int .i64 10] 3)).alloc (.cells #[.int .i64 100, .int .i64 200] 3)).alloc (.cells #[.slice (some ⟨w.heap.size + 1, 0, none⟩) 2 2, .slice (some ⟨w.heap.size + 1 + 1, 0, none⟩) 2 2, .slice (some ⟨w.heap.size + 1 + 1 + 1, 0, none⟩) 2 2, .slice (some ⟨w.heap.size + 1 + 1 + 1 + 1, 0, none⟩) 2 2] 37)).alloc (.cells #[.slice (some ⟨w.heap.size, 0, none⟩) 2 2, .slice (some ⟨w.heap.size + 1 + 1 + 1 + 1 + 1, 0, none⟩) 2 2] 26)).alloc (.cells #[.int .i64 0, .int .i64 5] 3))
  have b3 := (((((Lk.BoxV.new (((w.alloc (.cells #[.int .i64 0, .int .i64 10] 3)).alloc (.cells #[.int .i64 0, .int .i64 10] 3)).alloc (.cells #[.int .i64 0, .int .i64 100] 3)) 3 #[.int .i64 0, .int .i64 10]).alloc (.cells #[.int .i64 100, .int .i64 200] 3)).alloc (.cells #[.slice (some ⟨w.heap.size + 1, 0, none⟩) 2 2, .slice (some ⟨w.heap.size + 1 + 1, 0, none⟩) 2 2, .slice (some ⟨w.heap.size + 1 + 1 + 1, 0, none⟩) 2 2, .slice (some ⟨w.heap.size + 1 + 1 + 1 + 1, 0, none⟩) 2 2] 37)).alloc (.cells #[.slice (some ⟨w.heap.size, 0, none⟩) 2 2, .slice (some ⟨w.heap.size + 1 + 1 + 1 + 1 + 1, 0, none⟩) 2 2] 26)).alloc (.cells #[.int .i64 0, .int .i64 5] 3))
  have b4 := ((((Lk.BoxV.new ((((w.alloc (.cells #[.int .i64 0, .int .i64 10] 3)).alloc (.cells #[.int .i64 0, .int .i64 10] 3)).alloc (.cells #[.int .i64 0, .int .i64 100] 3)).alloc (.cells #[.int .i64 0, .int .i64 10] 3)) 3 #[.int .i64 100, .int .i64 200]).alloc (.cells #[.slice (some ⟨w.heap.size + 1, 0, none⟩) 2 2, .slice (some ⟨w.heap.size + 1 + 1, 0, none⟩) 2 2, .slice (some ⟨w.heap.size + 1 + 1 + 1, 0, none⟩) 2 2, .slice (some ⟨w.heap.size + 1 + 1 + 1 + 1, 0, none⟩) 2 2] 37)).alloc (.cells #[.slice (some ⟨w.heap.size, 0, none⟩) 2 2, .slice (some ⟨w.heap.size + 1 + 1 + 1 + 1 + 1, 0, none⟩) 2 2] 26)).alloc (.cells #[.int .i64 0, .int .i64 5] 3))
  have b5 := (((Lk.BoxV.new (((((w.alloc (.cells #[.int .i64 0, .int .i64 10] 3)).alloc (.cells #[.int .i64 0, .int .i64 10] 3)).alloc (.cells #[.int .i64 0, .int .i64 100] 3)).alloc (.cells #[.int .i64 0, .int .i64 10] 3)).alloc (.cells #[.int .i64 100, .int .i64 200] 3)) 37 #[.slice (some ⟨w.heap.size + 1, 0, none⟩) 2 2, .slice (some ⟨w.heap.size + 1 + 1, 0, none⟩) 2 2, .slice (some ⟨w.heap.size + 1 + 1 + 1, 0, none⟩) 2 2, .slice (some ⟨w.heap.size + 1 + 1 + 1 + 1, 0, none⟩) 2 2]).alloc (.cells #[.slice (some ⟨w.heap.size, 0, none⟩) 2 2, .slice (some ⟨w.heap.size + 1 + 1 + 1 + 1 + 1, 0, none⟩) 2 2] 26)).alloc (.cells #[.int .i64 0, .int .i64 5] 3))
  have b6 := ((Lk.BoxV.new ((((((w.alloc (.cells #[.int .i64 0, .int .i64 10] 3)).alloc (.cells #[.int .i64 0, .int .i64 10] 3)).alloc (.cells #[.int .i64 0, .int .i64 100] 3)).alloc (.cells #[.int .i64 0, .int .i64 10] 3)).alloc (.cells #[.int .i64 100, .int .i64 200] 3)).alloc (.cells #[.slice (some ⟨w.heap.size + 1, 0, none⟩) 2 2, .slice (some ⟨w.heap.size + 1 + 1, 0, none⟩) 2 2, .slice (some ⟨w.heap.size + 1 + 1 + 1, 0, none⟩) 2 2, .slice (some ⟨w.heap.size + 1 + 1 + 1 + 1, 0, none⟩) 2 2] 37)) 26 #[.slice (some ⟨w.heap.size, 0, none⟩) 2 2, .slice (some ⟨w.heap.size + 1 + 1 + 1 + 1 + 1, 0, none⟩) 2 2]).alloc (.cells #[.int .i64 0, .int .i64 5] 3))
  have b7 := (Lk.BoxV.new (((((((w.alloc (.cells #[.int .i64 0, .int .i64 10] 3)).alloc (.cells #[.int .i64 0, .int .i64 10] 3)).alloc (.cells #[.int .i64 0, .int .i64 100] 3)).alloc (.cells #[.int .i64 0, .int .i64 10] 3)).alloc (.cells #[.int .i64 100, .int .i64 200] 3)).alloc (.cells #[.slice (some ⟨w.heap.size + 1, 0, none⟩) 2 2, .slice (some ⟨w.heap.size + 1 + 1, 0, none⟩) 2 2, .slice (some ⟨w.heap.size + 1 + 1 + 1, 0, none⟩) 2 2, .slice (some ⟨w.heap.size + 1 + 1 + 1 + 1, 0, none⟩) 2 2] 37)).alloc (.cells #[.slice (some ⟨w.heap.size, 0, none⟩) 2 2, .slice (some ⟨w.heap.size + 1 + 1 + 1 + 1 + 1, 0, none⟩) 2 2] 26)) 3 #[.int .i64 0, .int .i64 5])
  simp only [World.size_alloc] at b1 b2 b3 b4 b5 b6 b7
  have hb : Below w.heap.size w (awW w) := ((((((((Below.refl _ _).alloc (by simp <;> omega) _).alloc (by simp <;> omega) _).alloc (by simp <;> omega) _).alloc (by simp <;> omega) _).alloc (by simp <;> omega) _).alloc (by simp <;> omega) _).alloc (by simp <;> omega) _).alloc (by simp <;> omega) _
  refine ⟨⟨⟨by decide, by decide, ints_box (l := [0, 10]) b0, ?_, ?_⟩, b6, hb⟩, ints_box (l := [0, 5]) b7⟩
  · intro i hi
    have : i = 0 ∨ i = 1 := by omega
    rcases this with rfl | rfl
    · exact ⟨w.heap.size + 1 + 1 + 1 + 1 + 1, 0, rfl, (b5.cell 0).trans rfl, (b5.cell 1).trans rfl⟩
    · exact ⟨w.heap.size + 1 + 1 + 1 + 1 + 1, 0, rfl, (b5.cell 2).trans rfl, (b5.cell 3).trans rfl⟩
  · intro i hi
    have : i = 0 ∨ i = 1 := by omega
    rcases this with rfl | rfl
    · exact ⟨by show 2 ≤ 9223372036854775807; decide, by show 2 ≤ 9223372036854775807; decide, ints_box (l := [0, 10]) b1, ints_box (l := [0, 100]) b2⟩
    · exact ⟨by show 2 ≤ 9223372036854775807; decide, by show 2 ≤ 9223372036854775807; decide, ints_box (l := [0, 10]) b3, ints_box (l := [100, 200]) b4⟩

theorem k_check (w W : World) (h : Aw w W) : Calls Try.prog 13 #[.agg #[.slice (some ⟨w.heap.size, 0, none⟩) 2 2, .slice (some ⟨w.heap.size + 1 + 1 + 1 + 1 + 1, 0, none⟩) 2 2]] W fun e w' => e = .returned (.int .i64 0) ∧ Below W.heap.size W w' := by
  have := gcheck_c _ _ 2 2 _ _ _ W h.grid
  rwa [XA_eq, YA_eq, show Gd.err [0, 10] 2 XA YA = 0 from by decide +kernel] at this
theorem k_rising (w W : World) (h : Aw w W) : Calls Try.prog 15 #[.agg #[.slice (some ⟨w.heap.size, 0, none⟩) 2 2, .slice (some ⟨w.heap.size + 1 + 1 + 1 + 1 + 1, 0, none⟩) 2 2]] W fun e w' => e = .returned (.bool true) ∧ Below W.heap.size W w' := by
  have := grising_c _ _ 2 2 _ _ _ W h.grid
  rwa [XA_eq, YA_eq, show Gd.rsB [0, 10] 2 XA YA = true from by decide +kernel] at this
theorem k_at (z x v : Int) (hv : Gd.atv [0, 10] 2 XA YA z x = v) (w W : World) (h : Aw w W) : Calls Try.prog 12 #[.agg #[.slice (some ⟨w.heap.size, 0, none⟩) 2 2, .slice (some ⟨w.heap.size + 1 + 1 + 1 + 1 + 1, 0, none⟩) 2 2], .int .i64 z, .int .i64 x] W fun e w' => e = .returned (.int .i64 v) ∧ Below W.heap.size W w' := by
  have := gat_c _ _ 2 2 _ _ _ z x W h.grid
  rwa [XA_eq, YA_eq, hv] at this
theorem k_row (w W : World) (h : Aw w W) (hI : Lk.IntsAt W .i64 (some ⟨w.heap.size + 1 + 1 + 1 + 1 + 1 + 1 + 1, 0, none⟩) [0, 5]) : Calls Try.prog 18 #[.agg #[.slice (some ⟨w.heap.size, 0, none⟩) 2 2, .slice (some ⟨w.heap.size + 1 + 1 + 1 + 1 + 1, 0, none⟩) 2 2], .int .i64 5, .slice (some ⟨w.heap.size + 1 + 1 + 1 + 1 + 1 + 1 + 1, 0, none⟩) 2 2] W fun e w' => (∃ D, e = .returned (.slice (some ⟨D, 0, none⟩) 2 2) ∧ Lk.IntsAt w' .i64 (some ⟨D, 0, none⟩) [50, 100]) ∧ Below W.heap.size W w' := by
  have := grow_c _ _ (some ⟨w.heap.size + 1 + 1 + 1 + 1 + 1 + 1 + 1, 0, none⟩) 2 2 2 _ _ _ 5 [0, 5] W h.grid (by decide) hI
  unfold rw at this
  rwa [XA_eq, YA_eq, show ((List.range [(0 : Int), 5].length).map fun j => Gd.atv [0, 10] 2 XA YA 5 (Tb.g [0, 5] j)) = [50, 100] from by decide +kernel] at this
theorem k_none (W : World) : Calls Try.prog 13 #[.agg #[.slice none 0 0, .slice none 0 0]] W fun e w' => e = .returned (.int .i64 30) ∧ Below W.heap.size W w' := by
  have := gcheck_c none none 0 0 [] 0 (TA 0) W ⟨by decide, by decide, fun i hi => by simp at hi, fun i hi => by omega, fun i hi => by omega⟩
  rwa [XA_eq, YA_eq, show Gd.err [] 0 XA YA = 30 from by decide +kernel] at this

set_option maxRecDepth 100000 in
set_option maxHeartbeats 8000000 in
theorem awake_c (w : World) : Calls Try.prog 9 #[] w fun e w' => e = .returned (.bool true) ∧ Below w.heap.size w w' := by
  have HA := Lib.hid (aw_new w).1
  have HI := Lib.hid (aw_new w).2
  go_enter Try.func9, Try.ntmps9
  go_wp2_with fail
  refine (k_row w (awW w) HA.out HI.out).mono ?_
  rintro e w0 ⟨⟨D, rfl, hD⟩, hb⟩
  replace HA := Lib.hid (HA.out.below hb)
  have HD := Lib.hid hD
  have c0 := HA.out.c0
  have c1 := HA.out.c1
  clear hb hD HI
  go_wp2_with fail
  clear c0 c1
  refine (k_check _ _ HA.out).mono ?_
  rintro e w1 ⟨rfl, hb⟩
  replace HA := Lib.hid (HA.out.below hb)
  replace HD := Lib.hid (HD.out.below hb)
  have c0 := HA.out.c0
  have c1 := HA.out.c1
  clear hb
  go_wp2_with fail
  clear c0 c1
  refine (k_none _).mono ?_
  rintro e w2 ⟨rfl, hb⟩
  replace HA := Lib.hid (HA.out.below hb)
  replace HD := Lib.hid (HD.out.below hb)
  have c0 := HA.out.c0
  have c1 := HA.out.c1
  clear hb
  go_wp2_with fail
  clear c0 c1
  refine (k_rising _ _ HA.out).mono ?_
  rintro e w3 ⟨rfl, hb⟩
  replace HA := Lib.hid (HA.out.below hb)
  replace HD := Lib.hid (HD.out.below hb)
  have c0 := HA.out.c0
  have c1 := HA.out.c1
  clear hb
  go_wp2_with fail
  clear c0 c1
  refine (k_at 0 5 50 (by decide +kernel) _ _ HA.out).mono ?_
  rintro e w4 ⟨rfl, hb⟩
  replace HA := Lib.hid (HA.out.below hb)
  replace HD := Lib.hid (HD.out.below hb)
  have c0 := HA.out.c0
  have c1 := HA.out.c1
  clear hb
  go_wp2_with fail
  clear c0 c1
  refine (k_at 5 5 100 (by decide +kernel) _ _ HA.out).mono ?_
  rintro e w5 ⟨rfl, hb⟩
  replace HA := Lib.hid (HA.out.below hb)
  replace HD := Lib.hid (HD.out.below hb)
  have c0 := HA.out.c0
  have c1 := HA.out.c1
  clear hb
  go_wp2_with fail
  clear c0 c1
  refine (k_at 99 5 150 (by decide +kernel) _ _ HA.out).mono ?_
  rintro e w6 ⟨rfl, hb⟩
  replace HA := Lib.hid (HA.out.below hb)
  replace HD := Lib.hid (HD.out.below hb)
  have c0 := HA.out.c0
  have c1 := HA.out.c1
  clear hb
  obtain ⟨b0, o0, e0, d0⟩ := HD.out 0 (by decide)
  obtain ⟨b1, o1, e1, d1⟩ := HD.out 1 (by decide)
  simp only [Option.some.injEq, Addr.mk.injEq, and_true] at e0 e1
  obtain ⟨rfl, rfl⟩ := e0
  obtain ⟨rfl, rfl⟩ := e1
  simp only [Nat.zero_add, List.getD_cons_zero, List.getD_cons_succ] at d0 d1
  go_wp2_with fail
  go_ret
  exact ⟨rfl, HA.out.old⟩

end GridC
end Go.Proofs.Ythjefnkgfmkijaa
