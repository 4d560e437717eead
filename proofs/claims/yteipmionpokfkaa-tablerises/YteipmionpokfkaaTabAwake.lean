/- 'awake' of layer 2's statements answers true, and leaves all that lay. -/
import Derived.Test.YteipmionpokfkaaTabAt2
import Derived.Test.YteipmionpokfkaaTabSteep
import Derived.Test.YteipmionpokfkaaTabBack2
namespace Go.Proofs.Yteipmionpokfkaa
namespace TabC
open Go.RowKit

/-- The document's example lies in three blocks from n on. -/
structure Aw (n : Nat) (W : World) : Prop where
  tab : TabIn W (some ⟨n, 0, none⟩) (some ⟨n + 1, 0, none⟩) [0, 10, 20] [0, 100, 50]
  box : Lk.BoxV W (n + 1 + 1) 25 #[.slice (some ⟨n, 0, none⟩) 3 3, .slice (some ⟨n + 1, 0, none⟩) 3 3]
theorem Aw.below {n : Nat} {W W' : World} (h : Aw n W) (hb : Below W.heap.size W W') : Aw n W' := ⟨h.tab.below hb, h.box.below hb h.box.lt⟩
theorem Aw.alloc {n : Nat} {W : World} (h : Aw n W) (o : Obj) : Aw n (W.alloc o) := h.below ((Below.refl _ _).alloc (Nat.le_refl _) _)
theorem Aw.c0 {n : Nat} {W : World} (h : Aw n W) : W.cell? ⟨n + 1 + 1, 0, none⟩ = some (.slice (some ⟨n, 0, none⟩) 3 3) := by rw [h.box.cell]; rfl
theorem Aw.c1 {n : Nat} {W : World} (h : Aw n W) : W.cell? ⟨n + 1 + 1, 1, none⟩ = some (.slice (some ⟨n + 1, 0, none⟩) 3 3) := by rw [h.box.cell]; rfl

theorem ints_new {W : World} {n t : Nat} {l : List Int} (h : Lk.BoxV W n t (l.map (fun v => Value.int .i64 v)).toArray) : Lk.IntsAt W .i64 (some ⟨n, 0, none⟩) l := by
  intro i hi
  refine ⟨n, 0, rfl, ?_⟩
  rw [h.cell]
  simp [hi]

theorem aw_new (w : World) : Aw w.heap.size (((w.alloc (.cells #[.int .i64 0, .int .i64 10, .int .i64 20] 3)).alloc (.cells #[.int .i64 0, .int .i64 100, .int .i64 50] 3)).alloc (.cells #[.slice (some ⟨w.heap.size, 0, none⟩) 3 3, .slice (some ⟨w.heap.size + 1, 0, none⟩) 3 3] 25)) := by
  have b0 := ((Lk.BoxV.new w 3 #[.int .i64 0, .int .i64 10, .int .i64 20]).alloc (.cells #[.int .i64 0, .int .i64 100, .int .i64 50] 3)).alloc (.cells #[.slice (some ⟨w.heap.size, 0, none⟩) 3 3, .slice (some ⟨w.heap.size + 1, 0, none⟩) 3 3] 25)
  have b1 := (Lk.BoxV.new (w.alloc (.cells #[.int .i64 0, .int .i64 10, .int .i64 20] 3)) 3 #[.int .i64 0, .int .i64 100, .int .i64 50]).alloc (.cells #[.slice (some ⟨w.heap.size, 0, none⟩) 3 3, .slice (some ⟨w.heap.size + 1, 0, none⟩) 3 3] 25)
  have b2 := Lk.BoxV.new ((w.alloc (.cells #[.int .i64 0, .int .i64 10, .int .i64 20] 3)).alloc (.cells #[.int .i64 0, .int .i64 100, .int .i64 50] 3)) 25 #[.slice (some ⟨w.heap.size, 0, none⟩) 3 3, .slice (some ⟨w.heap.size + 1, 0, none⟩) 3 3]
  simp only [World.size_alloc] at b1 b2
  exact ⟨⟨by decide, by decide, ints_new (l := [0, 10, 20]) b0, ints_new (l := [0, 100, 50]) b1⟩, b2⟩

theorem k_check (n : Nat) (W : World) (h : Aw n W) : Calls Try.prog 13 #[.agg #[.slice (some ⟨n, 0, none⟩) 3 3, .slice (some ⟨n + 1, 0, none⟩) 3 3]] W fun e w' => e = .returned (.int .i64 0) ∧ Below W.heap.size W w' := by
  have := check_c _ _ 3 3 _ _ W h.tab
  rwa [show Tb.err [0, 10, 20] [0, 100, 50] = 0 from by decide +kernel] at this
theorem k_rising (n : Nat) (W : World) (h : Aw n W) : Calls Try.prog 15 #[.agg #[.slice (some ⟨n, 0, none⟩) 3 3, .slice (some ⟨n + 1, 0, none⟩) 3 3]] W fun e w' => e = .returned (.bool false) ∧ Below W.heap.size W w' := by
  have := rising_c _ _ 3 3 _ _ W h.tab
  rwa [show Tb.rsB [0, 10, 20] [0, 100, 50] = false from by decide +kernel] at this
theorem k_at (n : Nat) (x v : Int) (hv : Tb.atv [0, 10, 20] [0, 100, 50] x = v) (W : World) (h : Aw n W) : Calls Try.prog 17 #[.agg #[.slice (some ⟨n, 0, none⟩) 3 3, .slice (some ⟨n + 1, 0, none⟩) 3 3], .int .i64 x] W fun e w' => e = .returned (.int .i64 v) ∧ Below W.heap.size W w' := by
  have := atv_c _ _ 3 3 _ _ x W h.tab
  rwa [hv] at this
theorem k_back (n : Nat) (x v : Int) (hv : Tb.bk [0, 10, 20] [0, 100, 50] x = v) (W : World) (h : Aw n W) : Calls Try.prog 23 #[.agg #[.slice (some ⟨n, 0, none⟩) 3 3, .slice (some ⟨n + 1, 0, none⟩) 3 3], .int .i64 x] W fun e w' => e = .returned (.int .i64 v) ∧ Below W.heap.size W w' := by
  have := bk_c _ _ 3 3 _ _ x W h.tab
  rwa [hv] at this
theorem k_peak (n : Nat) (W : World) (h : Aw n W) : Calls Try.prog 19 #[.agg #[.slice (some ⟨n, 0, none⟩) 3 3, .slice (some ⟨n + 1, 0, none⟩) 3 3]] W fun e w' => e = .returned (.int .i64 100) ∧ Below W.heap.size W w' := by
  have := peak_c _ _ 3 3 _ _ W h.tab
  rwa [show Tb.pk [0, 10, 20] [0, 100, 50] = 100 from by decide +kernel] at this
theorem k_steep (n : Nat) (W : World) (h : Aw n W) : Calls Try.prog 21 #[.agg #[.slice (some ⟨n, 0, none⟩) 3 3, .slice (some ⟨n + 1, 0, none⟩) 3 3]] W fun e w' => e = .returned (.int .i64 10) ∧ Below W.heap.size W w' := by
  have := st_c _ _ 3 3 _ _ W h.tab
  rwa [show Tb.st [0, 10, 20] [0, 100, 50] = 10 from by decide +kernel] at this
theorem k_none (W : World) : Calls Try.prog 13 #[.agg #[.slice none 0 0, .slice none 0 0]] W fun e w' => e = .returned (.int .i64 20) ∧ Below W.heap.size W w' := by
  have := check_c none none 0 0 [] [] W ⟨by decide, by decide, fun i hi => by simp at hi, fun i hi => by simp at hi⟩
  rwa [show Tb.err [] [] = 20 from by decide +kernel] at this
theorem k_flat (W : World) : Calls Try.prog 15 #[.agg #[.slice (some ⟨W.heap.size, 0, none⟩) 2 2, .slice (some ⟨W.heap.size + 1, 0, none⟩) 2 2]] ((W.alloc (.cells #[.int .i64 1, .int .i64 2] 3)).alloc (.cells #[.int .i64 5, .int .i64 5] 3)) fun e w' => e = .returned (.bool true) ∧ Below W.heap.size W w' := by
  have b0 := (Lk.BoxV.new W 3 #[.int .i64 1, .int .i64 2]).alloc (.cells #[.int .i64 5, .int .i64 5] 3)
  have b1 := Lk.BoxV.new (W.alloc (.cells #[.int .i64 1, .int .i64 2] 3)) 3 #[.int .i64 5, .int .i64 5]
  simp only [World.size_alloc] at b1
  have := rising_c _ _ 2 2 _ _ _ ⟨by decide, by decide, ints_new (l := [1, 2]) b0, ints_new (l := [5, 5]) b1⟩
  rw [show Tb.rsB [1, 2] [5, 5] = true from by decide +kernel] at this
  exact this.mono fun e w' ⟨he, hb⟩ => ⟨he, (((Below.refl _ W).alloc (Nat.le_refl _) _).alloc (by simp) _).trans (hb.mono (by simp; omega))⟩

set_option maxRecDepth 100000 in
set_option maxHeartbeats 4000000 in
theorem awake_c (w : World) : Calls Try.prog 11 #[] w fun e w' => e = .returned (.bool true) ∧ Below w.heap.size w w' := by
  go_enter Try.func11, Try.ntmps11
  go_wp2_with fail
  have ha := aw_new w
  have hb : Below w.heap.size w (((w.alloc (.cells #[.int .i64 0, .int .i64 10, .int .i64 20] 3)).alloc (.cells #[.int .i64 0, .int .i64 100, .int .i64 50] 3)).alloc (.cells #[.slice (some ⟨w.heap.size, 0, none⟩) 3 3, .slice (some ⟨w.heap.size + 1, 0, none⟩) 3 3] 25)) := (((Below.refl _ _).alloc (Nat.le_refl _) _).alloc (by simp) _).alloc (by simp; omega) _
  have HA := Lib.hid ha
  have HB := Lib.hid hb
  clear ha hb
  refine (k_check _ _ HA.out).mono ?_
  rintro e w0 ⟨rfl, hb⟩
  replace HA := Lib.hid (HA.out.below hb)
  replace HB := Lib.hid (HB.out.trans (hb.mono HB.out.size))
  have c0 := HA.out.c0
  have c1 := HA.out.c1
  clear hb
  go_wp2_with fail
  clear c0 c1
  refine (k_none _).mono ?_
  rintro e w1 ⟨rfl, hb⟩
  replace HA := Lib.hid (HA.out.below hb)
  replace HB := Lib.hid (HB.out.trans (hb.mono HB.out.size))
  have c0 := HA.out.c0
  have c1 := HA.out.c1
  clear hb
  go_wp2_with fail
  clear c0 c1
  refine (k_rising _ _ HA.out).mono ?_
  rintro e w2 ⟨rfl, hb⟩
  replace HA := Lib.hid (HA.out.below hb)
  replace HB := Lib.hid (HB.out.trans (hb.mono HB.out.size))
  have c0 := HA.out.c0
  have c1 := HA.out.c1
  clear hb
  go_wp2_with fail
  clear c0 c1
  refine (k_flat _).mono ?_
  rintro e w3 ⟨rfl, hb⟩
  replace HA := Lib.hid (HA.out.below hb)
  replace HB := Lib.hid (HB.out.trans (hb.mono HB.out.size))
  have c0 := HA.out.c0
  have c1 := HA.out.c1
  clear hb
  go_wp2_with fail
  clear c0 c1
  refine (k_at _ 5 50 (by decide +kernel) _ HA.out).mono ?_
  rintro e w4 ⟨rfl, hb⟩
  replace HA := Lib.hid (HA.out.below hb)
  replace HB := Lib.hid (HB.out.trans (hb.mono HB.out.size))
  have c0 := HA.out.c0
  have c1 := HA.out.c1
  clear hb
  go_wp2_with fail
  clear c0 c1
  refine (k_at _ 13 85 (by decide +kernel) _ HA.out).mono ?_
  rintro e w5 ⟨rfl, hb⟩
  replace HA := Lib.hid (HA.out.below hb)
  replace HB := Lib.hid (HB.out.trans (hb.mono HB.out.size))
  have c0 := HA.out.c0
  have c1 := HA.out.c1
  clear hb
  go_wp2_with fail
  clear c0 c1
  refine (k_at _ (-3) 0 (by decide +kernel) _ HA.out).mono ?_
  rintro e w6 ⟨rfl, hb⟩
  replace HA := Lib.hid (HA.out.below hb)
  replace HB := Lib.hid (HB.out.trans (hb.mono HB.out.size))
  have c0 := HA.out.c0
  have c1 := HA.out.c1
  clear hb
  go_wp2_with fail
  clear c0 c1
  refine (k_at _ 99 50 (by decide +kernel) _ HA.out).mono ?_
  rintro e w7 ⟨rfl, hb⟩
  replace HA := Lib.hid (HA.out.below hb)
  replace HB := Lib.hid (HB.out.trans (hb.mono HB.out.size))
  have c0 := HA.out.c0
  have c1 := HA.out.c1
  clear hb
  go_wp2_with fail
  clear c0 c1
  refine (k_back _ 95 10 (by decide +kernel) _ HA.out).mono ?_
  rintro e w8 ⟨rfl, hb⟩
  replace HA := Lib.hid (HA.out.below hb)
  replace HB := Lib.hid (HB.out.trans (hb.mono HB.out.size))
  have c0 := HA.out.c0
  have c1 := HA.out.c1
  clear hb
  go_wp2_with fail
  clear c0 c1
  refine (k_back _ 101 20 (by decide +kernel) _ HA.out).mono ?_
  rintro e w9 ⟨rfl, hb⟩
  replace HA := Lib.hid (HA.out.below hb)
  replace HB := Lib.hid (HB.out.trans (hb.mono HB.out.size))
  have c0 := HA.out.c0
  have c1 := HA.out.c1
  clear hb
  go_wp2_with fail
  clear c0 c1
  refine (k_peak _ _ HA.out).mono ?_
  rintro e w10 ⟨rfl, hb⟩
  replace HA := Lib.hid (HA.out.below hb)
  replace HB := Lib.hid (HB.out.trans (hb.mono HB.out.size))
  have c0 := HA.out.c0
  have c1 := HA.out.c1
  clear hb
  go_wp2_with fail
  clear c0 c1
  refine (k_steep _ _ HA.out).mono ?_
  rintro e w11 ⟨rfl, hb⟩
  replace HA := Lib.hid (HA.out.below hb)
  replace HB := Lib.hid (HB.out.trans (hb.mono HB.out.size))
  have c0 := HA.out.c0
  have c1 := HA.out.c1
  clear hb
  go_wp2_with fail
  go_ret
  exact ⟨rfl, HB.out⟩

end TabC
end Go.Proofs.Yteipmionpokfkaa
