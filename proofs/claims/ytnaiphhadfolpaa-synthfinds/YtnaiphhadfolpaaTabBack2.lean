/- Contract of table.Back. -/
import Derived.Test.YtnaiphhadfolpaaTabBack
import Derived.Test.YtnaiphhadfolpaaTabSteep
import Derived.Test.YtnaiphhadfolpaaHeldIn
namespace Go.Proofs.Ytnaiphhadfolpaa
namespace TabC
open Go.RowKit Go.Shelf

attribute [local go_sem] Oper.semAt_some

def askK (xs ys : List Int) (y : Int) (k : Nat) : Int → Bool := askB (Tb.g xs k) (Tb.g xs (k + 1)) (Tb.g ys k) (Tb.g ys (k + 1)) y
theorem askK_eq (xs ys : List Int) (y : Int) (k : Nat) (i : Int) : askK xs ys y k i = decide (y ≤ Tb.seg xs ys k (Tb.g xs k + i)) := rfl
def BackPre (xs ys : List Int) (y : Int) (pre : List (Idx xs)) : Prop := ∀ k ∈ pre, Tb.g ys (k.1 + 1) < y
def BackLast (xs ys : List Int) (y : Int) (pre : List (Idx xs)) (v : Int) : Prop := ∃ ini last r, pre = ini ++ [last] ∧ BackPre xs ys y ini ∧ y ≤ Tb.g ys (last.1 + 1) ∧ Found (askK xs ys y last.1) (Tb.g xs (last.1 + 1) - Tb.g xs last.1) r ∧ v = Tb.g xs last.1 + r
theorem BackPre.snoc {xs ys : List Int} {y : Int} {pre : List (Idx xs)} (h : BackPre xs ys y pre) {k : Idx xs} (hk : Tb.g ys (k.1 + 1) < y) : BackPre xs ys y (pre ++ [k]) :=
  fun j hj => (List.mem_append.1 hj).elim (h j) (fun e => by rw [List.mem_singleton.1 e]; exact hk)
theorem bk_all {xs ys : List Int} {y : Int} (ok : Tb.Ok xs ys) (h0 : Tb.g ys 0 < y) (h : BackPre xs ys y (ups xs (xs.length - 1))) : Tb.bkO xs ys y = Tb.g xs (xs.length - 1) := by
  have h2 := ok.two
  refine Tb.bk_none ok (fun j hj => ?_)
  cases j with
  | zero => exact h0
  | succ j => exact h ⟨j, hj⟩ ((mem_ups (by omega)).2 (by simp; omega))
theorem bk_some {xs ys : List Int} {y v : Int} {k : Nat} (ok : Tb.Ok xs ys) (h0 : Tb.g ys 0 < y) (hk : k + 1 < xs.length) (h : BackLast xs ys y (ups xs (k + 1)) v) : Tb.bkO xs ys y = v := by
  obtain ⟨ini, last, r, e, h1, h2, ⟨f0, f1, f2, f3⟩, rfl⟩ := h
  rw [ups_succ hk] at e
  obtain ⟨rfl, e2⟩ := List.append_inj' e rfl
  obtain rfl : (⟨k, hk⟩ : Idx xs) = last := by simpa using e2
  have hu := ok.up k hk
  have hy : ∀ j, j ≤ k → Tb.g ys j < y := fun j hj => by
    cases j with
    | zero => exact h0
    | succ j => exact h1 ⟨j, by omega⟩ ((mem_ups (by omega)).2 hj)
  simp only [askK_eq] at f1 f2 f3
  have r0 : 0 < r := by
    rcases Int.lt_or_le 0 r with c | c
    · exact c
    · obtain rfl : r = 0 := by omega
      have := f3 (by omega)
      rw [Int.add_zero, Tb.seg_lo] at this
      have := of_decide_eq_true this
      have := hy k (Nat.le_refl _)
      omega
  have a1 := of_decide_eq_false (f2 r0)
  refine Tb.bk_seg ok hk hy h2 (by simp; omega) (by simp; omega) (by rw [show Tb.g xs k + r - 1 = Tb.g xs k + (r - 1) from by omega]; omega) ?_
  rcases Int.lt_or_le r (Tb.g xs (k + 1) - Tb.g xs k) with c | c
  · exact of_decide_eq_true (f3 c)
  · obtain rfl : r = Tb.g xs (k + 1) - Tb.g xs k := by omega
    rw [show Tb.g xs k + (Tb.g xs (k + 1) - Tb.g xs k) = Tb.g xs (k + 1) from by omega, Tb.seg_hi ok hk]
    exact h2

set_option maxRecDepth 100000 in
set_option maxHeartbeats 4000000 in
theorem back_no (A B : Option Addr) (ca cb : Nat) (xs ys : List Int) (x : Int) (w : World) (hT : TabIn w A B xs ys) (h : Tb.okB xs ys = false) :
    Calls Try.prog 37 #[.agg #[.slice A xs.length ca, .slice B ys.length cb], .int .i64 x] w fun e w' => e = .returned (.int .i64 0) ∧ Below w.heap.size w w' := by
  have HT := Lib.hid hT
  have HO := Lib.hid h
  have hfn : ∀ f, Fence.wide.fn f := fun _ => trivial
  clear hT h
  refine (callsIn_wide (n := 9)).1 ?_
  refine callsIn_of_wp_marks Try.func37 rfl trivial ?_ rfl
  simp only [Try.ntmps37, List.size_toArray, List.length_cons, List.length_nil, Nat.reduceAdd, Nat.reduceSub, Array.replicate_succ, Array.replicate_zero, List.push_toArray, List.append_toArray, List.nil_append, List.cons_append]
  gi_wp2_with fail
  refine (callsIn_wide.2 (check_no A B ca cb xs ys _ (((HT.out.alloc _).alloc _).alloc _) HO.out)).mono ?_
  rintro e w1 ⟨rfl, hb⟩
  have hb2 : Below w.heap.size w w1 := ((((Below.refl _ _).alloc (Nat.le_refl _) _).alloc (by simp) _).alloc (by simp; omega) _).trans (hb.mono (by simp; omega))
  have bR := (Lk.BoxV.new ((w.alloc (.cells #[.slice A xs.length ca, .slice B ys.length cb] 25)).alloc (.cells #[.int .i64 x] 3)) 3 #[.int .i64 0]).below hb (by simp)
  simp only [World.size_alloc] at bR
  have r0 := bR.cell 0
  simp only [List.getElem?_toArray, List.getElem?_cons_zero] at r0
  have r1 := bR.frozen 0
  have HB2 := Lib.hid hb2
  have HR := Lib.hid (bR.set (.int .i64 0))
  clear hb hb2 bR
  gi_wp2_with fail
  have c5 := HR.out.cell 0
  simp only [List.getElem?_toArray, List.getElem?_cons_zero] at c5
  exact ⟨.int .i64 0, by simp [results, Try.f37, go_sem, c5], rfl, HB2.out.setCell (p := ⟨w.heap.size + 1 + 1, 0, none⟩) (by simp; omega) _⟩

set_option maxRecDepth 100000 in
set_option maxHeartbeats 4000000 in
theorem back_ok (A B : Option Addr) (ca cb : Nat) (xs ys : List Int) (y : Int) (w : World) (hT : TabIn w A B xs ys) (h : Tb.okB xs ys = true) :
    Calls Try.prog 37 #[.agg #[.slice A xs.length ca, .slice B ys.length cb], .int .i64 y] w fun e w' => e = .returned (.int .i64 (Tb.bkO xs ys y)) ∧ Below w.heap.size w w' := by
  have HT := Lib.hid hT
  have HO := Lib.hid h
  have HK0 := Lib.hid ((Tb.ok_iff xs ys).1 h)
  have h2 := HK0.out.two
  have h16 := HK0.out.most
  have HSM := Lib.hid HK0.out.same
  have hyl : 0 < ys.length := by rw [HSM.out]; omega
  have hxl : 0 < xs.length := by omega
  have hfn : ∀ f, Fence.wide.fn f := fun _ => trivial
  clear hT h
  refine (callsIn_wide (n := 9)).1 ?_
  refine callsIn_of_wp_marks Try.func37 rfl trivial ?_ rfl
  simp only [Try.ntmps37, List.size_toArray, List.length_cons, List.length_nil, Nat.reduceAdd, Nat.reduceSub, Array.replicate_succ, Array.replicate_zero, List.push_toArray, List.append_toArray, List.nil_append, List.cons_append]
  gi_wp2_with fail
  refine (callsIn_wide.2 (check_ok A B ca cb xs ys _ (((HT.out.alloc _).alloc _).alloc _) HO.out)).mono ?_
  rintro e w1 ⟨rfl, hb⟩
  have hb2 : Below w.heap.size w w1 := ((((Below.refl _ _).alloc (Nat.le_refl _) _).alloc (by simp) _).alloc (by simp; omega) _).trans (hb.mono (by simp; omega))
  have hz := hb.size
  simp only [World.size_alloc] at hz
  have bR := (Lk.BoxV.new ((w.alloc (.cells #[.slice A xs.length ca, .slice B ys.length cb] 25)).alloc (.cells #[.int .i64 y] 3)) 3 #[.int .i64 0]).below hb (by simp)
  have bT := (((Lk.BoxV.new w 25 #[.slice A xs.length ca, .slice B ys.length cb]).alloc (.cells #[.int .i64 y] 3)).alloc (.cells #[.int .i64 0] 3)).below hb (by simp; omega)
  have bX := ((Lk.BoxV.new (w.alloc (.cells #[.slice A xs.length ca, .slice B ys.length cb] 25)) 3 #[.int .i64 y]).alloc (.cells #[.int .i64 0] 3)).below hb (by simp)
  simp only [World.size_alloc] at bR bX
  have t0 := bT.cell 0
  have t1 := bT.cell 1
  have x0 := bX.cell 0
  have r0 := bR.cell 0
  simp only [List.getElem?_toArray, List.getElem?_cons_zero, List.getElem?_cons_succ] at t0 t1 x0 r0
  have r1 := bR.frozen 0
  obtain ⟨b1, o1, rfl, hb1, c1⟩ := (HT.out.box hb2 bT).xa 0 hxl
  obtain ⟨b3, o3, rfl, hb3, c3⟩ := (HT.out.box hb2 bT).ya 0 hyl
  rw [Nat.add_zero] at c1 c3
  clear hb
  gi_wp2_with fail
  refine Lk.wpIn_region_tail 5 (Lk.open_wide _ _) (by kernel_rfl) (by kernel_rfl) (by kernel_rfl) ?_
  simp only [List.take_succ_cons, List.take_zero, List.drop_succ_cons, List.drop_zero]
  repeat still_step
  refine wpStill_nil ?_
  by_cases hy0 : y ≤ Tb.g ys 0
  · have E := Lib.hid (Tb.bk_first HK0.out hy0)
    have HR := Lib.hid (bR.set (.int .i64 (Tb.g xs 0)))
    have HB2 := Lib.hid (hb2.setCell (p := ⟨w.heap.size + 1 + 1, 0, none⟩) (by simp; omega) (.int .i64 (Tb.g xs 0)))
    gi_wp2_with fail
    have c5 := HR.out.drew.cell 0
    simp only [List.getElem?_toArray, List.getElem?_cons_zero] at c5
    exact ⟨.int .i64 (Tb.g xs 0), by simp [results, Try.f37, go_sem, c5], ret_int E.out.symm, HB2.out.drew⟩
  · have hd0 : decide (y ≤ Tb.g ys 0) = false := by simpa using hy0
    have HY0 : Hid (Tb.g ys 0 < y) := by show _ < _; omega
    gi_wp2_with fail
    refine (callsIn_wide.2 (steps_c _ _ _ _ _ _ _)).mono ?_
    rintro e w' ⟨rfl, rfl⟩
    gi_wp2_with fail
    have bS := (Lk.BoxV.new w1 25 #[.slice (some ⟨b1, o1, none⟩) xs.length ca, .slice (some ⟨b3, o3, none⟩) ys.length cb]).drew
    have hB0 := (hb2.alloc hb2.size (.cells #[.slice (some ⟨b1, o1, none⟩) xs.length ca, .slice (some ⟨b3, o3, none⟩) ys.length cb] 25)).drew
    replace bR := (bR.alloc (.cells #[.slice (some ⟨b1, o1, none⟩) xs.length ca, .slice (some ⟨b3, o3, none⟩) ys.length cb] 25)).drew
    replace bT := (bT.alloc (.cells #[.slice (some ⟨b1, o1, none⟩) xs.length ca, .slice (some ⟨b3, o3, none⟩) ys.length cb] 25)).drew
    replace bX := (bX.alloc (.cells #[.slice (some ⟨b1, o1, none⟩) xs.length ca, .slice (some ⟨b3, o3, none⟩) ys.length cb] 25)).drew
    have hsz : (w1.alloc (.cells #[.slice (some ⟨b1, o1, none⟩) xs.length ca, .slice (some ⟨b3, o3, none⟩) ys.length cb] 25)).drew.heap.size = w1.heap.size + 1 := by simp
    generalize (w1.alloc (.cells #[.slice (some ⟨b1, o1, none⟩) xs.length ca, .slice (some ⟨b3, o3, none⟩) ys.length cb] 25)).drew = W0 at bR bT bX bS hB0 hsz ⊢
    clear hb2 t0 t1 x0 r0 r1 c1 c3 hd0 hy0
    refine Lk.rangeH (by omega) (gf := 46) (lb := #[.pointer (some ⟨w1.heap.size, 0, none⟩)]) rfl (enters_of Try.func46 (by kernel_rfl) rfl)
      (steps_stops 8 w.heap.size w1.heap.size _ _ ca cb xs ys h2 (by omega) HSM.out W0 (by omega) (by omega) (HT.out.box hB0 bS)) KpT.trans (kpT_b (by omega) (by omega)) (fun _ => rfl)
      (fun pre W => (BackPre xs ys y pre ∧ Lk.BoxV W (w.heap.size + 1 + 1) 3 #[.int .i64 0]) ∧ (Lk.BoxV W w.heap.size 25 #[.slice (some ⟨b1, o1, none⟩) xs.length ca, .slice (some ⟨b3, o3, none⟩) ys.length cb] ∧ Lk.BoxV W (w.heap.size + 1) 3 #[.int .i64 y]) ∧ (Below w.heap.size w W ∧ w1.heap.size + 1 ≤ W.heap.size))
      (fun c pre W => (c = .ret ∧ ∃ v, BackLast xs ys y pre v ∧ Lk.BoxV W (w.heap.size + 1 + 1) 3 #[.int .i64 v]) ∧ Below w.heap.size w W)
      (OwnFrom.and (OwnFrom.and (Lk.ownFrom_pure _ _) (Own.from (Lk.boxV_own _ _ _) _)) (OwnFrom.and (OwnFrom.and (Own.from (Lk.boxV_own _ _ _) _) (Own.from (Lk.boxV_own _ _ _) _)) (OwnFrom.and (ownFrom_below (Nat.le_refl _) (by omega)) (Lk.ownFrom_size _ _))))
      (fun c => OwnFrom.and (fun s X Y row hs hg hr => by obtain ⟨e, v, h1, h2⟩ := hs; exact ⟨e, v, h1, h2.kept hg (fun r e => (hr r e).2)⟩) (ownFrom_below (Nat.le_refl _) (by omega)))
      ⟨⟨(fun k hk => by cases hk), bR⟩, ⟨bT, bX⟩, hB0, by omega⟩
      (w1.heap.size + 1) 63 21 5 (fun k => stepOf xs ys k.1) (fun k => #[.int .i64 (Tb.g xs k.1), .int .i64 (Tb.g xs (k.1 + 1)), .int .i64 (Tb.g ys k.1), .int .i64 (Tb.g ys (k.1 + 1))]) ?assign ?body ?done ?stop
    case assign =>
      rintro l pre k W K ⟨⟨hp, bR1⟩, ⟨bT1, bX1⟩, hB1, hsW⟩ hK
      have HK := Lib.hid hK
      have HP := Lib.hid hp
      clear hK hp
      simp only [encS, stepOf]
      gi_wp2
      exact HK.out _ _ ((KeepsOthers.alloc _ _).from _) ⟨(Below.refl _ W).alloc hB1.size _, Below.heap_alloc _ _ _ (by omega)⟩ ⟨⟨HP.out, bR1.alloc _⟩, ⟨bT1.alloc _, bX1.alloc _⟩, hB1.alloc hB1.size _, by simp; omega⟩ ⟨W.heap.size, hsW, Lk.BoxV.new W _ _, rfl⟩
    case body =>
      rintro l pre k Bx W hBx bK ⟨⟨hp, bR1⟩, ⟨bT1, bX1⟩, hB1, hsW⟩ hlt
      have HP := Lib.hid hp
      clear hp
      have f0 := bK.cell 0
      have f1 := bK.cell 1
      have f3 := bK.cell 3
      have x0 := bX1.cell 0
      simp only [List.getElem?_toArray, List.getElem?_cons_zero, List.getElem?_cons_succ] at f0 f1 f3 x0
      have k2 := k.2
      have xb0 := HK0.out.xb k.1 (by omega)
      have xb1 := HK0.out.xb (k.1 + 1) k2
      have yb0 := HK0.out.yb k.1 (by omega)
      have yb1 := HK0.out.yb (k.1 + 1) k2
      have hup := HK0.out.up k.1 k2
      simp only [stepOf, List.setIfInBounds_toArray, List.set_cons_succ, List.set_cons_zero]
      by_cases hc : y ≤ Tb.g ys (k.1 + 1)
      · have w5 : IntKind.i64.wrap (Tb.g xs (k.1 + 1) - Tb.g xs k.1) = Tb.g xs (k.1 + 1) - Tb.g xs k.1 := IntWalk.i64_in _ (by omega)
        gi_wp2_with fail
        refine Lk.wpIn_region_held 8 (fun w' => w'.cell? ⟨Bx, 0, none⟩ = some (.int .i64 (Tb.g xs k.1)) ∧ w'.cell? ⟨Bx, 1, none⟩ = some (.int .i64 (Tb.g xs (k.1 + 1)))) (Lk.open_round _ _ _) (by kernel_rfl) (by kernel_rfl) (by kernel_rfl) (fun _ _ _ _ _ h => h) ⟨f0, f1⟩ ?_
        simp only [List.take_succ_cons, List.take_zero, List.drop_succ_cons, List.drop_zero]
        refine Lk.wpHeld_step (.pointer (some ⟨Bx, 0, none⟩)) rfl (fun w hS => by obtain ⟨h0, h1⟩ := hS; go_simp) ?_
        simp only [Act.put, List.setIfInBounds_toArray, List.set_cons_succ, List.set_cons_zero]
        refine Lk.wpHeld_step (.int .i64 (Tb.g xs k.1)) rfl (fun w hS => by obtain ⟨h0, h1⟩ := hS; go_simp) ?_
        simp only [Act.put, List.setIfInBounds_toArray, List.set_cons_succ, List.set_cons_zero]
        refine Lk.wpHeld_step (.pointer (some ⟨Bx, 1, none⟩)) rfl (fun w hS => by obtain ⟨h0, h1⟩ := hS; go_simp) ?_
        simp only [Act.put, List.setIfInBounds_toArray, List.set_cons_succ, List.set_cons_zero]
        refine Lk.wpHeld_step (.int .i64 (Tb.g xs (k.1 + 1))) rfl (fun w hS => by obtain ⟨h0, h1⟩ := hS; go_simp) ?_
        simp only [Act.put, List.setIfInBounds_toArray, List.set_cons_succ, List.set_cons_zero]
        refine Lk.wpHeld_step (.pointer (some ⟨Bx, 0, none⟩)) rfl (fun w hS => by obtain ⟨h0, h1⟩ := hS; go_simp) ?_
        simp only [Act.put, List.setIfInBounds_toArray, List.set_cons_succ, List.set_cons_zero]
        refine Lk.wpHeld_step (.int .i64 (Tb.g xs k.1)) rfl (fun w hS => by obtain ⟨h0, h1⟩ := hS; go_simp) ?_
        simp only [Act.put, List.setIfInBounds_toArray, List.set_cons_succ, List.set_cons_zero]
        refine Lk.wpHeld_step (.int .i64 (Tb.g xs (k.1 + 1) - Tb.g xs k.1)) rfl (fun w hS => by obtain ⟨h0, h1⟩ := hS; go_simp) ?_
        simp only [Act.put, List.setIfInBounds_toArray, List.set_cons_succ, List.set_cons_zero]
        refine Lk.wpHeld_step (.func (.func 44) #[] #[.pointer (some ⟨Bx, 0, none⟩), .pointer (some ⟨w.heap.size + 1, 0, none⟩)]) rfl (fun w hS => by obtain ⟨h0, h1⟩ := hS; go_simp) ?_
        simp only [Act.put, List.setIfInBounds_toArray, List.set_cons_succ, List.set_cons_zero]
        show Lk.wpListH _ _ _ _ _ _ _ _ _
        refine Lk.wpListH_step (fun K hK => ?_)
        have HKK := Lib.hid hK
        clear hK
        go_simp
        refine (CallsIn.inRound l (callsIn_wide.2 (search_c _ _ _ _ y Bx (w.heap.size + 1) _ xb0.1 xb0.2 xb1.1 xb1.2 yb0.1 yb0.2 yb1.1 yb1.2 hup bK.drew bX1.drew))).mono ?_
        rintro e w2 ⟨r, hr, rfl, hb5⟩
        have hb4 : Below W.heap.size W w2 := (Below.refl W.heap.size W).drew.trans hb5
        have hr0 := hr.1
        have hr1 := hr.2.1
        have HBL : Hid (BackLast xs ys y (pre ++ [k]) (Tb.g xs k.1 + r)) := ⟨pre, k, r, rfl, HP.out, hc, hr, rfl⟩
        have bK2 := bK.below hb4 bK.lt
        have bR2 := bR1.below hb4 bR1.lt
        have HKO := Lib.hid (Lk.keeps_of_below hb4)
        have hB2 := hB1.trans (hb4.mono hB1.size)
        have g0 := bK2.cell 0
        have g1 := bK2.cell 1
        have s0 := bR2.cell 0
        simp only [List.getElem?_toArray, List.getElem?_cons_zero, List.getElem?_cons_succ] at g0 g1 s0
        have s1 := bR2.frozen 0
        have w6 : IntKind.i64.wrap (Tb.g xs k.1 + r) = Tb.g xs k.1 + r := IntWalk.i64_in _ (by omega)
        have bK3 := Lib.hid (bK2.other (p := ⟨w.heap.size + 1 + 1, 0, none⟩) (by simp; omega) (.int .i64 (Tb.g xs k.1 + r)))
        clear hb4 hb5 hr f0 f1 f3 x0
        refine HKK.out _ _ ⟨g0, g1⟩ ?_
        clear HKK K
        refine Lk.wpListH_step (fun K hK => ?_)
        have HKK := Lib.hid hK
        clear hK
        go_simp
        refine HKK.out _ _ ⟨g0, g1⟩ ?_
        clear HKK K
        refine Lk.wpListH_step (fun K hK => ?_)
        have HKK := Lib.hid hK
        clear hK
        go_simp
        refine HKK.out _ _ ⟨bK3.out.cell 0, bK3.out.cell 1⟩ ?_
        clear HKK K
        refine Lk.wpListH_nil ?_
        gi_wp2_with fail
        exact ⟨(HKO.out.trans (KeepsOthers.setCell _ _ _)).from _, ⟨rfl, _, HBL.out, bR2.set _⟩, hB2.setCell (p := ⟨w.heap.size + 1 + 1, 0, none⟩) (by simp; omega) _⟩
      · gi_wp2_with fail
        exact ⟨KeepsFrom.refl _ _, KpT.refl _ _ _, ⟨⟨HP.out.snoc (by omega), bR1⟩, ⟨bT1, bX1⟩, hB1, hsW⟩⟩
    case done =>
      rintro D zs W hD rfl ⟨⟨hp, bR1⟩, ⟨bT1, bX1⟩, hB1, hsW⟩ hK
      have E := Lib.hid (bk_all HK0.out HY0.out hp)
      clear hp
      have r0 := bR1.cell 0
      have t0 := bT1.cell 0
      simp only [List.getElem?_toArray, List.getElem?_cons_zero] at r0 t0
      have r1 := bR1.frozen 0
      obtain ⟨b9, o9, e9, hbl, hy⟩ := (HT.out.box hB1 bT1).xa (xs.length - 1) (by omega)
      simp only [Option.some.injEq, Addr.mk.injEq, and_true] at e9
      obtain ⟨rfl, rfl⟩ := e9
      have e1 : (xs.length : Int) - 1 < (xs.length : Int) := by omega
      have e2 : 0 ≤ (xs.length : Int) - 1 := by omega
      have e3 : ((xs.length : Int) - 1).toNat = xs.length - 1 := by omega
      have HK1 := Lib.hid hK
      clear hK
      gi_wp2_with fail
      have hK' := (KeepsOthers.setCell W ⟨w.heap.size + 1 + 1, 0, none⟩ (.int .i64 (Tb.g xs (xs.length - 1)))).same D _ HK1.out rfl
      refine ⟨by simp, .inl ⟨_, _, rfl, run_takeDeferred hK', ?_⟩⟩
      have c5 := ((bR1.set (.int .i64 (Tb.g xs (xs.length - 1)))).put (.deferred none) hK' rfl).cell 0
      simp only [List.getElem?_toArray, List.getElem?_cons_zero] at c5
      refine ⟨.int .i64 (Tb.g xs (xs.length - 1)), ?_, ret_int E.out.symm, (hB1.setCell (p := ⟨w.heap.size + 1 + 1, 0, none⟩) (by simp; omega) _).trans (belowK_b (w := w) (Nat.le_refl _) _ D _ _ (by omega) hK' rfl rfl)⟩
      simp [results, Try.f37, go_sem, c5]
    case stop =>
      rintro D c pre W hD ⟨k, hk, rfl⟩ ⟨⟨rfl, v, hv, bR1⟩, hB1⟩ hK
      have E := Lib.hid (bk_some HK0.out HY0.out hk hv)
      clear hv
      gi_wp2
      refine ⟨by simp, .inl ⟨_, _, rfl, run_takeDeferred hK, ?_⟩⟩
      have c5 := (bR1.put (.deferred none) hK rfl).cell 0
      simp only [List.getElem?_toArray, List.getElem?_cons_zero] at c5
      refine ⟨.int .i64 v, ?_, ret_int E.out.symm, hB1.trans (belowK_b (w := w) (Nat.le_refl _) W D _ _ (by omega) hK rfl rfl)⟩
      simp [results, Try.f37, go_sem, c5]

/-- **Back**, of any two lists. -/
theorem bk_c (A B : Option Addr) (ca cb : Nat) (xs ys : List Int) (y : Int) (w : World) (hT : TabIn w A B xs ys) :
    Calls Try.prog 37 #[.agg #[.slice A xs.length ca, .slice B ys.length cb], .int .i64 y] w fun e w' => e = .returned (.int .i64 (Tb.bk xs ys y)) ∧ Below w.heap.size w w' := by
  cases h : Tb.okB xs ys with
  | true => have := back_ok A B ca cb xs ys y w hT h; rwa [show Tb.bk xs ys y = Tb.bkO xs ys y from by simp [Tb.bk, h]]
  | false => have := back_no A B ca cb xs ys y w hT h; rwa [show Tb.bk xs ys y = 0 from by simp [Tb.bk, h]]

end TabC
end Go.Proofs.Ytnaiphhadfolpaa
