/- Contract of table.At. -/
import Derived.Test.YtioiffhbbhlgeaaTabAt
namespace Go.Proofs.Ytioiffhbbhlgeaa
namespace TabC
open Go.RowKit Go.Shelf

attribute [local go_sem] Oper.semAt_some

set_option maxRecDepth 100000 in
set_option maxHeartbeats 4000000 in
theorem at_no (A B : Option Addr) (ca cb : Nat) (xs ys : List Int) (x : Int) (w : World) (hT : TabIn w A B xs ys) (h : Tb.okB xs ys = false) :
    Calls Try.prog 20 #[.agg #[.slice A xs.length ca, .slice B ys.length cb], .int .i64 x] w fun e w' => e = .returned (.int .i64 0) ∧ Below w.heap.size w w' := by
  have HT := Lib.hid hT
  have HO := Lib.hid h
  have hfn : ∀ f, Fence.wide.fn f := fun _ => trivial
  clear hT h
  refine (callsIn_wide (n := 9)).1 ?_
  refine callsIn_of_wp_marks Try.func20 rfl trivial ?_ rfl
  simp only [Try.ntmps20, List.size_toArray, List.length_cons, List.length_nil, Nat.reduceAdd, Nat.reduceSub, Array.replicate_succ, Array.replicate_zero, List.push_toArray, List.append_toArray, List.nil_append, List.cons_append]
  gi_wp2_with fail
  refine (callsIn_wide.2 (check_no A B ca cb xs ys _ (((HT.out.alloc _).alloc _).alloc _) HO.out)).mono ?_
  rintro e w1 ⟨rfl, hb⟩
  have hb2 : Below w.heap.size w w1 := ((((Below.refl _ _).alloc (Nat.le_refl _) _).alloc (by simp) _).alloc (by simp; omega) _).trans (hb.mono (by simp; omega))
  have bR := (Lk.BoxV.new ((w.alloc (.cells #[.slice A xs.length ca, .slice B ys.length cb] 24)).alloc (.cells #[.int .i64 x] 3)) 3 #[.int .i64 0]).below hb (by simp)
  simp only [World.size_alloc] at bR
  have r0 := bR.cell 0
  simp only [List.getElem?_toArray, List.getElem?_cons_zero] at r0
  have r1 := bR.frozen 0
  have HB2 := Lib.hid hb2
  have HR := Lib.hid (bR.set (.int .i64 0))
  clear hb hb2 bR
  gi_wp2_with fail
  have c5 := HR.out.cell 0
  simp only [List.getElem?_toArray, List.getElem?_cons_zero] at c5
  exact ⟨.int .i64 0, by simp [results, Try.f20, go_sem, c5], rfl, HB2.out.setCell (p := ⟨w.heap.size + 1 + 1, 0, none⟩) (by simp; omega) _⟩

set_option maxRecDepth 100000 in
set_option maxHeartbeats 4000000 in
theorem at_ok (A B : Option Addr) (ca cb : Nat) (xs ys : List Int) (x : Int) (w : World) (hT : TabIn w A B xs ys) (h : Tb.okB xs ys = true) :
    Calls Try.prog 20 #[.agg #[.slice A xs.length ca, .slice B ys.length cb], .int .i64 x] w fun e w' => e = .returned (.int .i64 (Tb.atO xs ys x)) ∧ Below w.heap.size w w' := by
  have HT := Lib.hid hT
  have HO := Lib.hid h
  have HK0 := Lib.hid ((Tb.ok_iff xs ys).1 h)
  have h2 := HK0.out.two
  have h16 := HK0.out.most
  have HSM := Lib.hid HK0.out.same
  have hfn : ∀ f, Fence.wide.fn f := fun _ => trivial
  clear hT h
  refine (callsIn_wide (n := 9)).1 ?_
  refine callsIn_of_wp_marks Try.func20 rfl trivial ?_ rfl
  simp only [Try.ntmps20, List.size_toArray, List.length_cons, List.length_nil, Nat.reduceAdd, Nat.reduceSub, Array.replicate_succ, Array.replicate_zero, List.push_toArray, List.append_toArray, List.nil_append, List.cons_append]
  gi_wp2_with fail
  refine (callsIn_wide.2 (check_ok A B ca cb xs ys _ (((HT.out.alloc _).alloc _).alloc _) HO.out)).mono ?_
  rintro e w1 ⟨rfl, hb⟩
  have hb2 : Below w.heap.size w w1 := ((((Below.refl _ _).alloc (Nat.le_refl _) _).alloc (by simp) _).alloc (by simp; omega) _).trans (hb.mono (by simp; omega))
  have hz := hb.size
  simp only [World.size_alloc] at hz
  have bR := (Lk.BoxV.new ((w.alloc (.cells #[.slice A xs.length ca, .slice B ys.length cb] 24)).alloc (.cells #[.int .i64 x] 3)) 3 #[.int .i64 0]).below hb (by simp)
  have bT := (((Lk.BoxV.new w 24 #[.slice A xs.length ca, .slice B ys.length cb]).alloc (.cells #[.int .i64 x] 3)).alloc (.cells #[.int .i64 0] 3)).below hb (by simp; omega)
  have bX := ((Lk.BoxV.new (w.alloc (.cells #[.slice A xs.length ca, .slice B ys.length cb] 24)) 3 #[.int .i64 x]).alloc (.cells #[.int .i64 0] 3)).below hb (by simp)
  simp only [World.size_alloc] at bR bX
  have t0 := bT.cell 0
  have t1 := bT.cell 1
  simp only [List.getElem?_toArray, List.getElem?_cons_zero, List.getElem?_cons_succ] at t0 t1
  clear hb
  gi_wp2_with fail
  refine (callsIn_wide.2 (steps_c _ _ _ _ _ _ _)).mono ?_
  rintro e w' ⟨rfl, rfl⟩
  gi_wp2_with fail
  have bS := Lk.BoxV.new w1 24 #[.slice A xs.length ca, .slice B ys.length cb]
  have hB0 := hb2.alloc hb2.size (.cells #[.slice A xs.length ca, .slice B ys.length cb] 24)
  replace bR := bR.alloc (.cells #[.slice A xs.length ca, .slice B ys.length cb] 24)
  replace bT := bT.alloc (.cells #[.slice A xs.length ca, .slice B ys.length cb] 24)
  replace bX := bX.alloc (.cells #[.slice A xs.length ca, .slice B ys.length cb] 24)
  have hsz : (w1.alloc (.cells #[.slice A xs.length ca, .slice B ys.length cb] 24)).heap.size = w1.heap.size + 1 := by simp
  generalize w1.alloc (.cells #[.slice A xs.length ca, .slice B ys.length cb] 24) = W0 at bR bT bX bS hB0 hsz ⊢
  clear hb2 t0 t1
  refine Lk.rangeH (by omega) (gf := 69) (lb := #[.pointer (some ⟨w1.heap.size, 0, none⟩)]) rfl (enters_of Try.func69 (by kernel_rfl) rfl)
    (steps_stops 8 w.heap.size w1.heap.size A B ca cb xs ys h2 (by omega) HSM.out W0 (by omega) (by omega) (HT.out.box hB0 bS)) KpT.trans (kpT_b (by omega) (by omega)) (fun _ => rfl)
    (fun pre W => (AtPre xs x pre ∧ Lk.BoxV W (w.heap.size + 1 + 1) 3 #[.int .i64 0]) ∧ (Lk.BoxV W w.heap.size 24 #[.slice A xs.length ca, .slice B ys.length cb] ∧ Lk.BoxV W (w.heap.size + 1) 3 #[.int .i64 x]) ∧ (Below w.heap.size w W ∧ w1.heap.size + 1 ≤ W.heap.size))
    (fun c pre W => (c = .ret ∧ ∃ v, AtLast xs ys x pre v ∧ Lk.BoxV W (w.heap.size + 1 + 1) 3 #[.int .i64 v]) ∧ Below w.heap.size w W)
    (OwnFrom.and (OwnFrom.and (Lk.ownFrom_pure _ _) (Own.from (Lk.boxV_own _ _ _) _)) (OwnFrom.and (OwnFrom.and (Own.from (Lk.boxV_own _ _ _) _) (Own.from (Lk.boxV_own _ _ _) _)) (OwnFrom.and (ownFrom_below (Nat.le_refl _) (by omega)) (Lk.ownFrom_size _ _))))
    (fun c => OwnFrom.and (fun s X Y row hs hg hr => by obtain ⟨e, v, h1, h2⟩ := hs; exact ⟨e, v, h1, h2.kept hg (fun r e => (hr r e).2)⟩) (ownFrom_below (Nat.le_refl _) (by omega)))
    ⟨⟨(fun k hk => by cases hk), bR⟩, ⟨bT, bX⟩, hB0, by omega⟩
    (w1.heap.size + 1) 76 11 5 (fun k => stepOf xs ys k.1) (fun k => #[.int .i64 (Tb.g xs k.1), .int .i64 (Tb.g xs (k.1 + 1)), .int .i64 (Tb.g ys k.1), .int .i64 (Tb.g ys (k.1 + 1))]) ?assign ?body ?done ?stop
  case assign =>
    rintro l pre k W K ⟨⟨hp, bR1⟩, ⟨bT1, bX1⟩, hB1, hsW⟩ hK
    have HK := Lib.hid hK
    have HP := Lib.hid hp
    clear hK hp
    simp only [encS, stepOf]
    gi_wp2
    exact HK.out _ _ ((KeepsOthers.alloc _ _).from _) ⟨(Below.refl _ W).alloc hB1.size _, Below.heap_alloc _ _ _ (by omega)⟩ ⟨⟨HP.out, bR1.alloc _⟩, ⟨bT1.alloc _, bX1.alloc _⟩, hB1.alloc hB1.size _, by simp; omega⟩ ⟨W.heap.size, hsW, Lk.BoxV.new W _ _, rfl⟩
  case body =>
    rintro l pre k Bx W hBx bK ⟨⟨hp, bR1⟩, ⟨bT1, bX1⟩, hB1, hsW⟩ hlt
    have HP := Lib.hid hp
    clear hp
    have f0 := bK.cell 0
    have f1 := bK.cell 1
    have f2 := bK.cell 2
    have f3 := bK.cell 3
    have r0 := bR1.cell 0
    have x0 := bX1.cell 0
    simp only [List.getElem?_toArray, List.getElem?_cons_zero, List.getElem?_cons_succ] at f0 f1 f2 f3 r0 x0
    have r1 := bR1.frozen 0
    have k2 := k.2
    have xb0 := HK0.out.xb k.1 (by omega)
    have xb1 := HK0.out.xb (k.1 + 1) k2
    have yb0 := HK0.out.yb k.1 (by omega)
    have yb1 := HK0.out.yb (k.1 + 1) k2
    have hup := HK0.out.up k.1 k2
    simp only [stepOf, List.setIfInBounds_toArray, List.set_cons_succ, List.set_cons_zero]
    by_cases hc : x < Tb.g xs (k.1 + 1)
    · have AL : Hid (AtLast xs ys x (pre ++ [k]) (Tb.seg xs ys k.1 (max x (Tb.g xs k.1)))) := ⟨pre, k, rfl, HP.out, hc, rfl⟩
      by_cases hm : x < Tb.g xs k.1
      · rw [Int.max_eq_right (by omega), Tb.seg_lo] at AL
        gi_wp2_with fail
        refine (CallsIn.inRound l (callsIn_wide.2 (at_c _ _ _ _ _ _ xb0.1 xb0.2 xb1.1 xb1.2 yb0.1 yb0.2 yb1.1 yb1.2 hup (by omega) (by omega)))).mono ?_
        rintro e w2 ⟨rfl, hb3⟩
        have bR2 := bR1.below hb3 bR1.lt
        have s0 := bR2.cell 0
        simp only [List.getElem?_toArray, List.getElem?_cons_zero] at s0
        have s1 := bR2.frozen 0
        have hB2 := hB1.trans (hb3.mono hB1.size)
        have HKO := Lib.hid (Lk.keeps_of_below hb3)
        clear hb3
        gi_wp2_with fail
        exact ⟨(HKO.out.trans (KeepsOthers.setCell _ _ _)).from _, ⟨rfl, _, AL.out, bR2.set _⟩, hB2.setCell (p := ⟨w.heap.size + 1 + 1, 0, none⟩) (by simp; omega) _⟩
      · rw [Int.max_eq_left (by omega)] at AL
        gi_wp2_with fail
        refine (CallsIn.inRound l (callsIn_wide.2 (at_c _ _ _ _ _ _ xb0.1 xb0.2 xb1.1 xb1.2 yb0.1 yb0.2 yb1.1 yb1.2 hup (by omega) (by omega)))).mono ?_
        rintro e w2 ⟨rfl, hb3⟩
        have bR2 := bR1.below hb3 bR1.lt
        have s0 := bR2.cell 0
        simp only [List.getElem?_toArray, List.getElem?_cons_zero] at s0
        have s1 := bR2.frozen 0
        have hB2 := hB1.trans (hb3.mono hB1.size)
        have HKO := Lib.hid (Lk.keeps_of_below hb3)
        clear hb3
        gi_wp2_with fail
        exact ⟨(HKO.out.trans (KeepsOthers.setCell _ _ _)).from _, ⟨rfl, _, AL.out, bR2.set _⟩, hB2.setCell (p := ⟨w.heap.size + 1 + 1, 0, none⟩) (by simp; omega) _⟩
    · gi_wp2_with fail
      exact ⟨KeepsFrom.refl _ _, KpT.refl _ _ _, ⟨⟨HP.out.snoc (by omega), bR1⟩, ⟨bT1, bX1⟩, hB1, hsW⟩⟩
  case done =>
    rintro D zs W hD rfl ⟨⟨hp, bR1⟩, ⟨bT1, bX1⟩, hB1, hsW⟩ hK
    have E := Lib.hid (at_all (ys := ys) h2 hp)
    clear hp
    have r0 := bR1.cell 0
    have t1 := bT1.cell 1
    simp only [List.getElem?_toArray, List.getElem?_cons_zero, List.getElem?_cons_succ] at r0 t1
    have r1 := bR1.frozen 0
    obtain ⟨b, off, rfl, hbl, hy⟩ := (HT.out.box hB1 bT1).ya (ys.length - 1) (by rw [HSM.out]; omega)
    have hyl : 0 < ys.length := by rw [HSM.out]; omega
    have hym := HT.out.yl
    have e1 : (ys.length : Int) - 1 < (ys.length : Int) := by omega
    have e2 : 0 ≤ (ys.length : Int) - 1 := by omega
    have e3 : ((ys.length : Int) - 1).toNat = ys.length - 1 := by omega
    have HK1 := Lib.hid hK
    clear hK
    gi_wp2_with fail
    have hK' := (KeepsOthers.setCell W ⟨w.heap.size + 1 + 1, 0, none⟩ (.int .i64 (Tb.g ys (ys.length - 1)))).same D _ HK1.out rfl
    refine ⟨by simp, .inl ⟨_, _, rfl, run_takeDeferred hK', ?_⟩⟩
    have c5 := ((bR1.set (.int .i64 (Tb.g ys (ys.length - 1)))).put (.deferred none) hK' rfl).cell 0
    simp only [List.getElem?_toArray, List.getElem?_cons_zero] at c5
    refine ⟨.int .i64 (Tb.g ys (ys.length - 1)), ?_, ret_int (by rw [E.out, HSM.out]), (hB1.setCell (p := ⟨w.heap.size + 1 + 1, 0, none⟩) (by simp; omega) _).trans (belowK_b (w := w) (Nat.le_refl _) _ D _ _ (by omega) hK' rfl rfl)⟩
    simp [results, Try.f20, go_sem, c5]
  case stop =>
    rintro D c pre W hD ⟨k, hk, rfl⟩ ⟨⟨rfl, v, hv, bR1⟩, hB1⟩ hK
    have E := Lib.hid (at_some hk hv)
    clear hv
    gi_wp2
    refine ⟨by simp, .inl ⟨_, _, rfl, run_takeDeferred hK, ?_⟩⟩
    have c5 := (bR1.put (.deferred none) hK rfl).cell 0
    simp only [List.getElem?_toArray, List.getElem?_cons_zero] at c5
    refine ⟨.int .i64 v, ?_, ret_int E.out.symm, hB1.trans (belowK_b (w := w) (Nat.le_refl _) W D _ _ (by omega) hK rfl rfl)⟩
    simp [results, Try.f20, go_sem, c5]

/-- **At**, of any two lists. -/
theorem atv_c (A B : Option Addr) (ca cb : Nat) (xs ys : List Int) (x : Int) (w : World) (hT : TabIn w A B xs ys) :
    Calls Try.prog 20 #[.agg #[.slice A xs.length ca, .slice B ys.length cb], .int .i64 x] w fun e w' => e = .returned (.int .i64 (Tb.atv xs ys x)) ∧ Below w.heap.size w w' := by
  cases h : Tb.okB xs ys with
  | true => have := at_ok A B ca cb xs ys x w hT h; rwa [show Tb.atv xs ys x = Tb.atO xs ys x from by simp [Tb.atv, h]]
  | false => have := at_no A B ca cb xs ys x w hT h; rwa [show Tb.atv xs ys x = 0 from by simp [Tb.atv, h]]

end TabC
end Go.Proofs.Ytioiffhbbhlgeaa
