/- Contract of table.Steep. -/
import Derived.Test.YteipmionpokfkaaTabAt
import Derived.Stop.RegionWithIn
namespace Go.Proofs.Yteipmionpokfkaa
namespace TabC
open Go.RowKit Go.Shelf

attribute [local go_sem] Oper.semAt_some

def stP (xs ys : List Int) (pre : List (Idx xs)) : Int := Tb.mx (pre.map fun k => Tb.stp xs ys k.1)
theorem stP_snoc (xs ys : List Int) (pre : List (Idx xs)) (k : Idx xs) : stP xs ys (pre ++ [k]) = max (stP xs ys pre) (Tb.stp xs ys k.1) := by simp [stP, Tb.mx]
theorem stP_ups (xs ys : List Int) : ∀ m, m + 1 ≤ xs.length → stP xs ys (ups xs m) = Tb.stU xs ys m
  | 0, _ => rfl
  | m + 1, h => by rw [ups_succ (by omega), stP_snoc, stP_ups xs ys m (by omega), Tb.stU_succ]
theorem KpT.of_below {n₀ Bs : Nat} {W W' : World} (h : Below W.heap.size W W') (h1 : n₀ ≤ W.heap.size) (h2 : Bs < W.heap.size) : KpT n₀ Bs W W' := ⟨h.mono h1, h.block Bs h2⟩
theorem KpT.setCell {n₀ Bs : Nat} {W W' : World} (h : KpT n₀ Bs W W') {p : Addr} (h1 : n₀ ≤ p.block) (h2 : p.block ≠ Bs) (v : Value) : KpT n₀ Bs W (W'.setCell p v) := ⟨h.1.setCell h1 v, (Below.heap_setCell _ _ _ _ (Ne.symm h2)).trans h.2⟩

set_option maxHeartbeats 1000000 in
theorem steep_no (A B : Option Addr) (ca cb : Nat) (xs ys : List Int) (w : World) (hT : TabIn w A B xs ys) (h : Tb.okB xs ys = false) :
    Calls Try.prog 21 #[.agg #[.slice A xs.length ca, .slice B ys.length cb]] w fun e w' => e = .returned (.int .i64 0) ∧ Below w.heap.size w w' := by
  have HT := Lib.hid hT
  have HO := Lib.hid h
  have hfn : ∀ f, Fence.wide.fn f := fun _ => trivial
  clear hT h
  refine (callsIn_wide (n := 9)).1 ?_
  refine callsIn_of_wp_marks Try.func21 rfl trivial ?_ rfl
  simp only [Try.ntmps21, List.size_toArray, List.length_cons, List.length_nil, Nat.reduceAdd, Nat.reduceSub, Array.replicate_succ, Array.replicate_zero, List.push_toArray, List.append_toArray, List.nil_append, List.cons_append]
  gi_wp2_with fail
  refine (callsIn_wide.2 (check_no A B ca cb xs ys _ (HT.out.alloc _) HO.out)).mono ?_
  rintro e w1 ⟨rfl, hb⟩
  have hb2 : Below w.heap.size w w1 := ((Below.refl _ _).alloc (Nat.le_refl _) _).trans (hb.mono (by simp))
  gi_wp2_with fail
  exact ⟨_, results_tmp rfl _ _ _, rfl, hb2⟩

set_option maxRecDepth 100000 in
set_option maxHeartbeats 4000000 in
theorem steep_ok (A B : Option Addr) (ca cb : Nat) (xs ys : List Int) (w : World) (hT : TabIn w A B xs ys) (h : Tb.okB xs ys = true) :
    Calls Try.prog 21 #[.agg #[.slice A xs.length ca, .slice B ys.length cb]] w fun e w' => e = .returned (.int .i64 (Tb.stU xs ys (xs.length - 1))) ∧ Below w.heap.size w w' := by
  have HT := Lib.hid hT
  have HO := Lib.hid h
  have HK0 := Lib.hid ((Tb.ok_iff xs ys).1 h)
  have h2 := HK0.out.two
  have h16 := HK0.out.most
  have HSM := Lib.hid HK0.out.same
  have hfn : ∀ f, Fence.wide.fn f := fun _ => trivial
  clear hT h
  refine (callsIn_wide (n := 9)).1 ?_
  refine callsIn_of_wp_marks Try.func21 rfl trivial ?_ rfl
  simp only [Try.ntmps21, List.size_toArray, List.length_cons, List.length_nil, Nat.reduceAdd, Nat.reduceSub, Array.replicate_succ, Array.replicate_zero, List.push_toArray, List.append_toArray, List.nil_append, List.cons_append]
  gi_wp2_with fail
  refine (callsIn_wide.2 (check_ok A B ca cb xs ys _ (HT.out.alloc _) HO.out)).mono ?_
  rintro e w1 ⟨rfl, hb⟩
  have hb2 : Below w.heap.size w w1 := ((Below.refl _ _).alloc (Nat.le_refl _) _).trans (hb.mono (by simp))
  have hz := hb.size
  simp only [World.size_alloc] at hz
  have bT := (Lk.BoxV.new w 25 #[.slice A xs.length ca, .slice B ys.length cb]).below hb (by simp)
  have t0 := fun o => (bT.alloc o).cell 0
  have t1 := fun o => (bT.alloc o).cell 1
  simp only [List.getElem?_toArray, List.getElem?_cons_zero, List.getElem?_cons_succ] at t0 t1
  clear hb
  gi_wp2_with fail
  refine (callsIn_wide.2 (steps_c _ _ _ _ _ _ _)).mono ?_
  rintro e w' ⟨rfl, rfl⟩
  gi_wp2_with fail
  have bM := (Lk.BoxV.new w1 3 #[.int .i64 0]).alloc (.cells #[.slice A xs.length ca, .slice B ys.length cb] 25)
  have bS := Lk.BoxV.new (w1.alloc (.cells #[.int .i64 0] 3)) 25 #[.slice A xs.length ca, .slice B ys.length cb]
  simp only [World.size_alloc] at bS
  have hB0 := (hb2.alloc hb2.size (.cells #[.int .i64 0] 3)).alloc (by simp; omega) (.cells #[.slice A xs.length ca, .slice B ys.length cb] 25)
  have hsz : ((w1.alloc (.cells #[.int .i64 0] 3)).alloc (.cells #[.slice A xs.length ca, .slice B ys.length cb] 25)).heap.size = w1.heap.size + 2 := by simp
  generalize (w1.alloc (.cells #[.int .i64 0] 3)).alloc (.cells #[.slice A xs.length ca, .slice B ys.length cb] 25) = W0 at bM bS hB0 hsz ⊢
  clear hb2 t0 t1 bT
  refine Lk.rangeH (by omega) (gf := 36) (lb := #[.pointer (some ⟨w1.heap.size + 1, 0, none⟩)]) rfl (enters_of Try.func36 (by kernel_rfl) rfl)
    (steps_stops 8 w.heap.size (w1.heap.size + 1) A B ca cb xs ys h2 (by omega) HSM.out W0 (by omega) (by omega) (HT.out.box hB0 bS)) KpT.trans (kpT_b (by omega) (by omega)) (fun _ => rfl)
    (fun pre W => Lk.BoxV W w1.heap.size 3 #[.int .i64 (stP xs ys pre)] ∧ (Below w.heap.size w W ∧ w1.heap.size + 2 ≤ W.heap.size))
    (fun _ _ _ => False)
    (OwnFrom.and (Own.from (Lk.boxV_own _ _ _) _) (OwnFrom.and (ownFrom_below (Nat.le_refl _) (by omega)) (Lk.ownFrom_size _ _)))
    (fun _ _ _ _ _ hs _ _ => hs)
    ⟨bM, hB0, by omega⟩
    (w1.heap.size + 2) 43 10 4 (fun k => stepOf xs ys k.1) (fun k => #[.int .i64 (Tb.g xs k.1), .int .i64 (Tb.g xs (k.1 + 1)), .int .i64 (Tb.g ys k.1), .int .i64 (Tb.g ys (k.1 + 1))]) ?assign ?body ?done ?stop
  case assign =>
    rintro l pre k W K ⟨bM1, hB1, hsW⟩ hK
    have HK := Lib.hid hK
    clear hK
    simp only [encS, stepOf]
    gi_wp2
    exact HK.out _ _ ((KeepsOthers.alloc _ _).from _) ⟨(Below.refl _ W).alloc hB1.size _, Below.heap_alloc _ _ _ (by omega)⟩ ⟨bM1.alloc _, hB1.alloc hB1.size _, by simp; omega⟩ ⟨W.heap.size, hsW, Lk.BoxV.new W _ _, rfl⟩
  case body =>
    rintro l pre k Bx W hBx bK ⟨bM1, hB1, hsW⟩ hlt
    have HST := Lib.hid (stP_snoc xs ys pre k)
    have f0 := bK.cell 0
    have f1 := bK.cell 1
    have f2 := bK.cell 2
    have f3 := bK.cell 3
    have m0 := bM1.cell 0
    simp only [List.getElem?_toArray, List.getElem?_cons_zero, List.getElem?_cons_succ] at f0 f1 f2 f3 m0
    have m1 := bM1.frozen 0
    have k2 := k.2
    have xb0 := HK0.out.xb k.1 (by omega)
    have xb1 := HK0.out.xb (k.1 + 1) k2
    have yb0 := HK0.out.yb k.1 (by omega)
    have yb1 := HK0.out.yb (k.1 + 1) k2
    have hup := HK0.out.up k.1 k2
    have sc : ∀ W2, Calls Try.prog 32 #[.agg #[.int .i64 (Tb.g xs k.1), .int .i64 (Tb.g xs (k.1 + 1)), .int .i64 (Tb.g ys k.1), .int .i64 (Tb.g ys (k.1 + 1))]] W2 fun e w' => e = .returned (.int .i64 (Tb.stp xs ys k.1)) ∧ Below W2.heap.size W2 w' :=
      fun W2 => steep_c _ _ _ _ _ xb0.1 xb0.2 xb1.1 xb1.2 yb0.1 yb0.2 yb1.1 yb1.2 hup
    have SC := Lib.hid sc
    clear sc xb0 xb1 yb0 yb1 hup
    generalize Tb.stp xs ys k.1 = v at HST SC
    generalize stP xs ys pre = m at HST bM1 m0
    simp only [stepOf, List.setIfInBounds_toArray, List.set_cons_succ, List.set_cons_zero]
    have bB := bM1.lt
    have hsz1 := hB1.size
    gi_wp2_with fail
    gi_region_with (gi_at_call 32; refine (CallsIn.inRound l (callsIn_wide.2 (SC.out _))).mono ?_; rintro e w2 ⟨rfl, hb3⟩; have hm2 := (Lk.BoxV.below (bM1.drew) hb3 (by simpa using bB)).cell 0; simp only [List.getElem?_toArray, List.getElem?_cons_zero] at hm2; have hm3 := (Lk.BoxV.below (bM1.drew) hb3 (by simpa using bB)).frozen 0)
    all_goals
      rw [max_if]
      have hb4 : Below W.heap.size W w2 := (Below.refl W.heap.size W).drew.trans hb3
      have hk3 := Lk.keeps_of_below hb4
      have hk4 : KpT w.heap.size (w1.heap.size + 1) W w2 := KpT.of_below hb4 hsz1 (by omega)
      have bM2 := (bM1.below hb4 bB).set (.int .i64 (max m v))
      have hz2 := hb4.size
      rw [← HST.out] at bM2 ⊢
      exact ⟨(hk3.trans (KeepsOthers.setCell _ _ _)).from _, hk4.setCell (p := ⟨w1.heap.size, 0, none⟩) (by simp; omega) (by simp) _, bM2, (hB1.trans hk4.1).setCell (p := ⟨w1.heap.size, 0, none⟩) (by simp; omega) _, by simp [World.setCell]; omega⟩
  case done =>
    rintro D zs W hD rfl ⟨bM1, hB1, hsW⟩ hK
    rw [stP_ups xs ys _ (by omega)] at bM1
    have m0 := bM1.cell 0
    simp only [List.getElem?_toArray, List.getElem?_cons_zero] at m0
    gi_wp2
    refine ⟨by simp, .inl ⟨_, _, rfl, run_takeDeferred hK, ?_⟩⟩
    exact ⟨_, results_tmp rfl _ _ _, rfl, hB1.trans (belowK_b (w := w) (Nat.le_refl _) W D _ _ (by omega) hK rfl rfl)⟩
  case stop =>
    rintro D c pre W _ _ h _
    exact h.elim

/-- **Steep**, of any two lists. -/
theorem st_c (A B : Option Addr) (ca cb : Nat) (xs ys : List Int) (w : World) (hT : TabIn w A B xs ys) :
    Calls Try.prog 21 #[.agg #[.slice A xs.length ca, .slice B ys.length cb]] w fun e w' => e = .returned (.int .i64 (Tb.st xs ys)) ∧ Below w.heap.size w w' := by
  cases h : Tb.okB xs ys with
  | true => have := steep_ok A B ca cb xs ys w hT h; rwa [show Tb.st xs ys = Tb.stU xs ys (xs.length - 1) from by simp [Tb.st, h]]
  | false => have := steep_no A B ca cb xs ys w hT h; rwa [show Tb.st xs ys = 0 from by simp [Tb.st, h]]

end TabC
end Go.Proofs.Yteipmionpokfkaa
