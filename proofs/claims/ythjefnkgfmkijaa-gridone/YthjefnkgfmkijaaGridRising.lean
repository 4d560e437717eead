/- Contract of grid.Rising. -/
import Derived.Test.YthjefnkgfmkijaaGridPairs
import Derived.WalkMore
namespace Go.Proofs.Ythjefnkgfmkijaa
namespace GridC
open Go.RowKit TabC

def RowsTo (T : Nat → Tv) (k : Nat) : Prop := ∀ j, j < k → Gd.rowB (X T) (Y T) j = true
theorem ri_no {n : Nat} {T : Nat → Tv} {k : Nat} (hk : k < n) (h : Gd.rowB (X T) (Y T) k = false) : Gd.riB n (X T) (Y T) = false := List.all_eq_false.2 ⟨k, List.mem_range.2 hk, by simp [h]⟩
theorem ri_yes {n : Nat} {T : Nat → Tv} (h : RowsTo T n) : Gd.riB n (X T) (Y T) = true := List.all_eq_true.2 fun k hk => h k (List.mem_range.1 hk)
/-- A row by the three questions that the program asks of it. -/
theorem row_eq {zs : List Int} {n : Nat} {T : Nat → Tv} (h : Gd.Ok zs n (X T) (Y T)) {k : Nat} (hk : k < n) :
    Gd.rowB (X T) (Y T) k = (Tb.rsB (T k).xs (T k).ys && prB sm (T (k - 1)).xs (T k).xs && prB nl (T (k - 1)).ys (T k).ys) := by
  have hs := h.same
  have ok0 := (Tb.ok_iff _ _).1 (h.tab (k - 1) (by omega))
  have ok1 := (Tb.ok_iff _ _).1 (h.tab k (by omega))
  have s0 : (T (k - 1)).ys.length = (T (k - 1)).xs.length := ok0.same
  have s1 : (T k).ys.length = (T k).xs.length := ok1.same
  show (Tb.rsB (T k).xs (T k).ys && (decide (k = 0) || Gd.abB (T (k - 1)).xs (T (k - 1)).ys (T k).xs (T k).ys)) = _
  rw [Bool.and_assoc]
  congr 1
  rw [Bool.eq_iff_iff]
  simp only [Bool.or_eq_true, decide_eq_true_eq, Gd.ab_iff, prB, Bool.and_eq_true, List.all_eq_true, List.mem_range, sm, nl, beq_iff_eq]
  constructor
  · rintro (rfl | hab)
    · exact ⟨⟨rfl, fun _ _ => rfl⟩, rfl, fun _ _ => Int.le_refl _⟩
    · exact ⟨⟨hab.len, hab.same⟩, by have := hab.len; omega, fun j hj => hab.le j (by omega)⟩
  · rintro ⟨⟨a, b⟩, c, d⟩
    exact .inr ⟨a, b, fun j hj => d j (by omega)⟩

set_option maxHeartbeats 4000000 in
theorem grising_no (A B : Option Addr) (ca cb : Nat) (zs : List Int) (n : Nat) (T : Nat → Tv) (w : World) (hG : GridIn w A B zs n T) (h : Gd.okB zs n (X T) (Y T) = false) :
    Calls Try.prog 15 #[.agg #[.slice A zs.length ca, .slice B n cb]] w fun e w' => e = .returned (.bool false) ∧ Below w.heap.size w w' := by
  have HH := Lib.hid (GHeld.new (ca := ca) (cb := cb) hG)
  have HO := Lib.hid h
  clear hG h
  go_enter Try.func15, Try.ntmps15
  go_wp2_with fail
  go_step3
  go_wp2_with fail
  refine (gcheck_no _ _ ca cb zs n T _ HH.out.grid HO.out).mono ?_
  rintro e w9 ⟨rfl, hb⟩
  replace HH := Lib.hid (HH.out.below hb)
  clear hb
  go_wp2_with fail
  try rw [Exit.noGoto_ret]
  go_ret
  exact ⟨rfl, HH.out.old⟩

set_option maxRecDepth 100000 in
set_option maxHeartbeats 8000000 in
theorem grising_ok (A B : Option Addr) (ca cb : Nat) (zs : List Int) (n : Nat) (T : Nat → Tv) (w : World) (hG : GridIn w A B zs n T) (h : Gd.okB zs n (X T) (Y T) = true) :
    Calls Try.prog 15 #[.agg #[.slice A zs.length ca, .slice B n cb]] w fun e w' => e = .returned (.bool (Gd.riB n (X T) (Y T))) ∧ Below w.heap.size w w' := by
  have HK := Lib.hid ((Gd.ok_iff _ _ _ _).1 h)
  have h1 := HK.out.one
  have h8 := HK.out.most
  have hs := HK.out.same
  obtain ⟨b1, o1, b2, o2, L⟩ := glies_of hG (by omega) (by omega)
  obtain rfl := L.ea
  obtain rfl := L.eb
  have HL := Lib.hid L
  have HH := Lib.hid (GHeld.new (ca := ca) (cb := cb) hG)
  have HO := Lib.hid h
  have hn8 : n ≤ 8 := by omega
  have hn1 : 1 ≤ n := by omega
  clear hG h L hs h1 h8
  go_enter Try.func15, Try.ntmps15
  go_wp2_with fail
  go_step3
  go_wp2_with fail
  refine (gcheck_ok _ _ ca cb zs n T _ HH.out.grid HO.out).mono ?_
  rintro e w9 ⟨rfl, hb⟩
  replace HH := Lib.hid (HH.out.below hb)
  have c1 := HH.out.c1
  clear hb
  go_wp2_with fail
  go_step3
  go_wp2_with fail
  clear c1
  go_loopw [3, 13] (fun r i wr => ∃ k : Nat, k ≤ n ∧ i = .int .i64 k ∧ r = .int .i64 k ∧ RowsTo T k ∧ GHeld w.heap.size (some ⟨b1, o1, none⟩) (some ⟨b2, o2, none⟩) ca cb zs n T w wr) (fun _ i _ => n - (intOf i).toNat)
  case atStart => exact ⟨0, Nat.zero_le _, rfl, rfl, (fun j hj => by omega), HH.out⟩
  case round =>
    clear HH
    obtain ⟨k, hk, rfl, rfl, hF, hh⟩ := hrel
    have HF := Lib.hid hF
    have HH := Lib.hid hh
    have c0 := HH.out.c0
    have c1 := HH.out.c1
    clear hF hh
    by_cases hlt : k < n
    · have RE := Lib.hid (row_eq HK.out hlt)
      cases k with
      | zero =>
        have hj : 0 < n := hlt
        have t0 := HH.out.cell (HL.out.tc0 0 hlt)
        have t1 := HH.out.cell (HL.out.tc1 0 hlt)
        rw [Nat.zero_mul, Nat.add_zero] at t0 t1
        have H1 := Lib.hid (HH.out.alloc (.cells #[.slice (T 0).A (T 0).xs.length (T 0).ca, .slice (T 0).B (T 0).ys.length (T 0).cb] 37))
        have q1 := H1.out.c1
        have q2 := H1.out.cell (HL.out.tc0 0 hj)
        have q3 := H1.out.cell (HL.out.tc1 0 hj)
        have H2 := Lib.hid (H1.out.alloc (.cells #[.slice (T 0).A (T 0).xs.length (T 0).ca, .slice (T 0).B (T 0).ys.length (T 0).cb] 37))
        have B1 := Lib.hid ((Lk.BoxV.new wr 37 #[.slice (T 0).A (T 0).xs.length (T 0).ca, .slice (T 0).B (T 0).ys.length (T 0).cb]).alloc (.cells #[.slice (T 0).A (T 0).xs.length (T 0).ca, .slice (T 0).B (T 0).ys.length (T 0).cb] 37))
        have B2 := Lib.hid (Lk.BoxV.new (wr.alloc (.cells #[.slice (T 0).A (T 0).xs.length (T 0).ca, .slice (T 0).B (T 0).ys.length (T 0).cb] 37)) 37 #[.slice (T 0).A (T 0).xs.length (T 0).ca, .slice (T 0).B (T 0).ys.length (T 0).cb])
        have r0 := B1.out.cell 0
        have r1 := B1.out.cell 1
        simp only [List.getElem?_toArray, List.getElem?_cons_zero, List.getElem?_cons_succ] at r0 r1
        rw [Nat.zero_mul, Nat.add_zero] at q2 q3
        rw [show ((0 : Nat) : Int) = 0 from rfl]
        go_wp2_with fail
        refine (rising_c _ _ _ _ (T 0).xs (T 0).ys _ (H2.out.tab hlt)).mono ?_
        rintro e w3 ⟨rfl, hb⟩
        replace H2 := Lib.hid (H2.out.below hb)
        replace B1 := Lib.hid (B1.out.below hb B1.out.lt)
        replace B2 := Lib.hid (B2.out.below hb B2.out.lt)
        clear hb
        simp only [World.size_alloc] at B2
        cases hr : Tb.rsB (T 0).xs (T 0).ys with
        | false =>
          clear t0 t1 q1 q2 q3 r0 r1
          have c9 := H2.out.c1
          have hne : ((0 : Int) == (n : Int)) = false := by simp; omega
          have E := Lib.hid (ri_no (T := T) hlt (by rw [RE.out]; simp [hr]))
          go_wp2_with fail
          try rw [Exit.noGoto_ret]
          go_ret
          exact ⟨ret_bool E.out.symm, H2.out.old⟩
        | true =>
          clear t0 t1 q1 q2 q3 r0 r1
          have r0 := B1.out.cell 0
          have r1 := B1.out.cell 1
          have s0 := B2.out.cell 0
          have s1 := B2.out.cell 1
          simp only [List.getElem?_toArray, List.getElem?_cons_zero, List.getElem?_cons_succ] at r0 r1 s0 s1
          go_wp2_with fail
          refine (pairs_sm _ _ _ _ (T 0).xs (T 0).xs _ (H2.out.tab hj).xl (H2.out.tab hj).xa (H2.out.tab hlt).xa).mono ?_
          rintro e w4 ⟨rfl, hb⟩
          replace H2 := Lib.hid (H2.out.below hb)
          replace B1 := Lib.hid (B1.out.below hb B1.out.lt)
          replace B2 := Lib.hid (B2.out.below hb B2.out.lt)
          clear hb
          cases hx : prB sm (T 0).xs (T 0).xs with
          | false =>
            clear r0 r1 s0 s1
            have c9 := H2.out.c1
            have hne : ((0 : Int) == (n : Int)) = false := by simp; omega
            have E := Lib.hid (ri_no (T := T) hlt (by rw [RE.out]; simp [hx]))
            go_wp2_with fail
            try rw [Exit.noGoto_ret]
            go_ret
            exact ⟨ret_bool E.out.symm, H2.out.old⟩
          | true =>
            clear r0 r1 s0 s1
            have r0 := B1.out.cell 0
            have r1 := B1.out.cell 1
            have s0 := B2.out.cell 0
            have s1 := B2.out.cell 1
            simp only [List.getElem?_toArray, List.getElem?_cons_zero, List.getElem?_cons_succ] at r0 r1 s0 s1
            go_wp2_with fail
            refine (pairs_nl _ _ _ _ (T 0).ys (T 0).ys _ (H2.out.tab hj).yl (H2.out.tab hj).ya (H2.out.tab hlt).ya).mono ?_
            rintro e w5 ⟨rfl, hb⟩
            replace H2 := Lib.hid (H2.out.below hb)
            clear hb
            cases hy : prB nl (T 0).ys (T 0).ys with
            | false =>
              clear r0 r1 s0 s1
              have c9 := H2.out.c1
              have hne : ((0 : Int) == (n : Int)) = false := by simp; omega
              have E := Lib.hid (ri_no (T := T) hlt (by rw [RE.out]; simp [hy]))
              go_wp2_with fail
              try rw [Exit.noGoto_ret]
              go_ret
              exact ⟨ret_bool E.out.symm, H2.out.old⟩
            | true =>
              clear r0 r1 s0 s1
              have HN : Hid (RowsTo T (0 + 1)) := fun j h9 => by
                by_cases e : j = 0
                · rw [e, RE.out]; simp [hr, hx, hy]
                · exact HF.out j (by omega)
              go_wp2_with fail
              go_roundw
              case rel => exact ⟨0 + 1, by omega, by go_num, by go_num, HN.out, H2.out⟩
              case measure => simp [intOf]; omega
      | succ k =>
        have hj : k < n := by omega
        have t0 := HH.out.cell (HL.out.tc0 (k + 1) hlt)
        have t1 := HH.out.cell (HL.out.tc1 (k + 1) hlt)
        have H1 := Lib.hid (HH.out.alloc (.cells #[.slice (T (k + 1)).A (T (k + 1)).xs.length (T (k + 1)).ca, .slice (T (k + 1)).B (T (k + 1)).ys.length (T (k + 1)).cb] 37))
        have q1 := H1.out.c1
        have q2 := H1.out.cell (HL.out.tc0 k hj)
        have q3 := H1.out.cell (HL.out.tc1 k hj)
        have H2 := Lib.hid (H1.out.alloc (.cells #[.slice (T k).A (T k).xs.length (T k).ca, .slice (T k).B (T k).ys.length (T k).cb] 37))
        have B1 := Lib.hid ((Lk.BoxV.new wr 37 #[.slice (T (k + 1)).A (T (k + 1)).xs.length (T (k + 1)).ca, .slice (T (k + 1)).B (T (k + 1)).ys.length (T (k + 1)).cb]).alloc (.cells #[.slice (T k).A (T k).xs.length (T k).ca, .slice (T k).B (T k).ys.length (T k).cb] 37))
        have B2 := Lib.hid (Lk.BoxV.new (wr.alloc (.cells #[.slice (T (k + 1)).A (T (k + 1)).xs.length (T (k + 1)).ca, .slice (T (k + 1)).B (T (k + 1)).ys.length (T (k + 1)).cb] 37)) 37 #[.slice (T k).A (T k).xs.length (T k).ca, .slice (T k).B (T k).ys.length (T k).cb])
        have r0 := B1.out.cell 0
        have r1 := B1.out.cell 1
        simp only [List.getElem?_toArray, List.getElem?_cons_zero, List.getElem?_cons_succ] at r0 r1
        have e5 : IntKind.i64.wrap (k : Int) = k := IntWalk.i64_in _ (by omega)
        have g1 : (k : Int) + 1 < (n : Int) := by omega
        have g2 : 0 ≤ (k : Int) + 1 := by omega
        have g3 : ((k : Int) + 1).toNat = k + 1 := by omega
        go_wp2_with fail
        refine (rising_c _ _ _ _ (T (k + 1)).xs (T (k + 1)).ys _ (H2.out.tab hlt)).mono ?_
        rintro e w3 ⟨rfl, hb⟩
        replace H2 := Lib.hid (H2.out.below hb)
        replace B1 := Lib.hid (B1.out.below hb B1.out.lt)
        replace B2 := Lib.hid (B2.out.below hb B2.out.lt)
        clear hb
        simp only [World.size_alloc] at B2
        cases hr : Tb.rsB (T (k + 1)).xs (T (k + 1)).ys with
        | false =>
          clear t0 t1 q1 q2 q3 r0 r1
          have c9 := H2.out.c1
          have hne : (((k : Int) + 1) == (n : Int)) = false := by simp; omega
          have E := Lib.hid (ri_no (T := T) hlt (by rw [RE.out]; simp [hr]))
          go_wp2_with fail
          try rw [Exit.noGoto_ret]
          go_ret
          exact ⟨ret_bool E.out.symm, H2.out.old⟩
        | true =>
          clear t0 t1 q1 q2 q3 r0 r1
          have r0 := B1.out.cell 0
          have r1 := B1.out.cell 1
          have s0 := B2.out.cell 0
          have s1 := B2.out.cell 1
          simp only [List.getElem?_toArray, List.getElem?_cons_zero, List.getElem?_cons_succ] at r0 r1 s0 s1
          go_wp2_with fail
          refine (pairs_sm _ _ _ _ (T k).xs (T (k + 1)).xs _ (H2.out.tab hj).xl (H2.out.tab hj).xa (H2.out.tab hlt).xa).mono ?_
          rintro e w4 ⟨rfl, hb⟩
          replace H2 := Lib.hid (H2.out.below hb)
          replace B1 := Lib.hid (B1.out.below hb B1.out.lt)
          replace B2 := Lib.hid (B2.out.below hb B2.out.lt)
          clear hb
          cases hx : prB sm (T k).xs (T (k + 1)).xs with
          | false =>
            clear r0 r1 s0 s1
            have c9 := H2.out.c1
            have hne : (((k : Int) + 1) == (n : Int)) = false := by simp; omega
            have E := Lib.hid (ri_no (T := T) hlt (by rw [RE.out]; simp [hx]))
            go_wp2_with fail
            try rw [Exit.noGoto_ret]
            go_ret
            exact ⟨ret_bool E.out.symm, H2.out.old⟩
          | true =>
            clear r0 r1 s0 s1
            have r0 := B1.out.cell 0
            have r1 := B1.out.cell 1
            have s0 := B2.out.cell 0
            have s1 := B2.out.cell 1
            simp only [List.getElem?_toArray, List.getElem?_cons_zero, List.getElem?_cons_succ] at r0 r1 s0 s1
            go_wp2_with fail
            refine (pairs_nl _ _ _ _ (T k).ys (T (k + 1)).ys _ (H2.out.tab hj).yl (H2.out.tab hj).ya (H2.out.tab hlt).ya).mono ?_
            rintro e w5 ⟨rfl, hb⟩
            replace H2 := Lib.hid (H2.out.below hb)
            clear hb
            cases hy : prB nl (T k).ys (T (k + 1)).ys with
            | false =>
              clear r0 r1 s0 s1
              have c9 := H2.out.c1
              have hne : (((k : Int) + 1) == (n : Int)) = false := by simp; omega
              have E := Lib.hid (ri_no (T := T) hlt (by rw [RE.out]; simp [hy]))
              go_wp2_with fail
              try rw [Exit.noGoto_ret]
              go_ret
              exact ⟨ret_bool E.out.symm, H2.out.old⟩
            | true =>
              clear r0 r1 s0 s1
              have HN : Hid (RowsTo T ((k + 1) + 1)) := fun j h9 => by
                by_cases e : j = (k + 1)
                · rw [e, RE.out]; simp [hr, hx, hy]
                · exact HF.out j (by omega)
              go_wp2_with fail
              go_roundw
              case rel => exact ⟨(k + 1) + 1, by omega, by go_num, by go_num, HN.out, H2.out⟩
              case measure => simp [intOf]; omega
    · obtain rfl : k = n := by omega
      go_wp2_with fail
      try rw [Exit.noGoto_ret]
      go_ret
      exact ⟨ret_bool (by rw [ri_yes HF.out]), HH.out.old⟩

theorem grising_c (A B : Option Addr) (ca cb : Nat) (zs : List Int) (n : Nat) (T : Nat → Tv) (w : World) (hG : GridIn w A B zs n T) :
    Calls Try.prog 15 #[.agg #[.slice A zs.length ca, .slice B n cb]] w fun e w' => e = .returned (.bool (Gd.rsB zs n (X T) (Y T))) ∧ Below w.heap.size w w' := by
  cases h : Gd.okB zs n (X T) (Y T) with
  | true => have := grising_ok A B ca cb zs n T w hG h; rwa [show Gd.rsB zs n (X T) (Y T) = Gd.riB n (X T) (Y T) from by simp [Gd.rsB, h]]
  | false => have := grising_no A B ca cb zs n T w hG h; rwa [show Gd.rsB zs n (X T) (Y T) = false from by simp [Gd.rsB, h]]

end GridC
end Go.Proofs.Ythjefnkgfmkijaa
