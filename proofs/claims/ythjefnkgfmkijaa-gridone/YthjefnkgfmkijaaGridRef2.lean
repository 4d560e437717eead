/- Contracts of the document's own answers for layer 3, continued: above, Rising, Same. -/
import Derived.Test.YthjefnkgfmkijaaGridRef
namespace Go.Proofs.Ythjefnkgfmkijaa
namespace GridC
open Go.RowKit TabC

def AbTo (xa ya xb yb : List Int) (k : Nat) : Prop := ∀ j, j < k → Tb.g xa j = Tb.g xb j ∧ Tb.g ya j ≤ Tb.g yb j
theorem ab_yes {xa ya xb yb : List Int} (hl : xa.length = xb.length) (h : AbTo xa ya xb yb xa.length) : Gd.abB xa ya xb yb = true := (Gd.ab_iff _ _ _ _).2 ⟨hl, fun j hj => (h j hj).1, fun j hj => (h j hj).2⟩
theorem ab_no {xa ya xb yb : List Int} (h : ¬ Gd.Ab xa ya xb yb) : Gd.abB xa ya xb yb = false := by
  cases e : Gd.abB xa ya xb yb with
  | true => exact absurd ((Gd.ab_iff _ _ _ _).1 e) h
  | false => rfl

set_option maxRecDepth 100000 in
set_option maxHeartbeats 8000000 in
theorem rabove_c (A B C D : Option Addr) (ca cb cc cd : Nat) (xa ya xb yb : List Int) (w : World) (hS : TabIn w A B xa ya) (hT : TabIn w C D xb yb) (ha : ya.length = xa.length) (hb : yb.length = xb.length) :
    Calls Try.prog 29 #[.agg #[.slice A xa.length ca, .slice B ya.length cb], .agg #[.slice C xb.length cc, .slice D yb.length cd]] w fun e w' => e = .returned (.bool (Gd.abB xa ya xb yb)) ∧ Below w.heap.size w w' := by
  have HS := Lib.hid hS
  have HT := Lib.hid hT
  have hxl := hS.xl
  clear hS hT
  by_cases hl : xa.length = xb.length
  · have HL := Lib.hid hl
    have HA := Lib.hid ha
    have HB := Lib.hid hb
    have d0 : ((xa.length : Int) != (xb.length : Int)) = false := by simp [hl]
    have B1 := Lib.hid ((Lk.BoxV.new w 37 #[.slice A xa.length ca, .slice B ya.length cb]).alloc (.cells #[.slice C xb.length cc, .slice D yb.length cd] 37))
    have B2 := Lib.hid (Lk.BoxV.new (w.alloc (.cells #[.slice A xa.length ca, .slice B ya.length cb] 37)) 37 #[.slice C xb.length cc, .slice D yb.length cd])
    have hW : Below w.heap.size w ((w.alloc (.cells #[.slice A xa.length ca, .slice B ya.length cb] 37)).alloc (.cells #[.slice C xb.length cc, .slice D yb.length cd] 37)) := ((Below.refl _ _).alloc (Nat.le_refl _) _).alloc (by simp) _
    have HW := Lib.hid hW
    have hsz : ((w.alloc (.cells #[.slice A xa.length ca, .slice B ya.length cb] 37)).alloc (.cells #[.slice C xb.length cc, .slice D yb.length cd] 37)).heap.size = w.heap.size + 2 := by simp
    have HZ := Lib.hid hsz
    simp only [World.size_alloc] at B2
    have s0 := B1.out.cell 0
    have s1 := B2.out.cell 0
    simp only [List.getElem?_toArray, List.getElem?_cons_zero] at s0 s1
    clear hl ha hb hW hsz
    go_enter Try.func29, Try.ntmps29
    go_wp2_with fail
    clear s0 s1
    generalize hW0 : (w.alloc (.cells #[.slice A xa.length ca, .slice B ya.length cb] 37)).alloc (.cells #[.slice C xb.length cc, .slice D yb.length cd] 37) = W0 at *
    clear hW0
    go_loopw [5] (fun i wr => ∃ k : Nat, k ≤ xa.length ∧ i = .int .i64 k ∧ AbTo xa ya xb yb k ∧ Below W0.heap.size W0 wr) (fun i _ => xa.length - (intOf i).toNat)
    case atStart => exact ⟨0, Nat.zero_le _, rfl, (fun j hj => by omega), Below.refl _ _⟩
    case round =>
      obtain ⟨k, hk, rfl, hF, hb⟩ := hrel
      have HF := Lib.hid hF
      have HBl := Lib.hid hb
      have hO : Hid (Below w.heap.size w wr) := HW.out.trans (hb.mono HW.out.size)
      have b1 := B1.out.below hb B1.out.lt
      have b2 := B2.out.below hb B2.out.lt
      have s0 := b1.cell 0
      have s1 := b1.cell 1
      have r0 := b2.cell 0
      have r1 := b2.cell 1
      simp only [List.getElem?_toArray, List.getElem?_cons_zero, List.getElem?_cons_succ] at s0 s1 r0 r1
      clear hF hb b1 b2
      by_cases hlt : k < xa.length
      · have l1 : k < ya.length := by rw [HA.out]; exact hlt
        have l2 : k < xb.length := by rw [← HL.out]; exact hlt
        have l3 : k < yb.length := by rw [HB.out]; exact l2
        obtain ⟨p1, q1, rfl, c1⟩ := cellG (HS.out.xa.below hO.out) hlt
        obtain ⟨p2, q2, rfl, c2⟩ := cellG (HS.out.ya.below hO.out) l1
        obtain ⟨p3, q3, rfl, c3⟩ := cellG (HT.out.xa.below hO.out) l2
        obtain ⟨p4, q4, rfl, c4⟩ := cellG (HT.out.ya.below hO.out) l3
        generalize h1 : Tb.g xa k = v1 at c1
        generalize h2 : Tb.g ya k = v2 at c2
        generalize h3 : Tb.g xb k = v3 at c3
        generalize h4 : Tb.g yb k = v4 at c4
        have G1 := Lib.hid h1
        have G2 := Lib.hid h2
        have G3 := Lib.hid h3
        have G4 := Lib.hid h4
        clear h1 h2 h3 h4
        by_cases e1 : v1 = v3
        · have q1 : (v1 != v3) = false := by simp [e1]
          by_cases e2 : v4 < v2
          · have q2 : decide (v4 < v2) = true := by simp [e2]
            have E := Lib.hid (ab_no (xa := xa) (ya := ya) (xb := xb) (yb := yb) (fun h => by have := h.le k hlt; rw [G2.out, G4.out] at this; omega))
            clear e1
            go_wp2_with fail
            go_quiet (fail)
            go_wp2_with fail
            go_ret
            exact ⟨ret_bool E.out.symm, below_drewN hO.out _⟩
          · have q2 : decide (v4 < v2) = false := by simp [e2]
            have HN : Hid (AbTo xa ya xb yb (k + 1)) := fun j hj => by
              by_cases e : j = k
              · rw [e, G1.out, G2.out, G3.out, G4.out]; exact ⟨e1, by omega⟩
              · exact HF.out j (by omega)
            clear e1
            go_wp2_with fail
            go_quiet (fail)
            go_wp2_with fail
            go_roundw
            case rel => exact ⟨k + 1, by omega, by go_num, HN.out, below_drewN HBl.out _⟩
            case measure => simp [intOf]; omega
        · have q1 : (v1 != v3) = true := by simp [e1]
          have E := Lib.hid (ab_no (xa := xa) (ya := ya) (xb := xb) (yb := yb) (fun h => by have := h.same k hlt; rw [G1.out, G3.out] at this; exact e1 this))
          clear e1
          go_wp2_with fail
          go_quiet (fail)
          go_wp2_with fail
          go_ret
          exact ⟨ret_bool E.out.symm, below_drewN hO.out _⟩
      · obtain rfl : k = xa.length := by omega
        have E := Lib.hid (ab_yes HL.out HF.out)
        go_wp2_with fail
        go_ret
        exact ⟨ret_bool E.out.symm, hO.out⟩
  · have d0 : ((xa.length : Int) != (xb.length : Int)) = true := by simp; omega
    have E := Lib.hid (ab_no (xa := xa) (ya := ya) (xb := xb) (yb := yb) (fun h => hl h.len))
    clear hl
    go_enter Try.func29, Try.ntmps29
    go_wp2_with fail
    go_ret
    exact ⟨ret_bool E.out.symm, ((Below.refl _ _).alloc (Nat.le_refl _) _).alloc (by simp) _⟩

set_option maxHeartbeats 1000000 in
theorem same_lists (A B : Option Addr) (ca cb : Nat) (a b : List Int) (w : World) (ha : a.length ≤ 9223372036854775807) (hA : Lk.IntsAt w .i64 A a) (hB : Lk.IntsAt w .i64 B b) :
    Calls Try.prog 17 #[.slice A a.length ca, .slice B b.length cb] w fun e w' => e = .returned (.bool (prB sm a b)) ∧ Below w.heap.size w w' := by
  have HA := Lib.hid hA
  have HB := Lib.hid hB
  clear hA hB
  by_cases hl : a.length = b.length
  · have HS := Lib.hid hl
    have d0 : ((a.length : Int) != (b.length : Int)) = false := by simp [hl]
    clear hl
    go_enter Try.func17, Try.ntmps17
    go_wp2_with fail
    go_loopw [5] (fun i wr => ∃ k : Nat, k ≤ a.length ∧ i = .int .i64 k ∧ PrTo sm a b k ∧ Below w.heap.size w wr) (fun i _ => a.length - (intOf i).toNat)
    case atStart => exact ⟨0, Nat.zero_le _, rfl, (fun j hj => by omega), Below.refl _ _⟩
    case round =>
      obtain ⟨k, hk, rfl, hF, hb⟩ := hrel
      have HF := Lib.hid hF
      have HBl := Lib.hid hb
      clear hF hb
      by_cases hlt : k < a.length
      · have hlt2 : k < b.length := by rw [← HS.out]; exact hlt
        obtain ⟨b1, o1, rfl, c1⟩ := cellG (HA.out.below HBl.out) hlt
        obtain ⟨b2, o2, rfl, c2⟩ := cellG (HB.out.below HBl.out) hlt2
        generalize hx : Tb.g a k = x at c1
        generalize hy : Tb.g b k = y at c2
        have GX := Lib.hid hx
        have GY := Lib.hid hy
        clear hx hy
        cases hp : sm x y with
        | true =>
          have HN : Hid (PrTo sm a b (k + 1)) := fun j hj => by
            by_cases e : j = k
            · rw [e, GX.out, GY.out]; exact hp
            · exact HF.out j (by omega)
          have q : (x != y) = false := by unfold sm at hp; simp [bne, hp]
          clear hp
          go_wp2_with fail
          go_quiet (fail)
          go_wp2_with fail
          go_roundw
          case rel => exact ⟨k + 1, by omega, by go_num, HN.out, below_drewN HBl.out _⟩
          case measure => simp [intOf]; omega
        | false =>
          have E := Lib.hid (prB_no (p := sm) (b := b) hlt (by rw [GX.out, GY.out]; exact hp))
          have q : (x != y) = true := by unfold sm at hp; simp [bne, hp]
          clear hp
          go_wp2_with fail
          go_quiet (fail)
          go_wp2_with fail
          go_ret
          exact ⟨ret_bool E.out.symm, below_drewN HBl.out _⟩
      · obtain rfl : k = a.length := by omega
        have E := Lib.hid (prB_yes HS.out HF.out)
        go_wp2_with fail
        go_ret
        exact ⟨ret_bool E.out.symm, HBl.out⟩
  · have d0 : ((a.length : Int) != (b.length : Int)) = true := by simp; omega
    have E := Lib.hid (prB_len (p := sm) hl)
    clear hl
    go_enter Try.func17, Try.ntmps17
    go_wp2_with fail
    go_ret
    exact ⟨ret_bool E.out.symm, Below.refl _ _⟩

set_option maxHeartbeats 4000000 in
theorem grrising_no (A B : Option Addr) (ca cb : Nat) (zs : List Int) (n : Nat) (T : Nat → Tv) (w : World) (hG : GridIn w A B zs n T) (h : Gd.okB zs n (X T) (Y T) = false) :
    Calls Try.prog 16 #[.agg #[.slice A zs.length ca, .slice B n cb]] w fun e w' => e = .returned (.bool false) ∧ Below w.heap.size w w' := by
  have HH := Lib.hid (GHeld.new (ca := ca) (cb := cb) hG)
  have HO := Lib.hid h
  clear hG h
  go_enter Try.func16, Try.ntmps16
  go_wp2_with fail
  refine (grcheck_no _ _ ca cb zs n T _ HH.out.grid HO.out).mono ?_
  rintro e w9 ⟨rfl, hb⟩
  replace HH := Lib.hid (HH.out.below hb)
  clear hb
  go_wp2_with fail
  go_ret
  exact ⟨rfl, HH.out.old⟩

theorem row0 {T : Nat → Tv} : Gd.rowB (X T) (Y T) 0 = Tb.rsB (T 0).xs (T 0).ys := by simp [Gd.rowB, X, Y]
theorem row1 {T : Nat → Tv} {k : Nat} : Gd.rowB (X T) (Y T) (k + 1) = (Tb.rsB (T (k + 1)).xs (T (k + 1)).ys && Gd.abB (T k).xs (T k).ys (T (k + 1)).xs (T (k + 1)).ys) := by simp [Gd.rowB, X, Y]

set_option maxRecDepth 100000 in
set_option maxHeartbeats 8000000 in
theorem grrising_ok (A B : Option Addr) (ca cb : Nat) (zs : List Int) (n : Nat) (T : Nat → Tv) (w : World) (hG : GridIn w A B zs n T) (h : Gd.okB zs n (X T) (Y T) = true) :
    Calls Try.prog 16 #[.agg #[.slice A zs.length ca, .slice B n cb]] w fun e w' => e = .returned (.bool (Gd.riB n (X T) (Y T))) ∧ Below w.heap.size w w' := by
  have HK := Lib.hid ((Gd.ok_iff _ _ _ _).1 h)
  have h1 := HK.out.one
  have h8 := HK.out.most
  have hs := HK.out.same
  obtain ⟨b1, o1, b2, o2, L⟩ := glies_of hG (by omega) (by omega)
  obtain rfl := L.ea
  obtain rfl := L.eb
  have HL := Lib.hid L
  have HS := Lib.hid hs
  have HH := Lib.hid (GHeld.new (ca := ca) (cb := cb) hG)
  have HO := Lib.hid h
  have hn8 : n ≤ 8 := by omega
  have hn1 : 1 ≤ n := by omega
  clear hG h L hs h1 h8
  go_enter Try.func16, Try.ntmps16
  go_wp2_with fail
  refine (grcheck_ok _ _ ca cb zs n T _ HH.out.grid HO.out).mono ?_
  rintro e w9 ⟨rfl, hb⟩
  replace HH := Lib.hid (HH.out.below hb)
  clear hb
  go_wp2_with fail
  go_loopw [3] (fun i wr => ∃ k : Nat, k ≤ n ∧ i = .int .i64 k ∧ RowsTo T k ∧ GHeld w.heap.size (some ⟨b1, o1, none⟩) (some ⟨b2, o2, none⟩) ca cb zs n T w wr) (fun i _ => n - (intOf i).toNat)
  case atStart => exact ⟨0, Nat.zero_le _, rfl, (fun j hj => by omega), HH.out⟩
  case round =>
    clear HH
    obtain ⟨k, hk, rfl, hF, hh⟩ := hrel
    have HF := Lib.hid hF
    have HH := Lib.hid hh
    have c0 := HH.out.c0
    have c1 := HH.out.c1
    clear hF hh
    by_cases hlt : k < n
    · cases k with
      | zero =>
        have t0 := HH.out.cell (HL.out.tc0 0 hlt)
        have t1 := HH.out.cell (HL.out.tc1 0 hlt)
        rw [Nat.zero_mul, Nat.add_zero] at t0 t1
        rw [show ((0 : Nat) : Int) = 0 from rfl]
        go_wp2_with fail
        refine (rrising_c _ _ _ _ (T 0).xs (T 0).ys _ (HH.out.tab hlt)).mono ?_
        rintro e w9 ⟨rfl, hb⟩
        replace HH := Lib.hid (HH.out.below hb)
        clear hb
        cases hr : Tb.rsB (T 0).xs (T 0).ys with
        | false =>
          have E := Lib.hid (ri_no (T := T) hlt (by rw [row0]; exact hr))
          go_wp2_with fail
          go_ret
          exact ⟨ret_bool E.out.symm, HH.out.old⟩
        | true =>
          have HN : Hid (RowsTo T 1) := fun j hj => by
            obtain rfl : j = 0 := by omega
            rw [row0]; exact hr
          go_wp2_with fail
          go_roundw
          case rel => exact ⟨1, by omega, by go_num, HN.out, HH.out⟩
          case measure => simp [intOf]; omega
      | succ k =>
        have hj : k < n := by omega
        have t0 := HH.out.cell (HL.out.tc0 (k + 1) hlt)
        have t1 := HH.out.cell (HL.out.tc1 (k + 1) hlt)
        have T0 := Lib.hid (HL.out.tc0 (k + 1) hlt)
        have T1 := Lib.hid (HL.out.tc1 (k + 1) hlt)
        have S0 := Lib.hid (HL.out.tc0 k hj)
        have S1 := Lib.hid (HL.out.tc1 k hj)
        have e5 : IntKind.i64.wrap (k : Int) = k := IntWalk.i64_in _ (by omega)
        have e7 : (((k : Int) + 1) == 0) = false := by simp; omega
        have g0 : k < n := hj
        have g1 : (k : Int) + 1 < (n : Int) := by omega
        have g2 : 0 ≤ (k : Int) + 1 := by omega
        have g3 : ((k : Int) + 1).toNat = k + 1 := by omega
        go_wp2_with fail
        refine (rrising_c _ _ _ _ (T (k + 1)).xs (T (k + 1)).ys _ (HH.out.tab hlt)).mono ?_
        rintro e w9 ⟨rfl, hb⟩
        replace HH := Lib.hid (HH.out.below hb)
        clear hb c0 c1 t0 t1
        have c0 := HH.out.c0
        have c1 := HH.out.c1
        cases hr : Tb.rsB (T (k + 1)).xs (T (k + 1)).ys with
        | false =>
          have E := Lib.hid (ri_no (T := T) hlt (by rw [row1, hr]; rfl))
          go_wp2_with fail
          go_ret
          exact ⟨ret_bool E.out.symm, HH.out.old⟩
        | true =>
          have m0 : (T k).ys.length = (T k).xs.length := ((Tb.ok_iff _ _).1 (HK.out.tab k (by have := HS.out; omega))).same
          have m1 : (T (k + 1)).ys.length = (T (k + 1)).xs.length := ((Tb.ok_iff _ _).1 (HK.out.tab (k + 1) (by have := HS.out; omega))).same
          have M0 := Lib.hid m0
          have M1 := Lib.hid m1
          clear m0 m1
          have KP : Hid (∀ W, GHeld w.heap.size (some ⟨b1, o1, none⟩) (some ⟨b2, o2, none⟩) ca cb zs n T w W → (fun W => GHeld w.heap.size (some ⟨b1, o1, none⟩) (some ⟨b2, o2, none⟩) ca cb zs n T w W ∧ W.cell? ⟨w.heap.size, 0, none⟩ = some (.slice (some ⟨b1, o1, none⟩) zs.length ca) ∧ W.cell? ⟨w.heap.size, 1, none⟩ = some (.slice (some ⟨b2, o2, none⟩) n cb) ∧ W.cell? ⟨b2, o2 + (k + 1) * 2, none⟩ = some (.slice (T (k + 1)).A (T (k + 1)).xs.length (T (k + 1)).ca) ∧ W.cell? ⟨b2, o2 + (k + 1) * 2 + 1, none⟩ = some (.slice (T (k + 1)).B (T (k + 1)).ys.length (T (k + 1)).cb) ∧ W.cell? ⟨b2, o2 + k * 2, none⟩ = some (.slice (T k).A (T k).xs.length (T k).ca) ∧ W.cell? ⟨b2, o2 + k * 2 + 1, none⟩ = some (.slice (T k).B (T k).ys.length (T k).cb)) W) := fun W h => ⟨h, h.c0, h.c1, h.cell T0.out, h.cell T1.out, h.cell S0.out, h.cell S1.out⟩
          go_wp2_with fail
          refine wp_region_noPanic (Lk.wp_region_lex 11 (fun W => GHeld w.heap.size (some ⟨b1, o1, none⟩) (some ⟨b2, o2, none⟩) ca cb zs n T w W ∧ W.cell? ⟨w.heap.size, 0, none⟩ = some (.slice (some ⟨b1, o1, none⟩) zs.length ca) ∧ W.cell? ⟨w.heap.size, 1, none⟩ = some (.slice (some ⟨b2, o2, none⟩) n cb) ∧ W.cell? ⟨b2, o2 + (k + 1) * 2, none⟩ = some (.slice (T (k + 1)).A (T (k + 1)).xs.length (T (k + 1)).ca) ∧ W.cell? ⟨b2, o2 + (k + 1) * 2 + 1, none⟩ = some (.slice (T (k + 1)).B (T (k + 1)).ys.length (T (k + 1)).cb) ∧ W.cell? ⟨b2, o2 + k * 2, none⟩ = some (.slice (T k).A (T k).xs.length (T k).ca) ∧ W.cell? ⟨b2, o2 + k * 2 + 1, none⟩ = some (.slice (T k).B (T k).ys.length (T k).cb)) (by kernel_rfl) (by kernel_rfl) (fun _ _ _ _ _ h => h) (KP.out _ HH.out.drew) ?_)
          simp only [List.take_succ_cons, List.take_zero, List.drop_succ_cons, List.drop_zero]
          iterate 11 (refine Lk.wpHeldQ_step ?_ rfl ?_ ?_; rotate_left; (focus (intro w' hS; obtain ⟨_, h0, h1, h2, h3, h4, h5⟩ := hS; go_simp; try with_reducible rfl)); simp only [Act.put, List.setIfInBounds_toArray, List.set_cons_zero, List.set_cons_succ])
          show Lk.wpSeqH _ _ _ _ _ _ _
          replace HH := Lib.hid HH.out.drew
          refine Lk.wpSeqH_step rfl (fun K hK => ?_)
          have HKK := Lib.hid hK
          clear hK
          go_simp
          refine (rabove_c _ _ _ _ _ _ _ _ (T k).xs (T k).ys (T (k + 1)).xs (T (k + 1)).ys _ (HH.out.tab hj) (HH.out.tab hlt) M0.out M1.out).mono ?_
          rintro e w9 ⟨rfl, hb⟩
          replace HH := Lib.hid (HH.out.below hb)
          clear hb
          refine HKK.out _ _ (KP.out _ HH.out) ?_
          clear HKK K
          try simp only [Act.put, List.setIfInBounds_toArray, List.set_cons_zero, List.set_cons_succ]
          refine Lk.wpSeqH_step rfl (fun K hK => ?_)
          have HKK := Lib.hid hK
          clear hK
          go_simp
          refine HKK.out _ _ (KP.out _ HH.out) ?_
          clear HKK K
          try simp only [Act.put, List.setIfInBounds_toArray, List.set_cons_zero, List.set_cons_succ]
          clear c0 c1
          cases hab : Gd.abB (T k).xs (T k).ys (T (k + 1)).xs (T (k + 1)).ys with
          | false =>
            have E := Lib.hid (ri_no (T := T) hlt (by rw [row1, hr, hab]; rfl))
            refine Lk.wpSeqH_nil (NoPanic.normal ?_)
            go_wp2_with fail
            go_ret
            exact ⟨ret_bool E.out.symm, HH.out.old⟩
          | true =>
            have HN : Hid (RowsTo T (k + 1 + 1)) := fun j h9 => by
              by_cases e : j = k + 1
              · rw [e, row1, hr, hab]; rfl
              · exact HF.out j (by omega)
            refine Lk.wpSeqH_nil (NoPanic.normal ?_)
            go_wp2_with fail
            go_roundw
            case rel => exact ⟨k + 1 + 1, by omega, by go_num, HN.out, HH.out⟩
            case measure => simp [intOf]; omega
    · obtain rfl : k = n := by omega
      have E := Lib.hid (ri_yes HF.out)
      go_wp2_with fail
      go_ret
      exact ⟨ret_bool E.out.symm, HH.out.old⟩

theorem grrising_c (A B : Option Addr) (ca cb : Nat) (zs : List Int) (n : Nat) (T : Nat → Tv) (w : World) (hG : GridIn w A B zs n T) :
    Calls Try.prog 16 #[.agg #[.slice A zs.length ca, .slice B n cb]] w fun e w' => e = .returned (.bool (Gd.rsB zs n (X T) (Y T))) ∧ Below w.heap.size w w' := by
  cases h : Gd.okB zs n (X T) (Y T) with
  | true => have := grrising_ok A B ca cb zs n T w hG h; rwa [show Gd.rsB zs n (X T) (Y T) = Gd.riB n (X T) (Y T) from by simp [Gd.rsB, h]]
  | false => have := grrising_no A B ca cb zs n T w hG h; rwa [show Gd.rsB zs n (X T) (Y T) = false from by simp [Gd.rsB, h]]

end GridC
end Go.Proofs.Ythjefnkgfmkijaa
