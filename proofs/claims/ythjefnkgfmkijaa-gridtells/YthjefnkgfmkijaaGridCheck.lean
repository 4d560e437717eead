/- Contract of grid.Check. -/
import Derived.Test.YthjefnkgfmkijaaGridIn
namespace Go.Proofs.Ythjefnkgfmkijaa
namespace GridC
open Go.RowKit TabC

/-- The first k places, and their tables, are as they should be. -/
def GFine (zs : List Int) (T : Nat → Tv) (k : Nat) : Prop := ∀ j, j < k → (0 ≤ Tb.g zs j ∧ Tb.g zs j ≤ 1048576) ∧ (0 < j → Tb.g zs (j - 1) < Tb.g zs j) ∧ Tb.okB (X T j) (Y T j) = true
theorem GFine.ok {zs : List Int} {n : Nat} {T : Nat → Tv} (h : GFine zs T zs.length) (h1 : 1 ≤ zs.length) (h8 : zs.length ≤ 8) (hs : n = zs.length) : Gd.Ok zs n (X T) (Y T) :=
  ⟨h1, h8, hs, fun k hk => (h k hk).1, fun k hk => (h (k + 1) hk).2.1 (by omega), fun k hk => (h k hk).2.2⟩

set_option maxRecDepth 100000 in
set_option maxHeartbeats 4000000 in
theorem gcheck_len (A B : Option Addr) (ca cb : Nat) (zs : List Int) (n : Nat) (T : Nat → Tv) (w : World) (h : zs.length < 1 ∨ 8 < zs.length ∨ n ≠ zs.length) :
    Calls Try.prog 13 #[.agg #[.slice A zs.length ca, .slice B n cb]] w fun e w' => e = .returned (.int .i64 (Gd.err zs n (X T) (Y T))) ∧ Below w.heap.size w w' := by
  have E := Lib.hid (Gd.err_30 (zs := zs) (n := n) (X := X T) (Y := Y T) (fun k => by have := k.one; have := k.most; have := k.same; omega))
  by_cases h1 : zs.length < 1
  · clear h
    have d1 : decide ((zs.length : Int) < 1) = true := by simp; omega
    go_enter Try.func13, Try.ntmps13
    go_wp2_with fail
    go_ret
    exact ⟨ret_int E.out.symm, (Below.refl _ _).alloc (Nat.le_refl _) _⟩
  · have d1 : decide ((zs.length : Int) < 1) = false := by simp; omega
    by_cases h2 : 8 < zs.length
    · clear h
      have d2 : decide (8 < (zs.length : Int)) = true := by simp; omega
      go_enter Try.func13, Try.ntmps13
      go_wp2_with fail
      go_ret
      exact ⟨ret_int E.out.symm, (Below.refl _ _).alloc (Nat.le_refl _) _⟩
    · have h3 : ((n : Int) != (zs.length : Int)) = true := by simp; omega
      have d2 : decide (8 < (zs.length : Int)) = false := by simp; omega
      clear h
      go_enter Try.func13, Try.ntmps13
      go_wp2_with fail
      go_ret
      exact ⟨ret_int E.out.symm, (Below.refl _ _).alloc (Nat.le_refl _) _⟩

set_option maxRecDepth 100000 in
set_option maxHeartbeats 8000000 in
theorem gcheck_go (A B : Option Addr) (ca cb : Nat) (zs : List Int) (n : Nat) (T : Nat → Tv) (w : World) (hG : GridIn w A B zs n T) (h1 : 1 ≤ zs.length) (h8 : zs.length ≤ 8) (hs : n = zs.length) :
    Calls Try.prog 13 #[.agg #[.slice A zs.length ca, .slice B n cb]] w fun e w' => e = .returned (.int .i64 (Gd.err zs n (X T) (Y T))) ∧ Below w.heap.size w w' := by
  obtain ⟨b1, o1, b2, o2, L⟩ := glies_of hG (by omega) (by omega)
  obtain rfl := L.ea
  obtain rfl := L.eb
  have HL := Lib.hid L
  have HH := Lib.hid (GHeld.new (ca := ca) (cb := cb) hG)
  have HS := Lib.hid hs
  have E1 : Hid (¬ Gd.Ok zs n (X T) (Y T) → Gd.err zs n (X T) (Y T) = 30) := fun h => Gd.err_30 h
  have E2 : Hid (GFine zs T zs.length → Gd.err zs n (X T) (Y T) = 0) := fun h => Gd.err_0 (h.ok h1 h8 hs)
  have d1 : decide ((zs.length : Int) < 1) = false := by simp; omega
  have d2 : decide (8 < (zs.length : Int)) = false := by simp; omega
  have hn3 : ((n : Int) != (zs.length : Int)) = false := by simp [hs]
  have hn8 : n ≤ 8 := by omega
  clear hG L hs
  go_enter Try.func13, Try.ntmps13
  go_wp2_with fail
  go_loopw [25] (fun i wr => ∃ k : Nat, k ≤ zs.length ∧ i = .int .i64 k ∧ GFine zs T k ∧ GHeld w.heap.size (some ⟨b1, o1, none⟩) (some ⟨b2, o2, none⟩) ca cb zs n T w wr) (fun i _ => zs.length - (intOf i).toNat)
  case atStart => exact ⟨0, Nat.zero_le _, rfl, (fun j hj => by omega), HH.out⟩
  case round =>
    clear HH
    obtain ⟨k, hk, rfl, hF, hh⟩ := hrel
    have HF := Lib.hid hF
    have HH := Lib.hid hh
    have c0 := HH.out.c0
    have c1 := HH.out.c1
    clear hF hh
    by_cases hlt : k < zs.length
    · have hltn : k < n := by rw [HS.out]; exact hlt
      have z0 := HH.out.cell (HL.out.zc k hlt)
      have t0 := HH.out.cell (HL.out.tc0 k hltn)
      have t1 := HH.out.cell (HL.out.tc1 k hltn)
      have HX : Hid (∀ j, j + 1 = k → wr.cell? ⟨b1, o1 + j, none⟩ = some (.int .i64 (Tb.g zs j))) := fun j hj => HH.out.cell (HL.out.zc j (by omega))
      generalize hz : Tb.g zs k = z at z0
      have GZ := Lib.hid hz
      clear hz
      by_cases p1 : z < 0
      · have q1 : decide (z < 0) = true := by simp [p1]
        have E := Lib.hid (E1.out (fun o => by have := (o.zb k hlt).1; rw [GZ.out] at this; omega))
        go_wp2_with fail
        go_ret
        exact ⟨ret_int E.out.symm, HH.out.old⟩
      · have q1 : decide (z < 0) = false := by simp [p1]
        by_cases p2 : 1048576 < z
        · have q2 : decide (1048576 < z) = true := by simp [p2]
          have E := Lib.hid (E1.out (fun o => by have := (o.zb k hlt).2; rw [GZ.out] at this; omega))
          go_wp2_with fail
          go_ret
          exact ⟨ret_int E.out.symm, HH.out.old⟩
        · have q2 : decide (1048576 < z) = false := by simp [p2]
          cases k with
          | zero =>
            rw [Nat.add_zero] at z0
            rw [Nat.zero_mul, Nat.add_zero] at t0 t1
            rw [show ((0 : Nat) : Int) = 0 from rfl]
            have q5 : decide ((0 : Int) < 0) = false := by decide
            go_wp2_with fail
            refine (check_c _ _ _ _ (T 0).xs (T 0).ys _ (HH.out.tab hltn)).mono ?_
            rintro e w9 ⟨rfl, hb⟩
            replace HH := Lib.hid (HH.out.below hb)
            clear hb
            cases ho : Tb.okB (T 0).xs (T 0).ys with
            | true =>
              have e0 : Tb.err (T 0).xs (T 0).ys = 0 := by simp [Tb.err, ho]
              have HN : Hid (GFine zs T 1) := fun j hj => by
                obtain rfl : j = 0 := by omega
                rw [GZ.out]; exact ⟨⟨by omega, by omega⟩, fun h => by omega, ho⟩
              rw [e0]
              go_wp2_with fail
              go_roundw
              case rel => exact ⟨1, by omega, by go_num, HN.out, HH.out⟩
              case measure => simp [intOf]; omega
            | false =>
              have e0 : Tb.err (T 0).xs (T 0).ys = 20 := by simp [Tb.err, ho]
              have E := Lib.hid (E1.out (fun o => by have := o.tab 0 hlt; rw [show X T 0 = (T 0).xs from rfl, show Y T 0 = (T 0).ys from rfl, ho] at this; cases this))
              rw [e0]
              go_wp2_with fail
              go_ret
              exact ⟨ret_int E.out.symm, HH.out.old⟩
          | succ k =>
            have c5 := HX.out k rfl
            generalize hy : Tb.g zs k = y at c5
            have GY := Lib.hid hy
            clear hy
            have e5 : IntKind.i64.wrap (k : Int) = k := IntWalk.i64_in _ (by omega)
            have g0 : k < zs.length := by omega
            have g1 : (k : Int) + 1 < (zs.length : Int) := by omega
            have g1' : (k : Int) + 1 < (n : Int) := by omega
            have g2 : 0 ≤ (k : Int) + 1 := by omega
            have g3 : ((k : Int) + 1).toNat = k + 1 := by omega
            have g4 : 0 < (k : Int) + 1 := by omega
            have q6 : decide (0 < (k : Int) + 1) = true := by simp; try omega
            by_cases p5 : z ≤ y
            · have q7 : decide (z ≤ y) = true := by simp [p5]
              have E := Lib.hid (E1.out (fun o => by have := o.up k hlt; rw [GZ.out, GY.out] at this; omega))
              go_wp2_with fail
              go_ret
              exact ⟨ret_int E.out.symm, HH.out.old⟩
            · have q7 : decide (z ≤ y) = false := by simp [p5]
              go_wp2_with fail
              refine (check_c _ _ _ _ (T (k + 1)).xs (T (k + 1)).ys _ (HH.out.tab hltn)).mono ?_
              rintro e w9 ⟨rfl, hb⟩
              replace HH := Lib.hid (HH.out.below hb)
              clear hb
              cases ho : Tb.okB (T (k + 1)).xs (T (k + 1)).ys with
              | true =>
                have e0 : Tb.err (T (k + 1)).xs (T (k + 1)).ys = 0 := by simp [Tb.err, ho]
                have HN : Hid (GFine zs T (k + 1 + 1)) := fun j hj => by
                  by_cases e : j = k + 1
                  · subst e
                    rw [GZ.out, show k + 1 - 1 = k from by omega, GY.out]
                    exact ⟨⟨by omega, by omega⟩, fun h => by omega, ho⟩
                  · exact HF.out j (by omega)
                rw [e0]
                go_wp2_with fail
                go_roundw
                case rel => exact ⟨k + 1 + 1, by omega, by go_num, HN.out, HH.out⟩
                case measure => simp [intOf]; omega
              | false =>
                have e0 : Tb.err (T (k + 1)).xs (T (k + 1)).ys = 20 := by simp [Tb.err, ho]
                have E := Lib.hid (E1.out (fun o => by have := o.tab (k + 1) hlt; rw [show X T (k + 1) = (T (k + 1)).xs from rfl, show Y T (k + 1) = (T (k + 1)).ys from rfl, ho] at this; cases this))
                rw [e0]
                go_wp2_with fail
                go_ret
                exact ⟨ret_int E.out.symm, HH.out.old⟩
    · obtain rfl : k = zs.length := by omega
      have E := Lib.hid (E2.out HF.out)
      go_wp2_with fail
      go_ret
      exact ⟨ret_int E.out.symm, HH.out.old⟩

theorem gcheck_c (A B : Option Addr) (ca cb : Nat) (zs : List Int) (n : Nat) (T : Nat → Tv) (w : World) (hG : GridIn w A B zs n T) :
    Calls Try.prog 13 #[.agg #[.slice A zs.length ca, .slice B n cb]] w fun e w' => e = .returned (.int .i64 (Gd.err zs n (X T) (Y T))) ∧ Below w.heap.size w w' := by
  by_cases h1 : zs.length < 1 ∨ 8 < zs.length ∨ n ≠ zs.length
  · exact gcheck_len A B ca cb zs n T w h1
  · exact gcheck_go A B ca cb zs n T w hG (by omega) (by omega) (by omega)
theorem gcheck_ok (A B : Option Addr) (ca cb : Nat) (zs : List Int) (n : Nat) (T : Nat → Tv) (w : World) (hG : GridIn w A B zs n T) (h : Gd.okB zs n (X T) (Y T) = true) :
    Calls Try.prog 13 #[.agg #[.slice A zs.length ca, .slice B n cb]] w fun e w' => e = .returned (.int .i64 0) ∧ Below w.heap.size w w' := by
  have := gcheck_c A B ca cb zs n T w hG
  rwa [show Gd.err zs n (X T) (Y T) = 0 from by simp [Gd.err, h]] at this
theorem gcheck_no (A B : Option Addr) (ca cb : Nat) (zs : List Int) (n : Nat) (T : Nat → Tv) (w : World) (hG : GridIn w A B zs n T) (h : Gd.okB zs n (X T) (Y T) = false) :
    Calls Try.prog 13 #[.agg #[.slice A zs.length ca, .slice B n cb]] w fun e w' => e = .returned (.int .i64 30) ∧ Below w.heap.size w w' := by
  have := gcheck_c A B ca cb zs n T w hG
  rwa [show Gd.err zs n (X T) (Y T) = 30 from by simp [Gd.err, h]] at this

end GridC
end Go.Proofs.Ythjefnkgfmkijaa
