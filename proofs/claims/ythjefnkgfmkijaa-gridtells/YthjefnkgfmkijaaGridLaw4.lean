/- The walk of GridTells. -/
import Derived.Test.YthjefnkgfmkijaaGridLaw1
import Derived.Deep.RegionHeld3
import Derived.Deep.AppendLies
import Derived.OneCell
namespace Go.Proofs.Ythjefnkgfmkijaa
namespace GridC
open Go.RowKit TabC

def vals (l : List Int) : List Value := l.map (Value.int .i64)
theorem vals_take (l : List Int) (k : Nat) (h : k < l.length) : vals (l.take (k + 1)) = vals (l.take k) ++ [.int .i64 (Tb.g l k)] := by
  have e : Tb.g l k = l[k] := by simp [Tb.g, h]
  rw [e, List.take_succ_eq_append_getElem h]
  unfold vals
  rw [List.map_append]
  rfl
theorem grown_of {W W' : World} (h : Below W.heap.size W W') : W.grownBy W' none := ⟨h.os, h.tape, h.output, h.size, fun k hk _ => h.block k hk⟩
theorem own_below {W W' : World} {base e size n : Nat} {v : Value} {xs : List Value} (h : W.ownsRow base e size v n xs) (hb : Below W.heap.size W W') : W'.ownsRow base e size v n xs :=
  h.kept (grown_of hb) (by cases hv : v.ownBlock <;> simp)
theorem info_split : ∃ i0, Try.prog.info? 3 = some i0 ∧ i0.zero = some (.int .i64 0) ∧ i0.size = 1 ∧ i0.bytes = 8 := by
  obtain ⟨i, hi, hz⟩ := Option.map_eq_some_iff.1 info_int
  simp only [Prod.mk.injEq] at hz
  exact ⟨i, hi, hz.1, hz.2.1, hz.2.2⟩
theorem GHeld.on {m : Nat} {A B : Option Addr} {ca cb : Nat} {zs : List Int} {n : Nat} {T : Nat → Tv} {w W W' : World} (hG : GridIn w A B zs n T) (h : GHeld m A B ca cb zs n T w W) {q : Nat} (hb : Below q W W') (h1 : m < q) (h2 : w.heap.size ≤ q) : GHeld m A B ca cb zs n T w W' :=
  have ho := h.old.trans (hb.mono h2)
  ⟨hG.below ho, h.box.below hb h1, ho⟩
theorem same_eq {A B : Option Addr} {n ca cb : Nat} {a : List Int} {W : World} (hl : a.length = n) (hn : n ≤ 1000) (hA : Lk.IntsAt W .i64 A a) (hB : Lk.IntsAt W .i64 B a) :
    Calls Try.prog 17 #[.slice A n ca, .slice B n cb] W fun e w' => e = .returned (.bool true) ∧ Below W.heap.size W w' := by
  subst hl
  have := same_lists A B ca cb a a W (by omega) hA hB
  rwa [show prB sm a a = true from prB_yes rfl (fun j _ => by simp [sm])] at this
theorem rat_is {A B : Option Addr} {ca cb : Nat} {zs : List Int} {n : Nat} {T : Nat → Tv} {W : World} (hG : GridIn W A B zs n T) {z x v : Int} (h : Gd.atv zs n (X T) (Y T) z x = v) :
    Calls Try.prog 11 #[.agg #[.slice A zs.length ca, .slice B n cb], .int .i64 z, .int .i64 x] W fun e w' => e = .returned (.int .i64 v) ∧ Below W.heap.size W w' := by
  have := grat_c A B ca cb zs n T z x W hG
  rwa [h] at this

/-- The grid, and a row of numbers of its own. -/
structure Wt (A B : Option Addr) (ca cb : Nat) (zs : List Int) (n : Nat) (T : Nat → Tv) (v : Value) (k : Nat) (L : List Value) (w W : World) : Prop where
  held : GHeld w.heap.size A B ca cb zs n T w W
  own : W.ownsRow (w.heap.size + 1) 3 1 v k L
theorem Wt.below {A B : Option Addr} {ca cb : Nat} {zs : List Int} {n : Nat} {T : Nat → Tv} {v : Value} {k : Nat} {L : List Value} {w W W' : World} (h : Wt A B ca cb zs n T v k L w W) (hb : Below W.heap.size W W') : Wt A B ca cb zs n T v k L w W' := ⟨h.held.below hb, own_below h.own hb⟩
theorem Wt.drew {A B : Option Addr} {ca cb : Nat} {zs : List Int} {n : Nat} {T : Nat → Tv} {v : Value} {k : Nat} {L : List Value} {w W : World} (h : Wt A B ca cb zs n T v k L w W) : Wt A B ca cb zs n T v k L w W.drew := ⟨h.held.drew, h.own.drew⟩
/-- The grid, and two rows of numbers. -/
structure Fin (A B C D : Option Addr) (ca cb : Nat) (zs : List Int) (n : Nat) (T : Nat → Tv) (l R : List Int) (w W : World) : Prop where
  held : GHeld w.heap.size A B ca cb zs n T w W
  xs : Lk.IntsAt W .i64 C l
  row : Lk.IntsAt W .i64 D R
theorem Fin.below {A B C D : Option Addr} {ca cb : Nat} {zs : List Int} {n : Nat} {T : Nat → Tv} {l R : List Int} {w W W' : World} (h : Fin A B C D ca cb zs n T l R w W) (hb : Below W.heap.size W W') : Fin A B C D ca cb zs n T l R w W' := ⟨h.held.below hb, h.xs.below hb, h.row.below hb⟩
theorem Fin.drew {A B C D : Option Addr} {ca cb : Nat} {zs : List Int} {n : Nat} {T : Nat → Tv} {l R : List Int} {w W : World} (h : Fin A B C D ca cb zs n T l R w W) : Fin A B C D ca cb zs n T l R w W.drew := ⟨h.held.drew, h.xs.below (Below.refl _ W).drew, h.row.below (Below.refl _ W).drew⟩
theorem fin_of {A B C : Option Addr} {ca cb : Nat} {zs : List Int} {n : Nat} {T : Nat → Tv} {v : Value} {l R : List Int} {w W : World} (h : Wt A B ca cb zs n T v R.length (vals R) w W) (h0 : R.length = 0 → v = .slice none 0 0) (hI : Lk.IntsAt w .i64 C l) :
    ∃ D cd, v = .slice D R.length cd ∧ Fin A B C D ca cb zs n T l R w W := by
  by_cases e : R.length = 0
  · refine ⟨none, 0, by rw [h0 e, e], h.held, hI.below h.held.old, fun i hi => by omega⟩
  · obtain ⟨g, cap, rfl, _, _⟩ := h.own.form (by omega)
    refine ⟨_, _, rfl, h.held, hI.below h.held.old, fun i hi => ⟨g, 0, rfl, ?_⟩⟩
    rw [Nat.zero_add, h.own.cellAt i (by omega)]
    simp [vals, hi]

set_option maxRecDepth 100000 in
set_option maxHeartbeats 8000000 in
theorem tells_few (A B : Option Addr) (ca cb : Nat) (zs : List Int) (n : Nat) (T : Nat → Tv) (z : Int) (C : Option Addr) (l : List Int) (cc : Nat) (w : World) (hG : GridIn w A B zs n T) (hf : fewG zs n T = false) :
    Calls Try.prog 4 #[.agg #[.slice A zs.length ca, .slice B n cb], .int .i64 z, .slice C l.length cc] w fun e w' => e = .returned (.bool true) ∧ Below w.heap.size w w' := by
  have HH := Lib.hid (GHeld.new (ca := ca) (cb := cb) hG)
  have HF := Lib.hid hf
  clear hG hf
  go_enter Try.func4, Try.ntmps4
  go_wp2_with fail
  refine (awake_c _).mono ?_
  rintro e w9 ⟨rfl, hb⟩
  replace HH := Lib.hid (HH.out.below hb)
  replace c0 := HH.out.c0
  replace c1 := HH.out.c1
  clear hb
  go_wp2_with fail
  refine (few_is HH.out.grid HF.out).mono ?_
  rintro e w9 ⟨rfl, hb⟩
  replace HH := Lib.hid (HH.out.below hb)
  replace c0 := HH.out.c0
  replace c1 := HH.out.c1
  clear hb
  go_wp2_with fail
  go_ret
  exact ⟨rfl, HH.out.old⟩

set_option maxRecDepth 100000 in
set_option maxHeartbeats 8000000 in
theorem tells_long (A B : Option Addr) (ca cb : Nat) (zs : List Int) (n : Nat) (T : Nat → Tv) (z : Int) (C : Option Addr) (l : List Int) (cc : Nat) (w : World) (hG : GridIn w A B zs n T) (hf : fewG zs n T = true) (hl : 50 < l.length) :
    Calls Try.prog 4 #[.agg #[.slice A zs.length ca, .slice B n cb], .int .i64 z, .slice C l.length cc] w fun e w' => e = .returned (.bool true) ∧ Below w.heap.size w w' := by
  have HH := Lib.hid (GHeld.new (ca := ca) (cb := cb) hG)
  have HF := Lib.hid hf
  have d1 : decide (50 < (l.length : Int)) = true := by simp; omega
  clear hG hf
  go_enter Try.func4, Try.ntmps4
  go_wp2_with fail
  refine (awake_c _).mono ?_
  rintro e w9 ⟨rfl, hb⟩
  replace HH := Lib.hid (HH.out.below hb)
  replace c0 := HH.out.c0
  replace c1 := HH.out.c1
  clear hb
  go_wp2_with fail
  refine (few_is HH.out.grid HF.out).mono ?_
  rintro e w9 ⟨rfl, hb⟩
  replace HH := Lib.hid (HH.out.below hb)
  replace c0 := HH.out.c0
  replace c1 := HH.out.c1
  clear hb
  go_wp2_with fail
  go_ret
  exact ⟨rfl, HH.out.old⟩

set_option maxRecDepth 100000 in
set_option maxHeartbeats 8000000 in
theorem tells_ok (A B : Option Addr) (ca cb : Nat) (zs : List Int) (n : Nat) (T : Nat → Tv) (z : Int) (C : Option Addr) (l : List Int) (cc : Nat) (w : World) (hG : GridIn w A B zs n T) (hI : Lk.IntsAt w .i64 C l) (hf : fewG zs n T = true) (hl : l.length ≤ 50) :
    Calls Try.prog 4 #[.agg #[.slice A zs.length ca, .slice B n cb], .int .i64 z, .slice C l.length cc] w fun e w' => e = .returned (.bool true) ∧ Below w.heap.size w w' := by
  have HH := Lib.hid (GHeld.new (ca := ca) (cb := cb) hG)
  have HF := Lib.hid hf
  have HG := Lib.hid hG
  have HI := Lib.hid hI
  have d1 : decide (50 < (l.length : Int)) = false := by simp; omega
  obtain ⟨i0, hi, hz0, hz1, hz2⟩ := info_split
  have HI0 := Lib.hid hi
  have RL := Lib.hid (rw_length zs n T z l)
  clear hG hf hI hi
  go_enter Try.func4, Try.ntmps4
  go_wp2_with fail
  refine (awake_c _).mono ?_
  rintro e w9 ⟨rfl, hb⟩
  replace HH := Lib.hid (HH.out.below hb)
  replace c0 := HH.out.c0
  replace c1 := HH.out.c1
  clear hb
  go_wp2_with fail
  refine (few_is HH.out.grid HF.out).mono ?_
  rintro e w9 ⟨rfl, hb⟩
  replace HH := Lib.hid (HH.out.below hb)
  replace c0 := HH.out.c0
  replace c1 := HH.out.c1
  clear hb
  go_wp2_with fail
  clear c0 c1
  go_loopw [8, 9] (fun v i wr => ∃ k : Nat, k ≤ l.length ∧ i = .int .i64 k ∧ (k = 0 → v = .slice none 0 0) ∧ Wt A B ca cb zs n T v k (vals ((rw zs n T z l).take k)) w wr) (fun _ i _ => l.length - (intOf i).toNat)
  case atStart => exact ⟨0, Nat.zero_le _, rfl, fun _ => rfl, HH.out, World.ownsRow_nil _ _ _ _⟩
  case round =>
    clear HH
    obtain ⟨k, hk, rfl, hv0, hh⟩ := hrel
    have HV0 := Lib.hid hv0
    have HH := Lib.hid hh.held
    have OW := Lib.hid hh.own
    clear hv0 hh
    by_cases hlt : k < l.length
    · obtain ⟨b3, o3, rfl, cx⟩ := cellG HI.out hlt
      have TK := Lib.hid (vals_take (rw zs n T z l) k (by rw [RL.out]; exact hlt))
      rw [rw_g hlt] at TK
      generalize Tb.g l k = x at cx TK
      generalize hV : Gd.atv zs n (X T) (Y T) z x = V at TK
      have EV := Lib.hid hV
      have CX := Lib.hid cx
      clear hV cx
      generalize vals ((rw zs n T z l).take k) = L0 at OW TK
      have e63 : k + 1 ≤ maxLen := by unfold maxLen; omega
      have KP : Hid (∀ W, GHeld w.heap.size A B ca cb zs n T w W → (fun W => GHeld w.heap.size A B ca cb zs n T w W ∧ W.cell? ⟨w.heap.size, 0, none⟩ = some (.slice A zs.length ca) ∧ W.cell? ⟨w.heap.size, 1, none⟩ = some (.slice B n cb) ∧ W.cell? ⟨b3, o3 + k, none⟩ = some (.int .i64 x)) W) := fun W h => ⟨h, h.c0, h.c1, h.cell CX.out⟩
      go_wp2_with fail
      refine wp_region_noPanic (Lk.wp_region_lex 7 (fun W => GHeld w.heap.size A B ca cb zs n T w W ∧ W.cell? ⟨w.heap.size, 0, none⟩ = some (.slice A zs.length ca) ∧ W.cell? ⟨w.heap.size, 1, none⟩ = some (.slice B n cb) ∧ W.cell? ⟨b3, o3 + k, none⟩ = some (.int .i64 x)) (by kernel_rfl) (by kernel_rfl) (fun _ _ _ _ _ h => h) (KP.out _ HH.out.drew) ?_)
      simp only [List.take_succ_cons, List.take_zero, List.drop_succ_cons, List.drop_zero]
      iterate 7 (refine Lk.wpHeldQ_step ?_ rfl ?_ ?_; rotate_left; (focus (intro w' hS; obtain ⟨_, h0, h1, h2⟩ := hS; go_simp; try with_reducible rfl)); simp only [Act.put, List.setIfInBounds_toArray, List.set_cons_zero, List.set_cons_succ])
      show Lk.wpSeqH _ _ _ _ _ _ _
      replace HH := Lib.hid HH.out.drew
      replace OW := Lib.hid OW.out.drew
      refine Lk.wpSeqH_step rfl (fun K hK => ?_)
      have HKK := Lib.hid hK
      clear hK
      go_simp
      refine (rat_is HH.out.grid EV.out).mono ?_
      rintro e w9 ⟨rfl, hb⟩
      replace HH := Lib.hid (HH.out.below hb)
      replace OW := Lib.hid (own_below OW.out hb)
      clear hb
      refine HKK.out _ _ (KP.out _ HH.out) ?_
      clear HKK K
      try simp only [Act.put, List.setIfInBounds_toArray, List.set_cons_zero, List.set_cons_succ]
      refine Lk.wpSeqH_step rfl (fun K hK => ?_)
      have HKK := Lib.hid hK
      clear hK
      go_simp
      have bv := Lk.BoxV.new w9 3 #[.int .i64 V]
      have hh1 := HH.out.alloc (.cells #[.int .i64 V] 3)
      refine HKK.out _ _ (KP.out _ hh1) ?_
      clear HKK K
      try simp only [Act.put, List.setIfInBounds_toArray, List.set_cons_zero, List.set_cons_succ]
      refine Lk.wpSeqH_step rfl (fun K hK => ?_)
      have HKK := Lib.hid hK
      clear hK
      refine wp_append_lies _ (.tmp 26) (.tmp 34) 23 rfl (w.heap.size + 1) 3 i0 (.int .i64 0) 1 8 Try.underlying23 HI0.out hz0 hz1 hz2 rfl (by decide) u8 _ L0 rfl (OW.out.alloc _) ⟨w9.heap.size, 0, none⟩ 1 1 [.int .i64 V] rfl rfl (World.news_of_block bv) (by simp [Value.oneCell']) (by decide) e63 (by omega) (by have := HH.out.box.lt; simp; omega) (w9.heap.size + 1) (by simp) ?_
      intro g cap w1 hown hgrow hat hlt9
      have hbw : Below (w.heap.size + 1) w9 w1 := ((Below.refl (w.heap.size + 1) w9).alloc (by have := HH.out.box.lt; omega) _).grown hgrow (by have := HH.out.box.lt; simp; omega) (fun q e => (OW.out.lt q e).1)
      replace HH := Lib.hid (GHeld.on HG.out HH.out hbw (by omega) (by omega))
      replace OW := Lib.hid hown
      clear hown hgrow hat hbw bv hh1
      refine HKK.out _ _ (KP.out _ HH.out) ?_
      clear HKK K
      simp only [Act.put, List.setIfInBounds_toArray, List.set_cons_zero, List.set_cons_succ]
      refine Lk.wpSeqH_step rfl (fun K hK => ?_)
      have HKK := Lib.hid hK
      clear hK
      go_simp
      refine HKK.out _ _ (KP.out _ HH.out) ?_
      clear HKK K KP
      refine Lk.wpSeqH_nil (NoPanic.normal ?_)
      have hcell : w1.cell? ⟨g, k, none⟩ = some (.int .i64 V) := by
        rw [OW.out.cellAt k (by omega), ← TK.out]
        have e := vals_take (rw zs n T z l) k (by rw [RL.out]; exact hlt)
        have hlen : L0.length = k := by have := OW.out.1; simp at this; omega
        rw [TK.out, List.getElem?_append_right (by omega), hlen]
        simp
      have WW : Hid (Wt A B ca cb zs n T (.slice (some ⟨g, 0, none⟩) (k + 1) cap) (k + 1) (L0 ++ [.int .i64 V]) w w1) := ⟨HH.out, OW.out⟩
      have hL : vals ((rw zs n T z l).take (k + 1)) = L0 ++ [.int .i64 V] := TK.out
      generalize hLL : L0 ++ [.int .i64 V] = L at WW hL
      have CG : Hid (∀ W, Wt A B ca cb zs n T (.slice (some ⟨g, 0, none⟩) (k + 1) cap) (k + 1) L w W → W.cell? ⟨g, k, none⟩ = some (.int .i64 V)) := fun W h => by
        rw [h.own.cellAt k (by omega), ← hLL]
        have hlen : L0.length = k := by have := OW.out.1; simp at this; omega
        rw [List.getElem?_append_right (by omega), hlen]
        simp
      have HLL := Lib.hid hL
      clear hcell hLL hL HH OW TK
      have KP : Hid (∀ W, Wt A B ca cb zs n T (.slice (some ⟨g, 0, none⟩) (k + 1) cap) (k + 1) L w W → (fun W => Wt A B ca cb zs n T (.slice (some ⟨g, 0, none⟩) (k + 1) cap) (k + 1) L w W ∧ W.cell? ⟨w.heap.size, 0, none⟩ = some (.slice A zs.length ca) ∧ W.cell? ⟨w.heap.size, 1, none⟩ = some (.slice B n cb) ∧ W.cell? ⟨b3, o3 + k, none⟩ = some (.int .i64 x) ∧ W.cell? ⟨g, k, none⟩ = some (.int .i64 V)) W) := fun W h => ⟨h, h.held.c0, h.held.c1, h.held.cell CX.out, CG.out W h⟩
      have g1 : (k : Int) < (k : Int) + 1 := by omega
      go_wp2_with fail
      go_region_held3 (fun W => Wt A B ca cb zs n T (.slice (some ⟨g, 0, none⟩) (k + 1) cap) (k + 1) L w W ∧ W.cell? ⟨w.heap.size, 0, none⟩ = some (.slice A zs.length ca) ∧ W.cell? ⟨w.heap.size, 1, none⟩ = some (.slice B n cb) ∧ W.cell? ⟨b3, o3 + k, none⟩ = some (.int .i64 x) ∧ W.cell? ⟨g, k, none⟩ = some (.int .i64 V))
        (first | exact KP.out _ WW.out | exact KP.out _ WW.out.drew | exact KP.out _ (Wt.below (And.left (by assumption)) (by assumption)) | go_keep)
        (first | (go_at_call 12; refine (at_is (GHeld.grid (Wt.held (And.left (by assumption)))) EV.out).mono ?_; rintro e w9 ⟨rfl, hb⟩))
      all_goals
        have hk9 : Wt A B ca cb zs n T (.slice (some ⟨g, 0, none⟩) (k + 1) cap) (k + 1) L w w9 := And.left (by assumption)
        go_wp2_with fail
        go_roundw
        case rel => exact ⟨k + 1, by omega, by go_num, fun h => by omega, hk9.held, by rw [HLL.out]; exact hk9.own⟩
        case measure => simp [intOf]; omega
    · obtain rfl : k = l.length := by omega
      rw [show (rw zs n T z l).take l.length = rw zs n T z l from List.take_of_length_le (by rw [RL.out]; exact Nat.le_refl _)] at OW
      have hfin := fin_of (C := C) (l := l) (R := rw zs n T z l) (v := u8) ⟨HH.out, by rw [RL.out]; exact OW.out⟩ (fun e => HV0.out (by rw [← RL.out]; exact e)) HI.out
      obtain ⟨D, cd, rfl, hfin⟩ := hfin
      rw [RL.out]
      have FF := Lib.hid hfin
      clear hfin HH OW HV0
      have KP : Hid (∀ W, Fin A B C D ca cb zs n T l (rw zs n T z l) w W → (fun W => Fin A B C D ca cb zs n T l (rw zs n T z l) w W ∧ W.cell? ⟨w.heap.size, 0, none⟩ = some (.slice A zs.length ca) ∧ W.cell? ⟨w.heap.size, 1, none⟩ = some (.slice B n cb)) W) := fun W h => ⟨h, h.held.c0, h.held.c1⟩
      go_wp2_with fail
      go_region_held3 (fun W => Fin A B C D ca cb zs n T l (rw zs n T z l) w W ∧ W.cell? ⟨w.heap.size, 0, none⟩ = some (.slice A zs.length ca) ∧ W.cell? ⟨w.heap.size, 1, none⟩ = some (.slice B n cb))
        (first | exact KP.out _ FF.out | exact KP.out _ FF.out.drew | exact KP.out _ (Fin.below (And.left (by assumption)) (by assumption)) | go_keep)
        (first
          | (go_at_call 13; refine (gcheck_c _ _ ca cb zs n T _ (GHeld.grid (Fin.held (And.left (by assumption))))).mono ?_; rintro e w9 ⟨rfl, hb⟩)
          | (go_at_call 14; refine (grcheck_c _ _ ca cb zs n T _ (GHeld.grid (Fin.held (And.left (by assumption))))).mono ?_; rintro e w9 ⟨rfl, hb⟩)
          | (go_at_call 15; refine (grising_c _ _ ca cb zs n T _ (GHeld.grid (Fin.held (And.left (by assumption))))).mono ?_; rintro e w9 ⟨rfl, hb⟩)
          | (go_at_call 16; refine (grrising_c _ _ ca cb zs n T _ (GHeld.grid (Fin.held (And.left (by assumption))))).mono ?_; rintro e w9 ⟨rfl, hb⟩)
          | (go_at_call 18; refine (grow_c _ _ _ ca cb cc zs n T z l _ (GHeld.grid (Fin.held (And.left (by assumption)))) (by omega) (Fin.xs (And.left (by assumption)))).mono ?_; rintro e w9 ⟨⟨E, rfl, hE⟩, hb⟩)
          | (go_at_call 17; refine (same_eq RL.out (by omega) (by assumption) (Fin.row (And.left (by assumption)))).mono ?_; rintro e w9 ⟨rfl, hb⟩))
      all_goals
        have hk9 : Fin A B C D ca cb zs n T l (rw zs n T z l) w w9 := And.left (by assumption)
        go_wp2_with fail
        go_ret
        exact ⟨rfl, hk9.held.old⟩

theorem GridTells_walk (A B : Option Addr) (ca cb : Nat) (zs : List Int) (n : Nat) (T : Nat → Tv) (z : Int) (C : Option Addr) (l : List Int) (cc : Nat) (hl9 : l.length ≤ 9223372036854775807) (w : World) (hG : GridIn w A B zs n T) (hI : Lk.IntsAt w .i64 C l) :
    Calls Try.prog 4 #[.agg #[.slice A zs.length ca, .slice B n cb], .int .i64 z, .slice C l.length cc] w fun e w' => e = .returned (.bool true) ∧ Below w.heap.size w w' := by
  cases hf : fewG zs n T with
  | false => exact tells_few A B ca cb zs n T z C l cc w hG hf
  | true =>
    by_cases hl : 50 < l.length
    · exact tells_long A B ca cb zs n T z C l cc w hG hf hl
    · exact tells_ok A B ca cb zs n T z C l cc w hG hI hf (by omega)

end GridC
end Go.Proofs.Ythjefnkgfmkijaa
