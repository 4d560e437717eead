/- Contract of grid.At. -/
import Derived.Test.YthjefnkgfmkijaaGridRising
import Derived.Deep.OwnRows
namespace Go.Proofs.Ythjefnkgfmkijaa
namespace GridC
open Go.RowKit TabC

set_option maxHeartbeats 4000000 in
theorem gat_no (A B : Option Addr) (ca cb : Nat) (zs : List Int) (n : Nat) (T : Nat → Tv) (z x : Int) (w : World) (hG : GridIn w A B zs n T) (h : Gd.okB zs n (X T) (Y T) = false) :
    Calls Try.prog 12 #[.agg #[.slice A zs.length ca, .slice B n cb], .int .i64 z, .int .i64 x] w fun e w' => e = .returned (.int .i64 0) ∧ Below w.heap.size w w' := by
  have HH := Lib.hid (GHeld.new (ca := ca) (cb := cb) hG)
  have HO := Lib.hid h
  clear hG h
  go_enter Try.func12, Try.ntmps12
  go_wp2_with fail
  refine (gcheck_no _ _ ca cb zs n T _ HH.out.grid HO.out).mono ?_
  rintro e w9 ⟨rfl, hb⟩
  replace HH := Lib.hid (HH.out.below hb)
  clear hb
  go_wp2_with fail
  go_ret
  exact ⟨rfl, HH.out.old⟩

theorem info_int : (Try.prog.info? 3).map (fun i => (i.zero, i.size, i.bytes)) = some (some (.int .i64 0), 1, 8) := by kernel_rfl
/-- The first k of n values have been put in. -/
def put (f : Nat → Int) (k : Nat) (j : Nat) : Value := .int .i64 (if j < k then f j else 0)
theorem row_below {W W' : World} {b t n m : Nat} {f : Nat → Value} (h : W.rowIs b t n f) (hb : Below m W W') (hm : b < m) : W'.rowIs b t n f := h.of_block (hb.block b hm)
theorem row_new (W : World) (n : Nat) (f : Nat → Int) : (W.alloc (.cells (madeCells #[.int .i64 0] n) 3)).rowIs W.heap.size 3 n (put f 0) := (World.rowIs_made W (.int .i64 0) n 3).congr fun i _ => by simp [put]
theorem row_put {W : World} {b t n : Nat} {f : Nat → Int} {k : Nat} (h : W.rowIs b t n (put f k)) : (W.setCell ⟨b, k, none⟩ (.int .i64 (f k))).rowIs b t n (put f (k + 1)) := (h.set k (.int .i64 (f k))).congr fun j _ => by
  by_cases e : j = k
  · subst e; simp [put]
  · by_cases c : j < k
    · rw [if_neg e]; unfold put; rw [if_pos c, if_pos (by omega)]
    · rw [if_neg e]; unfold put; rw [if_neg c, if_neg (by omega)]
theorem row_ints {W : World} {b t n : Nat} {f : Nat → Int} {l : List Int} (h : W.rowIs b t n (put f n)) (hl : l.length = n) (hf : ∀ j, j < n → f j = Tb.g l j) : Lk.IntsAt W .i64 (some ⟨b, 0, none⟩) l := by
  intro i hi
  refine ⟨b, 0, rfl, ?_⟩
  rw [Nat.zero_add, h.cell (by omega)]
  unfold put
  rw [if_pos (by omega), hf i (by omega)]
  rfl
theorem GHeld.set {m : Nat} {A B : Option Addr} {ca cb : Nat} {zs : List Int} {n : Nat} {T : Nat → Tv} {w W : World} (hG : GridIn w A B zs n T) (h : GHeld m A B ca cb zs n T w W) {p : Addr} (hp : w.heap.size ≤ p.block) (hm : p.block ≠ m) (v : Value) : GHeld m A B ca cb zs n T w (W.setCell p v) :=
  have ho := h.old.setCell hp v
  ⟨hG.below ho, h.box.other hm v, ho⟩

set_option maxRecDepth 100000 in
set_option maxHeartbeats 8000000 in
theorem gat_ok (A B : Option Addr) (ca cb : Nat) (zs : List Int) (n : Nat) (T : Nat → Tv) (z x : Int) (w : World) (hG : GridIn w A B zs n T) (h : Gd.okB zs n (X T) (Y T) = true) :
    Calls Try.prog 12 #[.agg #[.slice A zs.length ca, .slice B n cb], .int .i64 z, .int .i64 x] w fun e w' => e = .returned (.int .i64 (Gd.atO zs n (X T) (Y T) z x)) ∧ Below w.heap.size w w' := by
  have HK := Lib.hid ((Gd.ok_iff _ _ _ _).1 h)
  have h1 := HK.out.one
  have h8 := HK.out.most
  have hs := HK.out.same
  obtain ⟨b1, o1, b2, o2, L⟩ := glies_of hG (by omega) (by omega)
  obtain rfl := L.ea
  obtain rfl := L.eb
  have HL := Lib.hid L
  have HH := Lib.hid (GHeld.new (ca := ca) (cb := cb) hG)
  have HG := Lib.hid hG
  have HO := Lib.hid h
  have hn8 : n ≤ 8 := by omega
  have hn1 : 1 ≤ n := by omega
  clear hG h L hs h1 h8
  go_enter Try.func12, Try.ntmps12
  go_wp2_with fail
  refine (gcheck_ok _ _ ca cb zs n T _ HH.out.grid HO.out).mono ?_
  rintro e w9 ⟨rfl, hb⟩
  replace HH := Lib.hid (HH.out.below hb)
  have c0 := HH.out.c0
  have c1 := HH.out.c1
  clear hb
  by_cases hone : n = 1
  · subst hone
    have t0 := HH.out.cell (HL.out.tc0 0 (by omega))
    have t1 := HH.out.cell (HL.out.tc1 0 (by omega))
    rw [Nat.zero_mul, Nat.add_zero] at t0 t1
    go_wp2_with fail
    refine (atv_c _ _ _ _ (T 0).xs (T 0).ys x _ (HH.out.tab (by omega))).mono ?_
    rintro e w8 ⟨rfl, hb⟩
    replace HH := Lib.hid (HH.out.below hb)
    clear hb
    go_wp2_with fail
    go_ret
    exact ⟨ret_int (by simp [Gd.atO, X, Y]), HH.out.old⟩
  · have d0 : ((n : Int) == 1) = false := by simp; omega
    have hmk := run_make_row' (P := Try.prog) 23 3 (.int .i64 0) 8 Try.underlying23 info_int rfl .i64 .i64 n (by omega) (by omega)
    have RW := Lib.hid (row_new w9 n fun j => Tb.atv (T j).xs (T j).ys x)
    have hsz : w.heap.size < w9.heap.size := HH.out.box.lt
    replace HH := Lib.hid (HH.out.alloc (.cells (madeCells #[.int .i64 0] n) 3))
    have c2 := HH.out.c1
    go_wp2_with fail
    clear c0 c1 c2 hmk
    generalize hD : w9.heap.size = D at *
    go_loopw [30] (fun i wr => ∃ k : Nat, k ≤ n ∧ i = .int .i64 k ∧ wr.rowIs D 3 n (put (fun j => Tb.atv (T j).xs (T j).ys x) k) ∧ GHeld w.heap.size (some ⟨b1, o1, none⟩) (some ⟨b2, o2, none⟩) ca cb zs n T w wr) (fun i _ => n - (intOf i).toNat)
    case atStart => exact ⟨0, Nat.zero_le _, rfl, RW.out, HH.out⟩
    case round =>
      clear HH RW
      obtain ⟨k, hk, rfl, hr, hh⟩ := hrel
      have RW := Lib.hid hr
      have HH := Lib.hid hh
      have c0 := HH.out.c0
      clear hr hh
      by_cases hlt : k < n
      · have t0 := HH.out.cell (HL.out.tc0 k hlt)
        have t1 := HH.out.cell (HL.out.tc1 k hlt)
        have B1 := Lib.hid (Lk.BoxV.new wr 37 #[.slice (T k).A (T k).xs.length (T k).ca, .slice (T k).B (T k).ys.length (T k).cb])
        have r0 := B1.out.cell 0
        have r1 := B1.out.cell 1
        simp only [List.getElem?_toArray, List.getElem?_cons_zero, List.getElem?_cons_succ] at r0 r1
        replace HH := Lib.hid (HH.out.alloc (.cells #[.slice (T k).A (T k).xs.length (T k).ca, .slice (T k).B (T k).ys.length (T k).cb] 37))
        replace RW := Lib.hid (RW.out.alloc (.cells #[.slice (T k).A (T k).xs.length (T k).ca, .slice (T k).B (T k).ys.length (T k).cb] 37))
        go_wp2_with fail
        refine (atv_c _ _ _ _ (T k).xs (T k).ys x _ (HH.out.tab hlt)).mono ?_
        rintro e w8 ⟨rfl, hb⟩
        replace HH := Lib.hid (HH.out.below hb)
        replace RW := Lib.hid (row_below RW.out hb RW.out.lt)
        clear hb r0 r1 t0 t1 c0 B1
        have d1 := RW.out.cell hlt
        have d2 := RW.out.frozen k
        unfold put at d1
        go_wp2_with fail
        go_roundw
        case rel => exact ⟨k + 1, by omega, by go_num, row_put RW.out, GHeld.set HG.out HH.out (p := ⟨D, k, none⟩) (by show _ ≤ D; omega) (by show D ≠ _; omega) _⟩
        case measure => simp [intOf]; omega
      · obtain rfl : k = n := by omega
        have hl := Gd.across_length k (X T) (Y T) x
        have hI := row_ints RW.out hl (fun j hj => by rw [Gd.across_g hj]; rfl)
        have hc : Calls Try.prog 19 #[.agg #[.slice (some ⟨b1, o1, none⟩) zs.length ca, .slice (some ⟨D, 0, none⟩) k k], .int .i64 z] wr fun e w' => e = .returned (.int .i64 (Gd.atO zs k (X T) (Y T) z x)) ∧ Below wr.heap.size wr w' := by
          have := atv_c (some ⟨b1, o1, none⟩) (some ⟨D, 0, none⟩) ca k zs (Gd.across k (X T) (Y T) x) z wr ⟨HH.out.grid.zl, by rw [hl]; omega, HH.out.grid.za, hI⟩
          have hk2 : 2 ≤ zs.length := by have := HK.out.same; omega
          rw [hl, Gd.atv_ok ((Tb.ok_iff _ _).2 (Gd.across_ok HK.out hk2 x))] at this
          unfold Gd.atO
          rwa [if_neg hone]
        have HC := Lib.hid hc
        clear hl hI hc
        go_wp2_with fail
        refine HC.out.mono ?_
        rintro e w8 ⟨rfl, hb⟩
        replace HH := Lib.hid (HH.out.below hb)
        clear hb
        go_wp2_with fail
        go_ret
        exact ⟨rfl, HH.out.old⟩

theorem gat_c (A B : Option Addr) (ca cb : Nat) (zs : List Int) (n : Nat) (T : Nat → Tv) (z x : Int) (w : World) (hG : GridIn w A B zs n T) :
    Calls Try.prog 12 #[.agg #[.slice A zs.length ca, .slice B n cb], .int .i64 z, .int .i64 x] w fun e w' => e = .returned (.int .i64 (Gd.atv zs n (X T) (Y T) z x)) ∧ Below w.heap.size w w' := by
  cases h : Gd.okB zs n (X T) (Y T) with
  | true => have := gat_ok A B ca cb zs n T z x w hG h; rwa [show Gd.atv zs n (X T) (Y T) z x = Gd.atO zs n (X T) (Y T) z x from by simp [Gd.atv, h]]
  | false => have := gat_no A B ca cb zs n T z x w hG h; rwa [show Gd.atv zs n (X T) (Y T) z x = 0 from by simp [Gd.atv, h]]

/-- What Row answers: At of each of x. -/
def rw (zs : List Int) (n : Nat) (T : Nat → Tv) (z : Int) (l : List Int) : List Int := (List.range l.length).map fun j => Gd.atv zs n (X T) (Y T) z (Tb.g l j)
theorem rw_length (zs : List Int) (n : Nat) (T : Nat → Tv) (z : Int) (l : List Int) : (rw zs n T z l).length = l.length := by simp [rw]
theorem rw_g {zs : List Int} {n : Nat} {T : Nat → Tv} {z : Int} {l : List Int} {k : Nat} (h : k < l.length) : Tb.g (rw zs n T z l) k = Gd.atv zs n (X T) (Y T) z (Tb.g l k) := by simp [Tb.g, rw, h]

set_option maxRecDepth 100000 in
set_option maxHeartbeats 8000000 in
/-- Row: a new slice. -/
theorem grow_c (A B C : Option Addr) (ca cb cc : Nat) (zs : List Int) (n : Nat) (T : Nat → Tv) (z : Int) (l : List Int) (w : World) (hG : GridIn w A B zs n T) (hl : l.length ≤ 1000) (hI : Lk.IntsAt w .i64 C l) :
    Calls Try.prog 18 #[.agg #[.slice A zs.length ca, .slice B n cb], .int .i64 z, .slice C l.length cc] w fun e w' => (∃ D, e = .returned (.slice (some ⟨D, 0, none⟩) l.length l.length) ∧ Lk.IntsAt w' .i64 (some ⟨D, 0, none⟩) (rw zs n T z l)) ∧ Below w.heap.size w w' := by
  have HH := Lib.hid (GHeld.new (ca := ca) (cb := cb) hG)
  have HG := Lib.hid hG
  have HI := Lib.hid hI
  clear hG hI
  have hmk := run_make_row' (P := Try.prog) 23 3 (.int .i64 0) 8 Try.underlying23 info_int rfl .i64 .i64 l.length (by omega) (by omega)
  have RW := Lib.hid (row_new (w.alloc (.cells #[.slice A zs.length ca, .slice B n cb] 26)) l.length fun j => Gd.atv zs n (X T) (Y T) z (Tb.g l j))
  replace HH := Lib.hid (HH.out.alloc (.cells (madeCells #[.int .i64 0] l.length) 3))
  simp only [World.size_alloc] at RW
  go_enter Try.func18, Try.ntmps18
  go_wp2_with fail
  clear hmk
  generalize hD : w.heap.size + 1 = D at *
  go_loopw [15] (fun i wr => ∃ k : Nat, k ≤ l.length ∧ i = .int .i64 k ∧ wr.rowIs D 3 l.length (put (fun j => Gd.atv zs n (X T) (Y T) z (Tb.g l j)) k) ∧ GHeld w.heap.size A B ca cb zs n T w wr) (fun i _ => l.length - (intOf i).toNat)
  case atStart => exact ⟨0, Nat.zero_le _, rfl, RW.out, HH.out⟩
  case round =>
    clear HH RW
    obtain ⟨k, hk, rfl, hr, hh⟩ := hrel
    have RW := Lib.hid hr
    have HH := Lib.hid hh
    have c0 := HH.out.c0
    have c1 := HH.out.c1
    clear hr hh
    by_cases hlt : k < l.length
    · obtain ⟨b, o, rfl, hc⟩ := cellG (HI.out.below HH.out.old) hlt
      go_wp2_with fail
      refine (gat_c _ _ ca cb zs n T z (Tb.g l k) _ HH.out.grid).mono ?_
      rintro e w8 ⟨rfl, hb⟩
      replace HH := Lib.hid (HH.out.below hb)
      replace RW := Lib.hid (row_below RW.out hb RW.out.lt)
      clear hb c0 c1 hc
      have d1 := RW.out.cell hlt
      have d2 := RW.out.frozen k
      unfold put at d1
      go_wp2_with fail
      go_roundw
      case rel => exact ⟨k + 1, by omega, by go_num, row_put RW.out, GHeld.set HG.out HH.out (p := ⟨D, k, none⟩) (by show _ ≤ D; omega) (by show D ≠ _; omega) _⟩
      case measure => simp [intOf]; omega
    · obtain rfl : k = l.length := by omega
      have hI2 := Lib.hid (row_ints (l := rw zs n T z l) RW.out (rw_length _ _ _ _ _) (fun j hj => (rw_g hj).symm))
      go_wp2_with fail
      go_ret
      exact ⟨⟨D, rfl, hI2.out⟩, HH.out.old⟩

end GridC
end Go.Proofs.Ythjefnkgfmkijaa
