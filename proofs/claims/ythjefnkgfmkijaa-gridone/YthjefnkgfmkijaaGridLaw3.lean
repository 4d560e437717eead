/- The walk of GridOne. -/
import Derived.Test.YthjefnkgfmkijaaGridLaw1
import Derived.Deep.RegionHeld3
namespace Go.Proofs.Ythjefnkgfmkijaa
namespace GridC
open Go.RowKit TabC

/-- The table, and the grids that are made of it, from block N on. -/
structure Ones (N : Nat) (A B : Option Addr) (ca cb : Nat) (xs ys : List Int) (w W : World) : Prop where
  tab : Held w.heap.size A B ca cb xs ys w W
  one : GHeld (N + 1 + 1) (some ⟨N, 0, none⟩) (some ⟨N + 1, 0, none⟩) 1 1 [7] 1 (fun _ => (⟨A, B, ca, cb, xs, ys⟩ : Tv)) w W
  two : GHeld (N + 1 + 1 + 1 + 1 + 1) (some ⟨N + 1 + 1 + 1, 0, none⟩) (some ⟨N + 1 + 1 + 1 + 1, 0, none⟩) 2 2 [7, 90] 2 (fun _ => (⟨A, B, ca, cb, xs, ys⟩ : Tv)) w W
theorem Ones.below {N : Nat} {A B : Option Addr} {ca cb : Nat} {xs ys : List Int} {w W W' : World} (h : Ones N A B ca cb xs ys w W) (hb : Below W.heap.size W W') : Ones N A B ca cb xs ys w W' := ⟨h.tab.below hb, h.one.below hb, h.two.below hb⟩
theorem Ones.drew {N : Nat} {A B : Option Addr} {ca cb : Nat} {xs ys : List Int} {w W : World} (h : Ones N A B ca cb xs ys w W) : Ones N A B ca cb xs ys w W.drew := ⟨h.tab.drew, h.one.drew, h.two.drew⟩
theorem ones_new {A B : Option Addr} {ca cb : Nat} {xs ys : List Int} {w W : World} (h : Held w.heap.size A B ca cb xs ys w W) : Ones W.heap.size A B ca cb xs ys w ((((((W.alloc (.cells #[.int .i64 7] 3)).alloc (.cells #[.slice A xs.length ca, .slice B ys.length cb] 37)).alloc (.cells #[.slice (some ⟨W.heap.size, 0, none⟩) 1 1, .slice (some ⟨W.heap.size + 1, 0, none⟩) 1 1] 26)).alloc (.cells #[.int .i64 7, .int .i64 90] 3)).alloc (.cells #[.slice A xs.length ca, .slice B ys.length cb, .slice A xs.length ca, .slice B ys.length cb] 37)).alloc (.cells #[.slice (some ⟨W.heap.size + 1 + 1 + 1, 0, none⟩) 2 2, .slice (some ⟨W.heap.size + 1 + 1 + 1 + 1, 0, none⟩) 2 2] 26)) := by
  have b0 := ((((((Lk.BoxV.new W 3 #[.int .i64 7]).alloc (.cells #[.slice A xs.length ca, .slice B ys.length cb] 37)).alloc (.cells #[.slice (some ⟨W.heap.size, 0, none⟩) 1 1, .slice (some ⟨W.heap.size + 1, 0, none⟩) 1 1] 26)).alloc (.cells #[.int .i64 7, .int .i64 90] 3)).alloc (.cells #[.slice A xs.length ca, .slice B ys.length cb, .slice A xs.length ca, .slice B ys.length cb] 37)).alloc (.cells #[.slice (some ⟨W.heap.size + 1 + 1 + 1, 0, none⟩) 2 2, .slice (some ⟨W.heap.size + 1 + 1 + 1 + 1, 0, none⟩) 2 2] 26))
  have b1 := (((((Lk.BoxV.new (W.alloc (.cells #[.int .i64 7] 3)) 37 #[.slice A xs.length ca, .slice B ys.length cb]).alloc (.cells #[.slice (some ⟨W.heap.size, 0, none⟩) 1 1, .slice (some ⟨W.heap.size + 1, 0, none⟩) 1 1] 26)).alloc (.cells #[.int .i64 7, .int .i64 90] 3)).alloc (.cells #[.slice A xs.length ca, .slice B ys.length cb, .slice A xs.length ca, .slice B ys.length cb] 37)).alloc (.cells #[.slice (some ⟨W.heap.size + 1 + 1 + 1, 0, none⟩) 2 2, .slice (some ⟨W.heap.size + 1 + 1 + 1 + 1, 0, none⟩) 2 2] 26))
  have b2 := ((((Lk.BoxV.new ((W.alloc (.cells #[.int .i64 7] 3)).alloc (.cells #[.slice A xs.length ca, .slice B ys.length cb] 37)) 26 #[.slice (some ⟨W.heap.size, 0, none⟩) 1 1, .slice (some ⟨W.heap.size + 1, 0, none⟩) 1 1]).alloc (.cells #[.int .i64 7, .int .i64 90] 3)).alloc (.cells #[.slice A xs.length ca, .slice B ys.length cb, .slice A xs.length ca, .slice B ys.length cb] 37)).alloc (.cells #[.slice (some ⟨W.heap.size + 1 + 1 + 1, 0, none⟩) 2 2, .slice (some ⟨W.heap.size + 1 + 1 + 1 + 1, 0, none⟩) 2 2] 26))
  have b3 := (((Lk.BoxV.new (((W.alloc (.cells #[.int .i64 7] 3)).alloc (.cells #[.slice A xs.length ca, .slice B ys.length cb] 37)).alloc (.cells #[.slice (some ⟨W.heap.size, 0, none⟩) 1 1, .slice (some ⟨W.heap.size + 1, 0, none⟩) 1 1] 26)) 3 #[.int .i64 7, .int .i64 90]).alloc (.cells #[.slice A xs.length ca, .slice B ys.length cb, .slice A xs.length ca, .slice B ys.length cb] 37)).alloc (.cells #[.slice (some ⟨W.heap.size + 1 + 1 + 1, 0, none⟩) 2 2, .slice (some ⟨W.heap.size + 1 + 1 + 1 + 1, 0, none⟩) 2 2] 26))
  have b4 := ((Lk.BoxV.new ((((W.alloc (.cells #[.int .i64 7] 3)).alloc (.cells #[.slice A xs.length ca, .slice B ys.length cb] 37)).alloc (.cells #[.slice (some ⟨W.heap.size, 0, none⟩) 1 1, .slice (some ⟨W.heap.size + 1, 0, none⟩) 1 1] 26)).alloc (.cells #[.int .i64 7, .int .i64 90] 3)) 37 #[.slice A xs.length ca, .slice B ys.length cb, .slice A xs.length ca, .slice B ys.length cb]).alloc (.cells #[.slice (some ⟨W.heap.size + 1 + 1 + 1, 0, none⟩) 2 2, .slice (some ⟨W.heap.size + 1 + 1 + 1 + 1, 0, none⟩) 2 2] 26))
  have b5 := (Lk.BoxV.new (((((W.alloc (.cells #[.int .i64 7] 3)).alloc (.cells #[.slice A xs.length ca, .slice B ys.length cb] 37)).alloc (.cells #[.slice (some ⟨W.heap.size, 0, none⟩) 1 1, .slice (some ⟨W.heap.size + 1, 0, none⟩) 1 1] 26)).alloc (.cells #[.int .i64 7, .int .i64 90] 3)).alloc (.cells #[.slice A xs.length ca, .slice B ys.length cb, .slice A xs.length ca, .slice B ys.length cb] 37)) 26 #[.slice (some ⟨W.heap.size + 1 + 1 + 1, 0, none⟩) 2 2, .slice (some ⟨W.heap.size + 1 + 1 + 1 + 1, 0, none⟩) 2 2])
  simp only [World.size_alloc] at b1 b2 b3 b4 b5
  have hb : Below W.heap.size W ((((((W.alloc (.cells #[.int .i64 7] 3)).alloc (.cells #[.slice A xs.length ca, .slice B ys.length cb] 37)).alloc (.cells #[.slice (some ⟨W.heap.size, 0, none⟩) 1 1, .slice (some ⟨W.heap.size + 1, 0, none⟩) 1 1] 26)).alloc (.cells #[.int .i64 7, .int .i64 90] 3)).alloc (.cells #[.slice A xs.length ca, .slice B ys.length cb, .slice A xs.length ca, .slice B ys.length cb] 37)).alloc (.cells #[.slice (some ⟨W.heap.size + 1 + 1 + 1, 0, none⟩) 2 2, .slice (some ⟨W.heap.size + 1 + 1 + 1 + 1, 0, none⟩) 2 2] 26)) := (((((((Below.refl _ _).alloc (by simp <;> omega) _).alloc (by simp <;> omega) _).alloc (by simp <;> omega) _).alloc (by simp <;> omega) _).alloc (by simp <;> omega) _).alloc (by simp <;> omega) _)
  have ht := h.below hb
  refine ⟨ht, ⟨⟨by decide, by decide, ints_box (l := [7]) b0, ?_, fun _ _ => ht.tab⟩, b2, ht.old⟩, ⟨⟨by decide, by decide, ints_box (l := [7, 90]) b3, ?_, fun _ _ => ht.tab⟩, b5, ht.old⟩⟩
  · intro i hi
    obtain rfl : i = 0 := by omega
    exact ⟨W.heap.size + 1, 0, rfl, (b1.cell 0).trans rfl, (b1.cell 1).trans rfl⟩
  · intro i hi
    have : i = 0 ∨ i = 1 := by omega
    rcases this with rfl | rfl
    · exact ⟨W.heap.size + 1 + 1 + 1 + 1, 0, rfl, (b4.cell 0).trans rfl, (b4.cell 1).trans rfl⟩
    · exact ⟨W.heap.size + 1 + 1 + 1 + 1, 0, rfl, (b4.cell 2).trans rfl, (b4.cell 3).trans rfl⟩

theorem trising_is {A B : Option Addr} {ca cb : Nat} {xs ys : List Int} {W : World} (hT : TabIn W A B xs ys) {b : Bool} (h : Tb.rsB xs ys = b) :
    Calls Try.prog 22 #[.agg #[.slice A xs.length ca, .slice B ys.length cb]] W fun e w' => e = .returned (.bool b) ∧ Below W.heap.size W w' := by
  have := rising_c A B ca cb xs ys W hT
  rwa [h] at this
theorem one_at {xs ys : List Int} {A B : Option Addr} {ca cb : Nat} (h : Tb.okB xs ys = true) (z x : Int) : Gd.atv [7] 1 (X (fun _ => (⟨A, B, ca, cb, xs, ys⟩ : Tv))) (Y (fun _ => (⟨A, B, ca, cb, xs, ys⟩ : Tv))) z x = Tb.atv xs ys x := by
  rw [gatv_ok ((Gd.ok_iff _ _ _ _).2 (Gd.one_ok (X := X (fun _ => (⟨A, B, ca, cb, xs, ys⟩ : Tv))) (Y := Y (fun _ => (⟨A, B, ca, cb, xs, ys⟩ : Tv))) (by decide) (by decide) h))]
  simp [Gd.atO, X, Y]
theorem two_at {xs ys : List Int} {A B : Option Addr} {ca cb : Nat} (h : Tb.okB xs ys = true) (z x : Int) : Gd.atv [7, 90] 2 (X (fun _ => (⟨A, B, ca, cb, xs, ys⟩ : Tv))) (Y (fun _ => (⟨A, B, ca, cb, xs, ys⟩ : Tv))) z x = Tb.atv xs ys x := by
  rw [gatv_ok ((Gd.ok_iff _ _ _ _).2 (Gd.two_ok (X := X (fun _ => (⟨A, B, ca, cb, xs, ys⟩ : Tv))) (Y := Y (fun _ => (⟨A, B, ca, cb, xs, ys⟩ : Tv))) (by decide) (by decide) (by decide) h h))]
  exact Gd.two_at (by decide) (by decide) (by decide) h rfl rfl z x
theorem one_rs {xs ys : List Int} {A B : Option Addr} {ca cb : Nat} (h : Tb.okB xs ys = true) : Gd.rsB [7] 1 (X (fun _ => (⟨A, B, ca, cb, xs, ys⟩ : Tv))) (Y (fun _ => (⟨A, B, ca, cb, xs, ys⟩ : Tv))) = Tb.rsB xs ys := Gd.one_rs (by decide) (by decide) h
theorem two_rs {xs ys : List Int} {A B : Option Addr} {ca cb : Nat} (h : Tb.okB xs ys = true) : Gd.rsB [7, 90] 2 (X (fun _ => (⟨A, B, ca, cb, xs, ys⟩ : Tv))) (Y (fun _ => (⟨A, B, ca, cb, xs, ys⟩ : Tv))) = Tb.rsB xs ys := Gd.two_rs (by decide) (by decide) (by decide) h rfl rfl

set_option maxRecDepth 100000 in
set_option maxHeartbeats 8000000 in
theorem one_few (A B : Option Addr) (ca cb : Nat) (xs ys : List Int) (z x : Int) (w : World) (hT : TabIn w A B xs ys) (hf : 40 < xs.length ∨ 40 < ys.length) :
    Calls Try.prog 8 #[.agg #[.slice A xs.length ca, .slice B ys.length cb], .int .i64 z, .int .i64 x] w fun e w' => e = .returned (.bool true) ∧ Below w.heap.size w w' := by
  have HH := Lib.hid (Held.new (ca := ca) (cb := cb) hT)
  clear hT
  go_enter Try.func8, Try.ntmps8
  go_wp2_with fail
  refine (awake_c _).mono ?_
  rintro e w9 ⟨rfl, hb⟩
  replace HH := Lib.hid (HH.out.below hb)
  replace c0 := HH.out.c0
  replace c1 := HH.out.c1
  clear hb
  go_wp2_with fail
  refine (few_no A B ca cb xs ys _ hf).mono ?_
  rintro e w9 ⟨rfl, hb⟩
  replace HH := Lib.hid (HH.out.below hb)
  replace c0 := HH.out.c0
  replace c1 := HH.out.c1
  clear hb
  go_wp2_with fail
  go_ret
  exact ⟨rfl, HH.out.old⟩

set_option maxRecDepth 100000 in
set_option maxHeartbeats 8000000 in
theorem one_no (A B : Option Addr) (ca cb : Nat) (xs ys : List Int) (z x : Int) (w : World) (hT : TabIn w A B xs ys) (hf1 : xs.length ≤ 40) (hf2 : ys.length ≤ 40) (hO : Tb.okB xs ys = false) :
    Calls Try.prog 8 #[.agg #[.slice A xs.length ca, .slice B ys.length cb], .int .i64 z, .int .i64 x] w fun e w' => e = .returned (.bool true) ∧ Below w.heap.size w w' := by
  have HH := Lib.hid (Held.new (ca := ca) (cb := cb) hT)
  have HO := Lib.hid hO
  clear hT hO
  go_enter Try.func8, Try.ntmps8
  go_wp2_with fail
  refine (awake_c _).mono ?_
  rintro e w9 ⟨rfl, hb⟩
  replace HH := Lib.hid (HH.out.below hb)
  replace c0 := HH.out.c0
  replace c1 := HH.out.c1
  clear hb
  go_wp2_with fail
  refine (few_yes A B ca cb xs ys _ hf1 hf2).mono ?_
  rintro e w9 ⟨rfl, hb⟩
  replace HH := Lib.hid (HH.out.below hb)
  replace c0 := HH.out.c0
  replace c1 := HH.out.c1
  clear hb
  go_wp2_with fail
  refine (check_no A B ca cb xs ys _ HH.out.tab HO.out).mono ?_
  rintro e w9 ⟨rfl, hb⟩
  replace HH := Lib.hid (HH.out.below hb)
  replace c0 := HH.out.c0
  replace c1 := HH.out.c1
  clear hb
  go_wp2_with fail
  go_ret
  exact ⟨rfl, HH.out.old⟩

set_option maxRecDepth 100000 in
set_option maxHeartbeats 8000000 in
theorem one_ok (A B : Option Addr) (ca cb : Nat) (xs ys : List Int) (z x : Int) (w : World) (hT : TabIn w A B xs ys) (hf1 : xs.length ≤ 40) (hf2 : ys.length ≤ 40) (hO : Tb.okB xs ys = true) :
    Calls Try.prog 8 #[.agg #[.slice A xs.length ca, .slice B ys.length cb], .int .i64 z, .int .i64 x] w fun e w' => e = .returned (.bool true) ∧ Below w.heap.size w w' := by
  have HH := Lib.hid (Held.new (ca := ca) (cb := cb) hT)
  have HO := Lib.hid hO
  have Q1 := Lib.hid (one_at (A := A) (B := B) (ca := ca) (cb := cb) hO z x)
  have Q2 := Lib.hid (two_at (A := A) (B := B) (ca := ca) (cb := cb) hO z x)
  have Q3 := Lib.hid (one_rs (A := A) (B := B) (ca := ca) (cb := cb) hO)
  have Q4 := Lib.hid (two_rs (A := A) (B := B) (ca := ca) (cb := cb) hO)
  clear hT hO
  go_enter Try.func8, Try.ntmps8
  go_wp2_with fail
  refine (awake_c _).mono ?_
  rintro e w9 ⟨rfl, hb⟩
  replace HH := Lib.hid (HH.out.below hb)
  replace c0 := HH.out.c0
  replace c1 := HH.out.c1
  clear hb
  go_wp2_with fail
  refine (few_yes A B ca cb xs ys _ hf1 hf2).mono ?_
  rintro e w9 ⟨rfl, hb⟩
  replace HH := Lib.hid (HH.out.below hb)
  replace c0 := HH.out.c0
  replace c1 := HH.out.c1
  clear hb
  go_wp2_with fail
  refine (check_ok A B ca cb xs ys _ HH.out.tab HO.out).mono ?_
  rintro e w9 ⟨rfl, hb⟩
  replace HH := Lib.hid (HH.out.below hb)
  replace c0 := HH.out.c0
  replace c1 := HH.out.c1
  clear hb
  have h1 := Lib.hid (HH.out.alloc (.cells #[.int .i64 7] 3))
  have h4 := Lib.hid ((((HH.out.alloc (.cells #[.int .i64 7] 3)).alloc (.cells #[.slice A xs.length ca, .slice B ys.length cb] 37)).alloc (.cells #[.slice (some ⟨w9.heap.size, 0, none⟩) 1 1, .slice (some ⟨w9.heap.size + 1, 0, none⟩) 1 1] 26)).alloc (.cells #[.int .i64 7, .int .i64 90] 3))
  have OO := Lib.hid (ones_new HH.out)
  have f0 := h1.out.c0
  have f1 := h1.out.c1
  have g0 := h4.out.c0
  have g1 := h4.out.c1
  have k0 := OO.out.tab.c0
  have k1 := OO.out.tab.c1
  go_wp2_with fail
  clear c0 c1 f0 f1 g0 g1 k0 k1 h1 h4 HH
  refine (atv_c A B ca cb xs ys x _ OO.out.tab.tab).mono ?_
  rintro e w8 ⟨rfl, hb⟩
  replace OO := Lib.hid (OO.out.below hb)
  clear hb
  generalize w9.heap.size = N at *
  generalize Tb.atv xs ys x = V at *
  generalize hR : Tb.rsB xs ys = R at *
  have HR := Lib.hid hR
  clear hR
  have k1 : ∀ W, Ones N A B ca cb xs ys w W → Calls Try.prog 12 #[.agg #[.slice (some ⟨N, 0, none⟩) 1 1, .slice (some ⟨N + 1, 0, none⟩) 1 1], .int .i64 z, .int .i64 x] W fun e w' => e = .returned (.int .i64 V) ∧ Below W.heap.size W w' := fun W h => at_is h.one.grid Q1.out
  have k2 : ∀ W, Ones N A B ca cb xs ys w W → Calls Try.prog 12 #[.agg #[.slice (some ⟨N + 1 + 1 + 1, 0, none⟩) 2 2, .slice (some ⟨N + 1 + 1 + 1 + 1, 0, none⟩) 2 2], .int .i64 z, .int .i64 x] W fun e w' => e = .returned (.int .i64 V) ∧ Below W.heap.size W w' := fun W h => at_is h.two.grid Q2.out
  have k3 : ∀ W, Ones N A B ca cb xs ys w W → Calls Try.prog 15 #[.agg #[.slice (some ⟨N, 0, none⟩) 1 1, .slice (some ⟨N + 1, 0, none⟩) 1 1]] W fun e w' => e = .returned (.bool R) ∧ Below W.heap.size W w' := fun W h => rising_is h.one.grid Q3.out
  have k4 : ∀ W, Ones N A B ca cb xs ys w W → Calls Try.prog 15 #[.agg #[.slice (some ⟨N + 1 + 1 + 1, 0, none⟩) 2 2, .slice (some ⟨N + 1 + 1 + 1 + 1, 0, none⟩) 2 2]] W fun e w' => e = .returned (.bool R) ∧ Below W.heap.size W w' := fun W h => rising_is h.two.grid Q4.out
  have K1 := Lib.hid k1
  have K2 := Lib.hid k2
  have K3 := Lib.hid k3
  have K4 := Lib.hid k4
  clear k1 k2 k3 k4 Q1 Q2 Q3 Q4
  have KP : Hid (∀ W, Ones N A B ca cb xs ys w W → (fun W => Ones N A B ca cb xs ys w W ∧ W.cell? ⟨w.heap.size, 0, none⟩ = some (.slice A xs.length ca) ∧ W.cell? ⟨w.heap.size, 1, none⟩ = some (.slice B ys.length cb) ∧ W.cell? ⟨N + 1 + 1, 0, none⟩ = some (.slice (some ⟨N, 0, none⟩) 1 1) ∧ W.cell? ⟨N + 1 + 1, 1, none⟩ = some (.slice (some ⟨N + 1, 0, none⟩) 1 1) ∧ W.cell? ⟨N + 1 + 1 + 1 + 1 + 1, 0, none⟩ = some (.slice (some ⟨N + 1 + 1 + 1, 0, none⟩) 2 2) ∧ W.cell? ⟨N + 1 + 1 + 1 + 1 + 1, 1, none⟩ = some (.slice (some ⟨N + 1 + 1 + 1 + 1, 0, none⟩) 2 2)) W) := fun W h => ⟨h, h.tab.c0, h.tab.c1, h.one.c0, h.one.c1, h.two.c0, h.two.c1⟩
  go_wp2_with fail
  go_region_held3 (fun W => Ones N A B ca cb xs ys w W ∧ W.cell? ⟨w.heap.size, 0, none⟩ = some (.slice A xs.length ca) ∧ W.cell? ⟨w.heap.size, 1, none⟩ = some (.slice B ys.length cb) ∧ W.cell? ⟨N + 1 + 1, 0, none⟩ = some (.slice (some ⟨N, 0, none⟩) 1 1) ∧ W.cell? ⟨N + 1 + 1, 1, none⟩ = some (.slice (some ⟨N + 1, 0, none⟩) 1 1) ∧ W.cell? ⟨N + 1 + 1 + 1 + 1 + 1, 0, none⟩ = some (.slice (some ⟨N + 1 + 1 + 1, 0, none⟩) 2 2) ∧ W.cell? ⟨N + 1 + 1 + 1 + 1 + 1, 1, none⟩ = some (.slice (some ⟨N + 1 + 1 + 1 + 1, 0, none⟩) 2 2))
    (first | exact KP.out _ OO.out | exact KP.out _ OO.out.drew | exact KP.out _ (Ones.below (And.left (by assumption)) (by assumption)) | go_keep)
    (first
      | (go_at_call 12; (with_reducible refine (K1.out _ (And.left (by assumption))).mono ?_); rintro e w9 ⟨rfl, hb⟩)
      | (go_at_call 12; (with_reducible refine (K2.out _ (And.left (by assumption))).mono ?_); rintro e w9 ⟨rfl, hb⟩)
      | (go_at_call 15; (with_reducible refine (K3.out _ (And.left (by assumption))).mono ?_); rintro e w9 ⟨rfl, hb⟩)
      | (go_at_call 15; (with_reducible refine (K4.out _ (And.left (by assumption))).mono ?_); rintro e w9 ⟨rfl, hb⟩)
      | (go_at_call 22; refine (trising_is (Held.tab (Ones.tab (And.left (by assumption)))) HR.out).mono ?_; rintro e w9 ⟨rfl, hb⟩))
  all_goals
    have hk9 : Ones N A B ca cb xs ys w w9 := And.left (by assumption)
    go_wp2_with fail
    go_ret
    exact ⟨rfl, hk9.tab.old⟩

theorem GridOne_walk (A B : Option Addr) (ca cb : Nat) (xs ys : List Int) (z x : Int) (w : World) (hT : TabIn w A B xs ys) :
    Calls Try.prog 8 #[.agg #[.slice A xs.length ca, .slice B ys.length cb], .int .i64 z, .int .i64 x] w fun e w' => e = .returned (.bool true) ∧ Below w.heap.size w w' := by
  by_cases hf : 40 < xs.length ∨ 40 < ys.length
  · exact one_few A B ca cb xs ys z x w hT hf
  · cases hO : Tb.okB xs ys with
    | false => exact one_no A B ca cb xs ys z x w hT (by omega) (by omega) hO
    | true => exact one_ok A B ca cb xs ys z x w hT (by omega) (by omega) hO

end GridC
end Go.Proofs.Ythjefnkgfmkijaa
