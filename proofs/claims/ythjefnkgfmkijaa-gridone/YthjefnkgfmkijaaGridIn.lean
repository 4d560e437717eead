/- A grid that came in, and its box, held through calls; turbojetlaw03.few. -/
import Derived.Test.YthjefnkgfmkijaaTabHeld
import Derived.Test.YthjefnkgfmkijaaGridMath
namespace Go.Proofs.Ythjefnkgfmkijaa
namespace GridC
open Go.RowKit TabC

/-- A table as it lies in a cell: two slices. -/
structure Tv where
  A : Option Addr
  B : Option Addr
  ca : Nat
  cb : Nat
  xs : List Int
  ys : List Int
def X (T : Nat → Tv) (k : Nat) : List Int := (T k).xs
def Y (T : Nat → Tv) (k : Nat) : List Int := (T k).ys

/-- A grid that came in. -/
structure GridIn (W : World) (A B : Option Addr) (zs : List Int) (n : Nat) (T : Nat → Tv) : Prop where
  zl : zs.length ≤ 9223372036854775807
  nl : n ≤ 9223372036854775807
  za : Lk.IntsAt W .i64 A zs
  ta : ∀ i, i < n → ∃ b off, B = some ⟨b, off, none⟩ ∧ W.cell? ⟨b, off + i * 2, none⟩ = some (.slice (T i).A (T i).xs.length (T i).ca) ∧ W.cell? ⟨b, off + i * 2 + 1, none⟩ = some (.slice (T i).B (T i).ys.length (T i).cb)
  tt : ∀ i, i < n → TabIn W (T i).A (T i).B (T i).xs (T i).ys
theorem GridIn.below {W W' : World} {A B : Option Addr} {zs : List Int} {n : Nat} {T : Nat → Tv} (h : GridIn W A B zs n T) (hb : Below W.heap.size W W') : GridIn W' A B zs n T := by
  refine ⟨h.zl, h.nl, h.za.below hb, fun i hi => ?_, fun i hi => (h.tt i hi).below hb⟩
  obtain ⟨b, off, e, c1, c2⟩ := h.ta i hi
  exact ⟨b, off, e, (hb.cell (World.block_lt_of_cell? _ _ c1)).trans c1, (hb.cell (World.block_lt_of_cell? _ _ c2)).trans c2⟩
theorem GridIn.alloc {W : World} {A B : Option Addr} {zs : List Int} {n : Nat} {T : Nat → Tv} (h : GridIn W A B zs n T) (o : Obj) : GridIn (W.alloc o) A B zs n T := h.below ((Below.refl _ _).alloc (Nat.le_refl _) _)

/-- A grid, its box at m, and what was there. -/
structure GHeld (m : Nat) (A B : Option Addr) (ca cb : Nat) (zs : List Int) (n : Nat) (T : Nat → Tv) (w W : World) : Prop where
  grid : GridIn W A B zs n T
  box : Lk.BoxV W m 26 #[.slice A zs.length ca, .slice B n cb]
  old : Below w.heap.size w W
section
variable {m : Nat} {A B : Option Addr} {ca cb : Nat} {zs : List Int} {n : Nat} {T : Nat → Tv} {w W W' : World}
theorem GHeld.below (h : GHeld m A B ca cb zs n T w W) (hb : Below W.heap.size W W') : GHeld m A B ca cb zs n T w W' :=
  ⟨h.grid.below hb, h.box.below hb h.box.lt, h.old.trans (hb.mono h.old.size)⟩
theorem GHeld.drew (h : GHeld m A B ca cb zs n T w W) : GHeld m A B ca cb zs n T w W.drew := h.below (Below.refl W.heap.size W).drew
theorem GHeld.drewN (h : GHeld m A B ca cb zs n T w W) (k : Nat) : GHeld m A B ca cb zs n T w (W.drewN k) := h.below (below_drewN (Below.refl W.heap.size W) k)
theorem GHeld.alloc (h : GHeld m A B ca cb zs n T w W) (o : Obj) : GHeld m A B ca cb zs n T w (W.alloc o) := h.below ((Below.refl _ _).alloc (Nat.le_refl _) _)
theorem GHeld.new (h : GridIn w A B zs n T) : GHeld w.heap.size A B ca cb zs n T w (w.alloc (.cells #[.slice A zs.length ca, .slice B n cb] 26)) :=
  ⟨h.alloc _, Lk.BoxV.new _ _ _, (Below.refl _ _).alloc (Nat.le_refl _) _⟩
theorem GHeld.c0 (h : GHeld m A B ca cb zs n T w W) : W.cell? ⟨m, 0, none⟩ = some (.slice A zs.length ca) := by rw [h.box.cell]; rfl
theorem GHeld.c1 (h : GHeld m A B ca cb zs n T w W) : W.cell? ⟨m, 1, none⟩ = some (.slice B n cb) := by rw [h.box.cell]; rfl
theorem GHeld.tab (h : GHeld m A B ca cb zs n T w W) {i : Nat} (hi : i < n) : TabIn W (T i).A (T i).B (T i).xs (T i).ys := h.grid.tt i hi
theorem GHeld.cell (h : GHeld m A B ca cb zs n T w W) {p : Addr} {v : Value} (hp : w.cell? p = some v) : W.cell? p = some v :=
  (h.old.cell (World.block_lt_of_cell? _ _ hp)).trans hp
end

/-- A grid of which there is a place and a table: its lists lie at two addresses. -/
structure GLies (w : World) (A B : Option Addr) (zs : List Int) (n : Nat) (T : Nat → Tv) (b1 o1 b2 o2 : Nat) : Prop where
  ea : A = some ⟨b1, o1, none⟩
  eb : B = some ⟨b2, o2, none⟩
  zc : ∀ j, j < zs.length → w.cell? ⟨b1, o1 + j, none⟩ = some (.int .i64 (Tb.g zs j))
  tc0 : ∀ j, j < n → w.cell? ⟨b2, o2 + j * 2, none⟩ = some (.slice (T j).A (T j).xs.length (T j).ca)
  tc1 : ∀ j, j < n → w.cell? ⟨b2, o2 + j * 2 + 1, none⟩ = some (.slice (T j).B (T j).ys.length (T j).cb)
theorem glies_of {w : World} {A B : Option Addr} {zs : List Int} {n : Nat} {T : Nat → Tv} (h : GridIn w A B zs n T) (h1 : 0 < zs.length) (h2 : 0 < n) : ∃ b1 o1 b2 o2, GLies w A B zs n T b1 o1 b2 o2 := by
  obtain ⟨b1, o1, e1, _⟩ := cellG h.za h1
  obtain ⟨b2, o2, e2, _⟩ := h.ta 0 h2
  refine ⟨b1, o1, b2, o2, e1, e2, fun j hj => ?_, fun j hj => ?_, fun j hj => ?_⟩
  · obtain ⟨b, o, e, hc⟩ := cellG h.za hj
    rw [e1] at e
    simp only [Option.some.injEq, Addr.mk.injEq, and_true] at e
    obtain ⟨rfl, rfl⟩ := e
    exact hc
  · obtain ⟨b, o, e, hc, _⟩ := h.ta j hj
    rw [e2] at e
    simp only [Option.some.injEq, Addr.mk.injEq, and_true] at e
    obtain ⟨rfl, rfl⟩ := e
    exact hc
  · obtain ⟨b, o, e, _, hc⟩ := h.ta j hj
    rw [e2] at e
    simp only [Option.some.injEq, Addr.mk.injEq, and_true] at e
    obtain ⟨rfl, rfl⟩ := e
    exact hc

def fewG (zs : List Int) (n : Nat) (T : Nat → Tv) : Bool := decide (zs.length ≤ 20) && decide (n ≤ 20) && (List.range n).all fun k => fewB (T k).xs (T k).ys
def FewTo (T : Nat → Tv) (k : Nat) : Prop := ∀ j, j < k → fewB (T j).xs (T j).ys = true
theorem fewG_no {zs : List Int} {n : Nat} {T : Nat → Tv} {k : Nat} (hk : k < n) (h : fewB (T k).xs (T k).ys = false) : fewG zs n T = false := by
  have : ((List.range n).all fun k => fewB (T k).xs (T k).ys) = false := List.all_eq_false.2 ⟨k, List.mem_range.2 hk, by simp [h]⟩
  simp [fewG, this]
theorem fewG_yes {zs : List Int} {n : Nat} {T : Nat → Tv} (h1 : zs.length ≤ 20) (h2 : n ≤ 20) (h : FewTo T n) : fewG zs n T = true := by
  have : ((List.range n).all fun k => fewB (T k).xs (T k).ys) = true := List.all_eq_true.2 fun k hk => h k (List.mem_range.1 hk)
  simp [fewG, this, h1, h2]

set_option maxHeartbeats 1000000 in
theorem fewG_c (A B : Option Addr) (ca cb : Nat) (zs : List Int) (n : Nat) (T : Nat → Tv) (w : World) (hG : GridIn w A B zs n T) :
    Calls Try.prog 10 #[.agg #[.slice A zs.length ca, .slice B n cb]] w fun e w' => e = .returned (.bool (fewG zs n T)) ∧ Below w.heap.size w w' := by
  have HH := Lib.hid (GHeld.new (ca := ca) (cb := cb) hG)
  clear hG
  by_cases h1 : 20 < zs.length
  · have d1 : decide (20 < (zs.length : Int)) = true := by simp; omega
    have E : Hid (fewG zs n T = false) := by show _ = _; simp [fewG]; omega
    go_enter Try.func10, Try.ntmps10
    go_wp2_with fail
    go_ret
    exact ⟨ret_bool E.out.symm, HH.out.old⟩
  · have d1 : decide (20 < (zs.length : Int)) = false := by simp; omega
    by_cases h2 : 20 < n
    · have d2 : decide (20 < (n : Int)) = true := by simp; omega
      have E : Hid (fewG zs n T = false) := by show _ = _; simp [fewG]; omega
      go_enter Try.func10, Try.ntmps10
      go_wp2_with fail
      go_ret
      exact ⟨ret_bool E.out.symm, HH.out.old⟩
    · have d2 : decide (20 < (n : Int)) = false := by simp; omega
      go_enter Try.func10, Try.ntmps10
      go_wp2_with fail
      go_loopw [3] (fun i wr => ∃ k : Nat, k ≤ n ∧ i = .int .i64 k ∧ FewTo T k ∧ GHeld w.heap.size A B ca cb zs n T w wr) (fun i _ => n - (intOf i).toNat)
      case atStart => exact ⟨0, Nat.zero_le _, rfl, (fun j hj => by omega), HH.out⟩
      case round =>
        clear HH
        obtain ⟨k, hk, rfl, hF, hh⟩ := hrel
        have HF := Lib.hid hF
        have HH := Lib.hid hh
        have c0 := HH.out.c0
        have c1 := HH.out.c1
        clear hF hh
        by_cases hlt : k < n
        · obtain ⟨b, off, rfl, t0, t1⟩ := HH.out.grid.ta k hlt
          go_wp2_with fail
          refine (few_c _ _ _ _ (T k).xs (T k).ys _).mono ?_
          rintro e w9 ⟨rfl, hb⟩
          replace HH := Lib.hid (HH.out.below hb)
          clear hb
          cases hf : fewB (T k).xs (T k).ys with
          | true =>
            have HN : Hid (FewTo T (k + 1)) := fun j hj => by
              by_cases e : j = k
              · rw [e]; exact hf
              · exact HF.out j (by omega)
            go_wp2_with fail
            go_roundw
            case rel => exact ⟨k + 1, by omega, by go_num, HN.out, HH.out⟩
            case measure => simp [intOf]; omega
          | false =>
            go_wp2_with fail
            go_ret
            exact ⟨ret_bool (fewG_no hlt hf).symm, HH.out.old⟩
        · go_wp2_with fail
          go_ret
          exact ⟨ret_bool (fewG_yes (by omega) (by omega) (by rw [show n = k from by omega]; exact HF.out)).symm, HH.out.old⟩

end GridC
end Go.Proofs.Ythjefnkgfmkijaa
