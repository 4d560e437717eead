/- Contracts of the document's own answers for layer 2, continued. -/
import Derived.Test.YtioiffhbbhlgeaaTabRef
namespace Go.Proofs.Ytioiffhbbhlgeaa
namespace TabC
open Go.RowKit

theorem rcheck_ok (A B : Option Addr) (ca cb : Nat) (xs ys : List Int) (w : World) (hT : TabIn w A B xs ys) (h : Tb.okB xs ys = true) :
    Calls Try.prog 55 #[.agg #[.slice A xs.length ca, .slice B ys.length cb]] w fun e w' => e = .returned (.int .i64 0) ∧ Below w.heap.size w w' := by
  have := rcheck_c A B ca cb xs ys w hT
  rwa [show Tb.err xs ys = 0 from by simp [Tb.err, h]] at this
theorem rcheck_no (A B : Option Addr) (ca cb : Nat) (xs ys : List Int) (w : World) (hT : TabIn w A B xs ys) (h : Tb.okB xs ys = false) :
    Calls Try.prog 55 #[.agg #[.slice A xs.length ca, .slice B ys.length cb]] w fun e w' => e = .returned (.int .i64 20) ∧ Below w.heap.size w w' := by
  have := rcheck_c A B ca cb xs ys w hT
  rwa [show Tb.err xs ys = 20 from by simp [Tb.err, h]] at this

def SortedTo (l : List Int) (k : Nat) : Prop := ∀ j, j + 1 < k → Tb.g l j ≤ Tb.g l (j + 1)

set_option maxHeartbeats 4000000 in
theorem rrising_c (A B : Option Addr) (ca cb : Nat) (xs ys : List Int) (w : World) (hT : TabIn w A B xs ys) :
    Calls Try.prog 53 #[.agg #[.slice A xs.length ca, .slice B ys.length cb]] w fun e w' => e = .returned (.bool (Tb.rsB xs ys)) ∧ Below w.heap.size w w' := by
  have HT := Lib.hid hT
  clear hT
  cases h : Tb.okB xs ys with
  | false =>
    have E : Hid (Tb.rsB xs ys = false) := by show _ = _; simp [Tb.rsB, h]
    have HO := Lib.hid h
    clear h
    go_enter Try.func53, Try.ntmps53
    go_wp2_with fail
    refine (rcheck_no A B ca cb xs ys _ (HT.out.alloc _) HO.out).mono ?_
    rintro e w1 ⟨rfl, hb⟩
    have hb2 : Below w.heap.size w w1 := ((Below.refl _ _).alloc (Nat.le_refl _) _).trans (hb.mono (by simp))
    go_wp2_with fail
    go_ret
    exact ⟨ret_bool E.out.symm, hb2⟩
  | true =>
    have HO := Lib.hid h
    have E : Hid (Tb.rsB xs ys = Tb.riB ys) := by show _ = _; simp [Tb.rsB, h]
    have hyl := HT.out.yl
    have h1 : 0 < ys.length := by have := ((Tb.ok_iff xs ys).1 h).two; have := ((Tb.ok_iff xs ys).1 h).same; omega
    clear h
    go_enter Try.func53, Try.ntmps53
    go_wp2_with fail
    refine (rcheck_ok A B ca cb xs ys _ (HT.out.alloc _) HO.out).mono ?_
    rintro e w1 ⟨rfl, hb⟩
    have hb2 : Below w.heap.size w w1 := ((Below.refl _ _).alloc (Nat.le_refl _) _).trans (hb.mono (by simp))
    have hz := hb.size
    simp only [World.size_alloc] at hz
    have bT := Lib.hid ((Lk.BoxV.new w 24 #[.slice A xs.length ca, .slice B ys.length cb]).below hb (by simp))
    have HB2 := Lib.hid hb2
    clear hb hb2
    go_wp2_with fail
    go_loopw [3] (fun i wr => ∃ k : Nat, 1 ≤ k ∧ k ≤ ys.length ∧ i = .int .i64 k ∧ SortedTo ys k ∧ Below w1.heap.size w1 wr) (fun i _ => ys.length - (intOf i).toNat)
    case atStart => exact ⟨1, Nat.le_refl _, h1, rfl, (fun j hj => by omega), Below.refl _ _⟩
    case round =>
      obtain ⟨k, hk1, hk, rfl, hF, hB⟩ := hrel
      have HF := Lib.hid hF
      have t1 := (bT.out.below hB (by omega)).cell 1
      simp only [List.getElem?_toArray, List.getElem?_cons_zero, List.getElem?_cons_succ] at t1
      have HB3 := Lib.hid (HB2.out.trans (hB.mono HB2.out.size))
      have HTB := Lib.hid (HT.out.box HB3.out (bT.out.below hB (by omega)))
      clear hF
      by_cases hlt : k < ys.length
      · obtain ⟨k, rfl⟩ : ∃ j, k = j + 1 := ⟨k - 1, by omega⟩
        obtain ⟨b3, o3, rfl, hb3, c3⟩ := HTB.out.ya k (by omega)
        obtain ⟨b4, o4, e4, _, c4⟩ := HTB.out.ya (k + 1) hlt
        simp only [Option.some.injEq, Addr.mk.injEq, and_true] at e4
        obtain ⟨rfl, rfl⟩ := e4
        generalize hx : Tb.g ys k = x at c3
        generalize hy : Tb.g ys (k + 1) = y at c4
        have GX := Lib.hid hx
        have GY := Lib.hid hy
        clear hx hy
        have e5 : IntKind.i64.wrap (k : Int) = k := IntWalk.i64_in _ (by omega)
        have g0 : k < ys.length := by omega
        have g1 : (k : Int) + 1 < (ys.length : Int) := by omega
        have g2 : 0 ≤ (k : Int) + 1 := by omega
        have g3 : ((k : Int) + 1).toNat = k + 1 := by omega
        by_cases p : y < x
        · have q : decide (y < x) = true := by simp [p]
          have EE : Hid (Tb.riB ys = false) := by
            show _ = _
            rw [Bool.eq_false_iff]; intro h
            have := (Tb.riB_iff ys).1 h k hlt
            rw [GX.out, GY.out] at this; omega
          go_wp2_with fail
          go_quiet (fail)
          go_wp2_with fail
          go_ret
          exact ⟨ret_bool (by rw [E.out, EE.out]), below_drewN HB3.out _⟩
        · have q : decide (y < x) = false := by simp [p]
          have HN : Hid (SortedTo ys (k + 1 + 1)) := fun j hj => by
            by_cases e : j = k
            · subst e; rw [GX.out, GY.out]; omega
            · exact HF.out j (by omega)
          go_wp2_with fail
          go_quiet (fail)
          go_wp2_with fail
          go_roundw
          case rel => exact ⟨k + 1 + 1, by omega, by omega, by go_num, HN.out, below_drewN hB _⟩
          case measure => simp [intOf]; omega
      · obtain rfl : k = ys.length := by omega
        have EE := Lib.hid ((Tb.riB_iff ys).2 HF.out)
        go_wp2_with fail
        go_ret
        exact ⟨ret_bool (by rw [E.out, EE.out]), HB3.out⟩

theorem below_eq {a b : Int} (hb : 0 < b) : a / b = if a < a.tdiv b * b then a.tdiv b - 1 else a.tdiv b := by
  have e := floor_eq (a := a) hb
  have m := Int.mul_tdiv_add_tmod a b
  rw [Int.mul_comm] at m
  by_cases c : a.tmod b < 0
  · rw [if_pos c] at e; rw [if_pos (by omega)]; exact e
  · rw [if_neg c] at e; rw [if_neg (by omega)]; exact e

theorem tdiv_mul_bd {a b : Int} (hb : 0 < b) (h1 : -4611686018427387904 ≤ a) (h2 : a ≤ 4611686018427387904) (hb2 : b ≤ 1048576) : -4611686018428436480 ≤ a.tdiv b * b ∧ a.tdiv b * b ≤ 4611686018428436480 := by
  have m := Int.mul_tdiv_add_tmod a b
  rw [Int.mul_comm] at m
  have t1 := Int.tmod_lt_of_pos a hb
  have t2 := Int.lt_tmod_of_pos a hb
  omega

theorem rbelow_c (a b : Int) (w : World) (hb : 0 < b) (h1 : -4611686018427387904 ≤ a) (h2 : a ≤ 4611686018427387904) (hb2 : b ≤ 1048576) :
    Calls Try.prog 65 #[.int .i64 a, .int .i64 b] w fun e w' => e = .returned (.int .i64 (a / b)) ∧ w = w' := by
  have HF := Lib.hid (below_eq (a := a) hb)
  have hq := tdivB (b := b) h1 h2
  have hm := tdiv_mul_bd hb h1 h2 hb2
  have hb0 : (b == 0) = false := by simp; omega
  by_cases c : a < a.tdiv b * b
  · have E : Hid (a / b = a.tdiv b - 1) := by rw [HF.out, if_pos c]; rfl
    clear HF
    go_enter Try.func65, Try.ntmps65
    go_wp2
    go_ret
    exact ⟨ret_int E.out.symm, rfl⟩
  · have E : Hid (a / b = a.tdiv b) := by rw [HF.out, if_neg c]; rfl
    clear HF
    go_enter Try.func65, Try.ntmps65
    go_wp2
    go_ret
    exact ⟨ret_int E.out.symm, rfl⟩

end TabC
end Go.Proofs.Ytioiffhbbhlgeaa
