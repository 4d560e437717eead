/- Contracts of the document's own answers for layer 2: they come to the same plain functions. -/
import Derived.Test.YtioiffhbbhlgeaaTabAt
namespace Go.Proofs.Ytioiffhbbhlgeaa
namespace TabC
open Go.RowKit

/-- The first k places are as they should be. -/
def FineTo (xs ys : List Int) (k : Nat) : Prop := ∀ j, j < k → (0 ≤ Tb.g xs j ∧ Tb.g xs j ≤ 1048576) ∧ (0 ≤ Tb.g ys j ∧ Tb.g ys j ≤ 1048576) ∧ (0 < j → Tb.g xs (j - 1) < Tb.g xs j)
theorem FineTo.ok {xs ys : List Int} (h : FineTo xs ys xs.length) (h2 : 2 ≤ xs.length) (h16 : xs.length ≤ 16) (hs : ys.length = xs.length) : Tb.Ok xs ys :=
  ⟨h2, h16, hs, fun k hk => (h k hk).1, fun k hk => (h k hk).2.1, fun k hk => (h (k + 1) hk).2.2 (by omega)⟩

set_option maxRecDepth 100000 in
set_option maxHeartbeats 4000000 in
theorem rcheck_len (A B : Option Addr) (ca cb : Nat) (xs ys : List Int) (w : World) (h : xs.length < 2 ∨ 16 < xs.length ∨ ys.length ≠ xs.length) :
    Calls Try.prog 55 #[.agg #[.slice A xs.length ca, .slice B ys.length cb]] w fun e w' => e = .returned (.int .i64 (Tb.err xs ys)) ∧ Below w.heap.size w w' := by
  have E := Lib.hid (err_20 (xs := xs) (ys := ys) (fun k => by have := k.two; have := k.most; have := k.same; omega))
  by_cases h1 : xs.length < 2
  · clear h
    go_enter Try.func55, Try.ntmps55
    go_wp2_with fail
    go_ret
    exact ⟨ret_int E.out.symm, (Below.refl _ _).alloc (Nat.le_refl _) _⟩
  · by_cases h2 : 16 < xs.length
    · clear h
      have d1 : decide ((xs.length : Int) < 2) = false := by simp; omega
      go_enter Try.func55, Try.ntmps55
      go_wp2_with fail
      go_ret
      exact ⟨ret_int E.out.symm, (Below.refl _ _).alloc (Nat.le_refl _) _⟩
    · have h3 : ((ys.length : Int) != (xs.length : Int)) = true := by simp; omega
      have d1 : decide ((xs.length : Int) < 2) = false := by simp; omega
      have d2 : decide (16 < (xs.length : Int)) = false := by simp; omega
      clear h
      go_enter Try.func55, Try.ntmps55
      go_wp2_with fail
      go_ret
      exact ⟨ret_int E.out.symm, (Below.refl _ _).alloc (Nat.le_refl _) _⟩

set_option maxRecDepth 100000 in
set_option maxHeartbeats 8000000 in
theorem rcheck_go (A B : Option Addr) (ca cb : Nat) (xs ys : List Int) (w : World) (hT : TabIn w A B xs ys) (h2 : 2 ≤ xs.length) (h16 : xs.length ≤ 16) (hs : ys.length = xs.length) :
    Calls Try.prog 55 #[.agg #[.slice A xs.length ca, .slice B ys.length cb]] w fun e w' => e = .returned (.int .i64 (Tb.err xs ys)) ∧ Below w.heap.size w w' := by
  have HT := Lib.hid hT
  have HSM := Lib.hid hs
  have E1 : Hid (¬ Tb.Ok xs ys → Tb.err xs ys = 20) := fun h => err_20 h
  have E2 : Hid (FineTo xs ys xs.length → Tb.err xs ys = 0) := fun h => err_0 (h.ok h2 h16 hs)
  have d1 : decide ((xs.length : Int) < 2) = false := by simp; omega
  have d2 : decide (16 < (xs.length : Int)) = false := by simp; omega
  have hn3 : ((ys.length : Int) != (xs.length : Int)) = false := by simp [hs]
  clear hT hs
  go_enter Try.func55, Try.ntmps55
  go_wp2_with fail
  go_loopw [3] (fun i wr => ∃ k : Nat, k ≤ xs.length ∧ i = .int .i64 k ∧ FineTo xs ys k ∧ Below (w.heap.size + 1) (w.alloc (.cells #[.slice A xs.length ca, .slice B ys.length cb] 24)) wr) (fun i _ => xs.length - (intOf i).toNat)
  case atStart => exact ⟨0, Nat.zero_le _, rfl, (fun j hj => by omega), Below.refl _ _⟩
  case round =>
    obtain ⟨k, hk, rfl, hF, hB⟩ := hrel
    have HF := Lib.hid hF
    clear hF
    have bT := (Lk.BoxV.new w 24 #[.slice A xs.length ca, .slice B ys.length cb]).below hB (by omega)
    have hB2 : Below w.heap.size w wr := ((Below.refl _ _).alloc (Nat.le_refl _) _).trans (hB.mono (by omega))
    have t0 := bT.cell 0
    have t1 := bT.cell 1
    simp only [List.getElem?_toArray, List.getElem?_cons_zero, List.getElem?_cons_succ] at t0 t1
    have HTB := Lib.hid (HT.out.box hB2 bT)
    have HB2 := Lib.hid hB2
    clear hB2 bT
    by_cases hlt : k < xs.length
    · obtain ⟨b1, o1, rfl, hb1, c1⟩ := HTB.out.xa k hlt
      obtain ⟨b3, o3, rfl, hb3, c3⟩ := HTB.out.ya k (by rw [HSM.out]; exact hlt)
      have hlt2 : k < ys.length := by rw [HSM.out]; exact hlt
      have HX : Hid (∀ j, j + 1 = k → wr.cell? ⟨b1, o1 + j, none⟩ = some (.int .i64 (Tb.g xs j))) := fun j hj => by
        obtain ⟨b1', o1', e1, _, c2⟩ := HTB.out.xa j (by omega)
        simp only [Option.some.injEq, Addr.mk.injEq, and_true] at e1
        obtain ⟨rfl, rfl⟩ := e1
        exact c2
      generalize hx : Tb.g xs k = x at c1
      generalize hy : Tb.g ys k = y at c3
      have GX := Lib.hid hx
      have GY := Lib.hid hy
      clear hx hy
      by_cases p1 : x < 0
      · have q1 : decide (x < 0) = true := by simp [p1]
        have E := Lib.hid (E1.out (fun o => by have := (o.xb k hlt).1; rw [GX.out] at this; omega))
        go_wp2_with fail
        go_quiet (fail)
        go_wp2_with fail
        go_ret
        exact ⟨ret_int E.out.symm, below_drewN HB2.out _⟩
      · have q1 : decide (x < 0) = false := by simp [p1]
        by_cases p2 : 1048576 < x
        · have q2 : decide (1048576 < x) = true := by simp [p2]
          have E := Lib.hid (E1.out (fun o => by have := (o.xb k hlt).2; rw [GX.out] at this; omega))
          go_wp2_with fail
          go_quiet (fail)
          go_wp2_with fail
          go_ret
          exact ⟨ret_int E.out.symm, below_drewN HB2.out _⟩
        · have q2 : decide (1048576 < x) = false := by simp [p2]
          by_cases p3 : y < 0
          · have q3 : decide (y < 0) = true := by simp [p3]
            have E := Lib.hid (E1.out (fun o => by have := (o.yb k hlt).1; rw [GY.out] at this; omega))
            go_wp2_with fail
            go_quiet (fail)
            go_wp2_with fail
            go_ret
            exact ⟨ret_int E.out.symm, below_drewN HB2.out _⟩
          · have q3 : decide (y < 0) = false := by simp [p3]
            by_cases p4 : 1048576 < y
            · have q4 : decide (1048576 < y) = true := by simp [p4]
              have E := Lib.hid (E1.out (fun o => by have := (o.yb k hlt).2; rw [GY.out] at this; omega))
              go_wp2_with fail
              go_quiet (fail)
              go_wp2_with fail
              go_ret
              exact ⟨ret_int E.out.symm, below_drewN HB2.out _⟩
            · have q4 : decide (1048576 < y) = false := by simp [p4]
              cases k with
              | zero =>
                have HN : Hid (FineTo xs ys 1) := fun j hj => by
                  obtain rfl : j = 0 := by omega
                  rw [GX.out, GY.out]; exact ⟨⟨by omega, by omega⟩, ⟨by omega, by omega⟩, fun h => by omega⟩
                rw [Nat.add_zero] at c1 c3
                rw [show ((0 : Nat) : Int) = 0 from rfl]
                have q5 : decide ((0 : Int) < 0) = false := by decide
                go_wp2_with fail
                go_quiet (fail)
                go_wp2_with fail
                go_roundw
                case rel => exact ⟨1, by omega, by go_num, HN.out, below_drewN hB _⟩
                case measure => simp [intOf]; omega
              | succ k =>
                have c5 := HX.out k rfl
                generalize hz : Tb.g xs k = z at c5
                have GZ := Lib.hid hz
                clear hz
                have e5 : IntKind.i64.wrap (k : Int) = k := IntWalk.i64_in _ (by omega)
                have g0 : k < xs.length := by omega
                have g1 : (k : Int) + 1 < (xs.length : Int) := by omega
                have g1' : (k : Int) + 1 < (ys.length : Int) := by omega
                have g2 : 0 ≤ (k : Int) + 1 := by omega
                have g3 : ((k : Int) + 1).toNat = k + 1 := by omega
                have g4 : 0 < (k : Int) + 1 := by omega
                have q6 : decide (0 < (k : Int) + 1) = true := by simp; try omega
                by_cases p5 : x ≤ z
                · have q7 : decide (x ≤ z) = true := by simp [p5]
                  have E := Lib.hid (E1.out (fun o => by have := o.up k hlt; rw [GX.out, GZ.out] at this; omega))
                  go_wp2_with fail
                  go_quiet (fail)
                  go_wp2_with fail
                  go_ret
                  exact ⟨ret_int E.out.symm, below_drewN HB2.out _⟩
                · have q7 : decide (x ≤ z) = false := by simp [p5]
                  have HN : Hid (FineTo xs ys (k + 1 + 1)) := fun j hj => by
                    by_cases e : j = k + 1
                    · subst e
                      rw [GX.out, GY.out, show k + 1 - 1 = k from by omega, GZ.out]
                      exact ⟨⟨by omega, by omega⟩, ⟨by omega, by omega⟩, fun h => by omega⟩
                    · exact HF.out j (by omega)
                  go_wp2_with fail
                  go_quiet (fail)
                  go_wp2_with fail
                  go_roundw
                  case rel => exact ⟨k + 1 + 1, by omega, by go_num, HN.out, below_drewN hB _⟩
                  case measure => simp [intOf]; omega
    · obtain rfl : k = xs.length := by omega
      have E := Lib.hid (E2.out HF.out)
      go_wp2_with fail
      go_ret
      exact ⟨ret_int E.out.symm, HB2.out⟩

theorem rcheck_c (A B : Option Addr) (ca cb : Nat) (xs ys : List Int) (w : World) (hT : TabIn w A B xs ys) :
    Calls Try.prog 55 #[.agg #[.slice A xs.length ca, .slice B ys.length cb]] w fun e w' => e = .returned (.int .i64 (Tb.err xs ys)) ∧ Below w.heap.size w w' := by
  by_cases h1 : xs.length < 2 ∨ 16 < xs.length ∨ ys.length ≠ xs.length
  · exact rcheck_len A B ca cb xs ys w h1
  · exact rcheck_go A B ca cb xs ys w hT (by omega) (by omega) (by omega)

end TabC
end Go.Proofs.Ytioiffhbbhlgeaa
