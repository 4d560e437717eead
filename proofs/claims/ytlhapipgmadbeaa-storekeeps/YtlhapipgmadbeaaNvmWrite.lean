/- Contracts of the program's memory: Write, Read, Arm, Up, Down, Many, Words. -/
import Derived.Test.YtlhapipgmadbeaaNvmCalls
namespace Go.Proofs.Ytlhapipgmadbeaa
namespace Nw
open Go.RowKit Nv

/-- A write that is none: an error, and what it leaves of the memory. -/
theorem write_err (b d : Nat) (m' : M) (i x E : Int) (w : World) (hE : E ≠ 0)
    (hc : Calls Try.prog 43 #[.pointer (some ⟨b, 0, none⟩), .int .i64 i, .bool true] w fun e w' => e = .returned (.int .i64 E) ∧ Mem w' b d m' ∧ Off2 b d w w') :
    Calls Try.prog 23 #[.pointer (some ⟨b, 0, none⟩), .int .i64 i, .int .u32 x] w fun e w' => e = .returned (.int .i64 E) ∧ Mem w' b d m' ∧ Off2 b d w w' := by
  have HC := Lib.hid hc
  have d1 : (E == 0) = false := by simp [hE]
  clear hc
  go_enter Try.func23, Try.ntmps23
  go_wp2_with fail
  refine HC.out.mono ?_
  rintro e w1 ⟨rfl, h1, h2⟩
  have HZ := Lib.hid (And.intro h1 h2)
  clear h1 h2 HC
  go_wp2_with fail
  go_ret
  exact ⟨rfl, HZ.out⟩

set_option maxHeartbeats 1600000 in
theorem write_ok (b d : Nat) (m : M) (k : Nat) (x : Int) (w : World) (h : Mem w b d m) (hf : Few m) (hg : m.gone = false) (hk : k < m.ws.length) (hl : m.left ≠ 0) :
    Calls Try.prog 23 #[.pointer (some ⟨b, 0, none⟩), .int .i64 k, .int .u32 x] w fun e w' => e = .returned (.int .i64 0) ∧ Mem w' b d { m with ws := m.ws.set k x, left := if 0 < m.left then m.left - 1 else m.left, many := m.many + 1 } ∧ Off2 b d w w' := by
  have HC := Lib.hid (wrong_ok b d m k true w h hg (in_iff.2 ⟨by omega, by omega⟩) (fun _ => hl))
  have hk' : (k : Int) < (m.ws.length : Int) := by omega
  have HN := Lib.hid h
  obtain ⟨q1, q2, q3⟩ := hf
  by_cases hp : 0 < m.left
  · have d1 : decide (0 ≤ m.left) = true := by simp; omega
    have d2 : max m.left 0 = m.left := by omega
    have H1 := Lib.hid (h.s3 (x := m.left - 1) (by omega) (by omega))
    have H2 := Lib.hid (H1.out.sw hk x)
    have c0 := h.c0
    have c2 := h.c2
    have c3 := h.c3
    have f3 := h.fz 3
    rw [d1] at c2
    rw [d2] at c3
    have e0 := H1.out.c0
    have e1 := H1.out.ws.cell hk
    have e2 := H1.out.ws.frozen k
    simp only [] at e0 e1 e2
    clear h
    go_enter Try.func23, Try.ntmps23
    go_wp2_with fail
    refine HC.out.mono ?_
    rintro e w1 ⟨rfl, rfl⟩
    go_wp2_with fail
    refine (Sy.iadd b 4 m.many _ q2 q3 H2.out.c4 (H2.out.fz 4)).mono ?_
    rintro e w2 ⟨rfl, hw⟩
    have HZ : Hid (Mem w2 b d { m with ws := m.ws.set k x, left := m.left - 1, many := m.many + 1 }) := Lib.hid (hw ▸ H2.out.s4 (m.many + 1))
    have HO : Hid (Off2 b d w w2) := Lib.hid (hw ▸ (((Off2.refl b d w).set 3 _).put k _).set 4 _)
    clear hw
    go_wp2_with fail
    go_ret
    have hz := HZ.out
    rw [hg] at hz
    exact ⟨rfl, hz, HO.out⟩
  · have d1 : decide (0 ≤ m.left) = false := by simp; omega
    have H2 := Lib.hid (h.sw hk x)
    have c0 := h.c0
    have c2 := h.c2
    rw [d1] at c2
    have e1 := h.ws.cell hk
    have e2 := h.ws.frozen k
    clear h
    go_enter Try.func23, Try.ntmps23
    go_wp2_with fail
    refine HC.out.mono ?_
    rintro e w1 ⟨rfl, rfl⟩
    go_wp2_with fail
    refine (Sy.iadd b 4 m.many _ q2 q3 H2.out.c4 (H2.out.fz 4)).mono ?_
    rintro e w2 ⟨rfl, hw⟩
    have HZ : Hid (Mem w2 b d { m with ws := m.ws.set k x, many := m.many + 1 }) := Lib.hid (hw ▸ H2.out.s4 (m.many + 1))
    have HO : Hid (Off2 b d w w2) := Lib.hid (hw ▸ ((Off2.refl b d w).put k _).set 4 _)
    clear hw
    go_wp2_with fail
    go_ret
    have hz := HZ.out
    rw [hg] at hz
    exact ⟨rfl, hz, HO.out⟩

/-- Write: its error, and the memory behind it. -/
theorem write_c (b d : Nat) (m : M) (i x : Int) (w : World) (h : Mem w b d m) (hf : Few m) :
    Calls Try.prog 23 #[.pointer (some ⟨b, 0, none⟩), .int .i64 i, .int .u32 x] w fun e w' => e = .returned (.int .i64 (werr m i)) ∧ Mem w' b d (wput m i x) ∧ Off2 b d w w' := by
  cases hg : m.gone with
  | true =>
    rw [show werr m i = 110 from by simp [werr, hg], show wput m i x = m from by simp [wput, hg]]
    exact write_err b d m i x 110 w (by decide) (wrong_gone b d m i true w h hg)
  | false =>
    cases hi : inB m i with
    | false =>
      rw [show werr m i = 111 from by simp [werr, hg, hi], show wput m i x = m from by simp [wput, hg, hi]]
      refine write_err b d m i x 111 w (by decide) ((wrong_out b d m i true w h hg hi).mono ?_)
      rintro e w' ⟨rfl, rfl⟩
      exact ⟨rfl, h, Off2.refl _ _ _⟩
    | true =>
      by_cases hl : m.left = 0
      · rw [show werr m i = 110 from by simp [werr, hg, hi, hl], show wput m i x = { m with gone := true } from by simp [wput, hg, hi, hl]]
        exact write_err b d _ i x 110 w (by decide) (wrong_goes b d m i w h hg hi hl)
      · obtain ⟨h0, h1⟩ := in_iff.1 hi
        obtain ⟨k, rfl⟩ : ∃ k : Nat, i = k := ⟨i.toNat, by omega⟩
        have := write_ok b d m k x w h hf hg (by omega) hl
        rw [show werr m k = 0 from by simp [werr, hg, hi, hl], show wput m k x = { m with ws := m.ws.set k x, left := if 0 < m.left then m.left - 1 else m.left, many := m.many + 1 } from by simp [wput, hg, hi, hl]]
        exact this

theorem read_err (b d : Nat) (m : M) (i E : Int) (w : World) (hE : E ≠ 0)
    (hc : Calls Try.prog 43 #[.pointer (some ⟨b, 0, none⟩), .int .i64 i, .bool false] w fun e w' => e = .returned (.int .i64 E) ∧ Mem w' b d m ∧ Off2 b d w w') :
    Calls Try.prog 29 #[.pointer (some ⟨b, 0, none⟩), .int .i64 i] w fun e w' => e = .returned (.tuple #[.int .u32 0, .int .i64 E]) ∧ Mem w' b d m ∧ Off2 b d w w' := by
  have HC := Lib.hid hc
  have d1 : (E == 0) = false := by simp [hE]
  clear hc
  go_enter Try.func29, Try.ntmps29
  go_wp2_with fail
  refine HC.out.mono ?_
  rintro e w1 ⟨rfl, h1, h2⟩
  have HZ := Lib.hid (And.intro h1 h2)
  clear h1 h2 HC
  go_wp2_with fail
  go_ret2
  exact ⟨rfl, HZ.out⟩

theorem read_ok (b d : Nat) (m : M) (k : Nat) (w : World) (h : Mem w b d m) (hg : m.gone = false) (hk : k < m.ws.length) :
    Calls Try.prog 29 #[.pointer (some ⟨b, 0, none⟩), .int .i64 k] w fun e w' => e = .returned (.tuple #[.int .u32 (m.ws.getD k 0), .int .i64 0]) ∧ w = w' := by
  have HC := Lib.hid (wrong_ok b d m k false w h hg (in_iff.2 ⟨by omega, by omega⟩) (fun h => by cases h))
  have hk' : (k : Int) < (m.ws.length : Int) := by omega
  have c0 := h.c0
  have e1 := h.ws.cell hk
  obtain ⟨v, hv⟩ : ∃ v, m.ws.getD k 0 = v := ⟨_, rfl⟩
  rw [hv] at e1 ⊢
  clear h hv
  go_enter Try.func29, Try.ntmps29
  go_wp2_with fail
  refine HC.out.mono ?_
  rintro e w1 ⟨rfl, rfl⟩
  go_wp2_with fail
  go_ret2
  exact ⟨rfl, rfl⟩

/-- Read: the word, and its error. -/
theorem read_c (b d : Nat) (m : M) (i : Int) (w : World) (h : Mem w b d m) :
    Calls Try.prog 29 #[.pointer (some ⟨b, 0, none⟩), .int .i64 i] w fun e w' => e = .returned (.tuple #[.int .u32 (rval m i), .int .i64 (rerr m i)]) ∧ Mem w' b d m ∧ Off2 b d w w' := by
  cases hg : m.gone with
  | true =>
    rw [show rerr m i = 110 from by simp [rerr, hg], show rval m i = 0 from by simp [rval, hg]]
    exact read_err b d m i 110 w (by decide) (wrong_gone b d m i false w h hg)
  | false =>
    cases hi : inB m i with
    | false =>
      rw [show rerr m i = 111 from by simp [rerr, hg, hi], show rval m i = 0 from by simp [rval, hg, hi]]
      refine read_err b d m i 111 w (by decide) ((wrong_out b d m i false w h hg hi).mono ?_)
      rintro e w' ⟨rfl, rfl⟩
      exact ⟨rfl, h, Off2.refl _ _ _⟩
    | true =>
      obtain ⟨h0, h1⟩ := in_iff.1 hi
      obtain ⟨k, rfl⟩ : ∃ k : Nat, i = k := ⟨i.toNat, by omega⟩
      rw [show rerr m k = 0 from by simp [rerr, hg, hi], show rval m k = m.ws.getD k 0 from by simp [rval, hg, hi]]
      refine (read_ok b d m k w h hg (by omega)).mono ?_
      rintro e w' ⟨rfl, rfl⟩
      exact ⟨rfl, h, Off2.refl _ _ _⟩

theorem up_c (b d : Nat) (m : M) (w : World) (h : Mem w b d m) :
    Calls Try.prog 21 #[.pointer (some ⟨b, 0, none⟩)] w fun e w' => e = .returned (.tuple #[]) ∧ Mem w' b d (up m) ∧ Off2 b d w w' := by
  have c1 := h.c1
  have c2 := h.c2
  have c3 := h.c3
  have f1 := h.fz 1
  have f2 := h.fz 2
  have f3 := h.fz 3
  have HS := Lib.hid h.up_
  have HR : Hid (Off2 b d w (((w.setCell ⟨b, 1, none⟩ (.bool false)).setCell ⟨b, 2, none⟩ (.bool false)).setCell ⟨b, 3, none⟩ (.int .i64 0))) := (((Off2.refl b d w).set 1 _).set 2 _).set 3 _
  clear h
  go_enter Try.func21, Try.ntmps21
  go_wp2_with fail
  go_end0
  exact ⟨rfl, HS.out, HR.out⟩

theorem arm_gone (b d : Nat) (m : M) (k : Int) (w : World) (h : Mem w b d m) (hg : m.gone = true) :
    Calls Try.prog 19 #[.pointer (some ⟨b, 0, none⟩), .int .i64 k] w fun e w' => e = .returned (.tuple #[]) ∧ w = w' := by
  have c1 := h.c1
  rw [hg] at c1
  clear h
  go_enter Try.func19, Try.ntmps19
  go_wp2_with fail
  refine bodyPost_ret (results_none rfl _ _ _) rfl ?_
  exact ⟨rfl, rfl⟩

theorem arm_ok (b d : Nat) (m : M) (k : Int) (w : World) (h : Mem w b d m) (hg : m.gone = false) :
    Calls Try.prog 19 #[.pointer (some ⟨b, 0, none⟩), .int .i64 k] w fun e w' => e = .returned (.tuple #[]) ∧ Mem w' b d (arm m k) ∧ Off2 b d w w' := by
  have c1 := h.c1
  have c2 := h.c2
  have c3 := h.c3
  have f2 := h.fz 2
  have f3 := h.fz 3
  rw [hg] at c1
  have HS := Lib.hid (h.arm_ k hg)
  have HR : Hid (Off2 b d w ((w.setCell ⟨b, 2, none⟩ (.bool (decide (0 ≤ k)))).setCell ⟨b, 3, none⟩ (.int .i64 (max k 0)))) := ((Off2.refl b d w).set 2 _).set 3 _
  clear h
  by_cases hk : 0 ≤ k
  · rw [show decide (0 ≤ k) = true from by simp [hk]] at HS HR
    go_enter Try.func19, Try.ntmps19
    go_wp2_with fail
    go_end0
    exact ⟨rfl, HS.out, HR.out⟩
  · rw [show decide (0 ≤ k) = false from by simp; omega] at HS HR
    go_enter Try.func19, Try.ntmps19
    go_wp2_with fail
    go_end0
    exact ⟨rfl, HS.out, HR.out⟩

theorem arm_c (b d : Nat) (m : M) (k : Int) (w : World) (h : Mem w b d m) :
    Calls Try.prog 19 #[.pointer (some ⟨b, 0, none⟩), .int .i64 k] w fun e w' => e = .returned (.tuple #[]) ∧ Mem w' b d (arm m k) ∧ Off2 b d w w' := by
  cases hg : m.gone with
  | true =>
    rw [show arm m k = m from by simp [arm, hg]]
    refine (arm_gone b d m k w h hg).mono ?_
    rintro e w' ⟨rfl, rfl⟩
    exact ⟨rfl, h, Off2.refl _ _ _⟩
  | false => exact arm_ok b d m k w h hg

theorem down_c (b d : Nat) (m : M) (w : World) (h : Mem w b d m) :
    Calls Try.prog 28 #[.pointer (some ⟨b, 0, none⟩)] w fun e w' => e = .returned (.bool m.gone) ∧ w = w' := by
  have c1 := h.c1
  clear h
  go_enter Try.func28, Try.ntmps28
  go_wp2_with fail
  go_ret
  exact ⟨rfl, rfl⟩

theorem words_c (b d : Nat) (m : M) (w : World) (h : Mem w b d m) :
    Calls Try.prog 31 #[.pointer (some ⟨b, 0, none⟩)] w fun e w' => e = .returned (.int .i64 m.ws.length) ∧ w = w' := by
  have c0 := h.c0
  clear h
  go_enter Try.func31, Try.ntmps31
  go_wp2_with fail
  go_ret
  exact ⟨rfl, rfl⟩
end Nw
end Go.Proofs.Ytlhapipgmadbeaa
