/- Contracts of the document's own memory. -/
import Derived.Test.YtlhapipgmadbeaaNvmWrite
namespace Go.Proofs.Ytlhapipgmadbeaa
namespace Nw
open Go.RowKit Nv

set_option maxHeartbeats 1600000 in
theorem rwrite_c (b d : Nat) (m : M) (i x : Int) (w : World) (h : Rem w b d m) (hf : Few m) :
    Calls Try.prog 24 #[.pointer (some ⟨b, 0, none⟩), .int .i64 i, .int .u32 x] w fun e w' => e = .returned (.int .i64 (werr m i)) ∧ Rem w' b d (wput m i x) ∧ Off2 b d w w' := by
  have c0 := h.c0
  have c1 := h.c1
  have c2 := h.c2
  have f1 := h.fz 1
  have HM := Lib.hid h
  obtain ⟨q1, q2, q3⟩ := hf
  cases hg : m.gone with
  | true =>
    rw [show werr m i = 110 from by simp [werr, hg], show wput m i x = m from by simp [wput, hg]]
    rw [hg] at c1
    clear h
    go_enter Try.func24, Try.ntmps24
    go_wp2_with fail
    go_ret
    exact ⟨rfl, HM.out, Off2.refl _ _ _⟩
  | false =>
    rw [hg] at c1
    cases hi : inB m i with
    | false =>
      rw [show werr m i = 111 from by simp [werr, hg, hi], show wput m i x = m from by simp [wput, hg, hi]]
      clear h
      by_cases h0 : i < 0
      · go_enter Try.func24, Try.ntmps24
        go_wp2_with fail
        go_ret
        exact ⟨rfl, HM.out, Off2.refl _ _ _⟩
      · have h1 : (m.ws.length : Int) ≤ i := by simp only [inB, Bool.and_eq_false_iff, decide_eq_false_iff_not] at hi; omega
        clear hi
        go_enter Try.func24, Try.ntmps24
        go_wp2_with fail
        go_ret
        exact ⟨rfl, HM.out, Off2.refl _ _ _⟩
    | true =>
      by_cases hl : m.left = 0
      · rw [show werr m i = 110 from by simp [werr, hg, hi, hl], show wput m i x = { m with gone := true } from by simp [wput, hg, hi, hl]]
        rw [hl] at c2
        obtain ⟨h0, h1⟩ := in_iff.1 hi
        have HS := Lib.hid (h.s1 true)
        clear h hi
        go_enter Try.func24, Try.ntmps24
        go_wp2_with fail
        go_ret
        exact ⟨rfl, HS.out, (Off2.refl _ _ _).set _ _⟩
      · obtain ⟨h0, h1⟩ := in_iff.1 hi
        obtain ⟨k, rfl⟩ : ∃ k : Nat, i = k := ⟨i.toNat, by omega⟩
        have hk : k < m.ws.length := by omega
        rw [show werr m k = 0 from by simp [werr, hg, hi, hl]]
        obtain ⟨m', hm'⟩ : ∃ m', wput m k x = m' := ⟨_, rfl⟩
        have HE : Hid ({ m with ws := m.ws.set k x, left := if 0 < m.left then m.left - 1 else m.left, many := m.many + 1 } = m') := by
          rw [← hm']
          show _ = _
          simp [wput, hg, hi, hl]
        rw [hm']
        have d3 : (m.left == 0) = false := by simp [hl]
        clear hm' hi
        by_cases hp : 0 < m.left
        · rw [if_pos hp] at HE
          have H1 := Lib.hid (h.s2 (m.left - 1))
          have H2 := Lib.hid (H1.out.sw hk x)
          have H3 := Lib.hid (H2.out.s3 (m.many + 1))
          have e0 := H1.out.c0
          have e1 := H1.out.ws.cell hk
          have e2 := H1.out.ws.frozen k
          have e3 := H2.out.c3
          have e4 := H2.out.fz 3
          have f2 := h.fz 2
          simp only [] at e0 e1 e2 e3 e4
          clear h
          go_enter Try.func24, Try.ntmps24
          go_wp2_with fail
          go_ret
          have hz := H3.out
          rw [HE.out] at hz
          exact ⟨rfl, hz, (((Off2.refl b d w).set 2 _).put k _).set 3 _⟩
        · rw [if_neg hp] at HE
          have H2 := Lib.hid (h.sw hk x)
          have H3 := Lib.hid (H2.out.s3 (m.many + 1))
          have e1 := h.ws.cell hk
          have e2 := h.ws.frozen k
          have e3 := H2.out.c3
          have e4 := H2.out.fz 3
          simp only [] at e3 e4
          clear h
          go_enter Try.func24, Try.ntmps24
          go_wp2_with fail
          go_ret
          have hz := H3.out
          rw [HE.out] at hz
          exact ⟨rfl, hz, ((Off2.refl b d w).put k _).set 3 _⟩

theorem rup_c (b d : Nat) (m : M) (w : World) (h : Rem w b d m) :
    Calls Try.prog 22 #[.pointer (some ⟨b, 0, none⟩)] w fun e w' => e = .returned (.tuple #[]) ∧ Rem w' b d (up m) ∧ Off2 b d w w' := by
  have c1 := h.c1
  have c2 := h.c2
  have f1 := h.fz 1
  have f2 := h.fz 2
  have H1 := Lib.hid (h.s1 false)
  have H2 := Lib.hid (H1.out.s2 (-1))
  clear h
  go_enter Try.func22, Try.ntmps22
  go_wp2_with fail
  go_end0
  exact ⟨rfl, H2.out, ((Off2.refl b d w).set 1 _).set 2 _⟩

theorem rarm_c (b d : Nat) (m : M) (k : Int) (w : World) (h : Rem w b d m) :
    Calls Try.prog 20 #[.pointer (some ⟨b, 0, none⟩), .int .i64 k] w fun e w' => e = .returned (.tuple #[]) ∧ Rem w' b d (arm m k) ∧ Off2 b d w w' := by
  have c1 := h.c1
  have c2 := h.c2
  have f2 := h.fz 2
  have HM := Lib.hid h
  cases hg : m.gone with
  | true =>
    rw [show arm m k = m from by simp [arm, hg]]
    rw [hg] at c1
    clear h
    go_enter Try.func20, Try.ntmps20
    go_wp2_with fail
    go_end0
    exact ⟨rfl, HM.out, Off2.refl _ _ _⟩
  | false =>
    rw [show arm m k = { m with left := max k (-1) } from by simp [arm, hg]]
    rw [hg] at c1
    have HS := Lib.hid (h.s2 (max k (-1)))
    clear h
    go_enter Try.func20, Try.ntmps20
    go_wp2_with fail
    go_end0
    exact ⟨rfl, HS.out, (Off2.refl b d w).set 2 _⟩
end Nw
end Go.Proofs.Ytlhapipgmadbeaa
