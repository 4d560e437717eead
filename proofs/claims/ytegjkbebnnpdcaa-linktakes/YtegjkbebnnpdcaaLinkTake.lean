/- link.Take: the first packet that stands among bytes. -/
import Derived.Test.YtegjkbebnnpdcaaLinkDecode2
import Derived.WalkMore
import Derived.ScopeJumps
namespace Go.Proofs.Ytegjkbebnnpdcaa
namespace Lw
open Go.RowKit

theorem scope_once {c rest : Code} {Q : Exit → Act → World → Prop} {a : Act} {w : World} (l : Nat) (J : Act → World → Prop) (μ : Act → World → Nat) (hf : findLabel c l = some (Code.skip.seq rest))
    (first : (∀ a w, J a w → rest.wp Try.prog (Exit.jump l J Q) a w) → c.wp Try.prog (Exit.jump l J Q) a w)
    (pass : ∀ a w, J a w → rest.wp Try.prog (Exit.jump l (fun a' w' => J a' w' ∧ μ a' w' < μ a w) Q) a w) : (Code.scope c).wp Try.prog Q a w := by
  refine wp_scope_jumps l J μ hf (first fun a w h => Code.wp_mono (fun e a' w' hq => ?_) (pass a w h)) (fun a w h => wp_seq (wp_skip (pass a w h)))
  cases e with
  | goto l' => exact ⟨hq.1, hq.2.1⟩
  | _ => exact hq

/-- What is known when a place is come to. -/
structure Inv (l : List Nat) (i : Nat) : Prop where
  le : i ≤ l.length
  bad : ∀ j, j < i → Ln.good (Ln.sl l j) = false
  tail : ∀ j, j < i → l.length ≤ j + 31 → l.getD j 0 ≠ 213
namespace Inv
variable {l : List Nat} {i : Nat}
theorem start (l : List Nat) : Inv l 0 := ⟨Nat.zero_le _, fun _ h => absurd h (Nat.not_lt_zero _), fun _ h => absurd h (Nat.not_lt_zero _)⟩
theorem next (h : Inv l i) (hi : i < l.length) (hb : Ln.good (Ln.sl l i) = false) (ht : l.length ≤ i + 31 → l.getD i 0 ≠ 213) : Inv l (i + 1) := by
  refine ⟨hi, fun j hj => ?_, fun j hj => ?_⟩
  · by_cases e : j = i
    · subst e; exact hb
    · exact h.bad j (by omega)
  · by_cases e : j = i
    · subst e; exact ht
    · exact h.tail j (by omega)
theorem other (h : Inv l i) (hi : i < l.length) (hd : l.getD i 0 ≠ 213) : Inv l (i + 1) := h.next hi (Ln.not_good hd) (fun _ => hd)
theorem worse (h : Inv l i) (hi : i + 32 ≤ l.length) (hd : Ln.good (Ln.sl l i) = false) : Inv l (i + 1) := h.next (by omega) hd (fun h => by omega)
theorem all (h : Inv l i) (hi : i = l.length) : Ln.Res l Ln.zero i 50 := .none i (fun j hj => h.bad j (by omega)) (by omega) (by omega) (fun j h1 h2 => h.tail j h2 h1) (fun h => by omega)
theorem stop (h : Inv l i) (hi : i < l.length) (h32 : l.length < i + 32) (hd : l.getD i 0 = 213) : Ln.Res l Ln.zero i 50 := .none i (fun j hj => h.bad j (by omega)) (by omega) (by omega) (fun j h1 h2 => h.tail j h2 h1) (fun _ => hd)
theorem hit (h : Inv l i) (hi : i + 32 ≤ l.length) (hg : Ln.good (Ln.sl l i) = true) : Ln.Res l (Ln.decP (Ln.sl l i)) (i + 32) 0 := by
  have e : Ln.decP (Ln.sl l i) = Ln.rd (Ln.sl l i) := by unfold Ln.decP; rw [if_pos hg]
  rw [e]
  exact .hit i hi hg h.bad
end Inv

/-- What Take keeps while it goes on. -/
structure Tk (i m : Nat) (w W : World) : Prop where
  is : ∃ n, n ≤ i ∧ Crc.Is W (m + 1) n
  old : Below m w W
  res : Pkt W m Ln.zero
namespace Tk
variable {i m : Nat} {w W W' : World}
theorem lt (h : Tk i m w W) : m + 1 < W.heap.size := by
  obtain ⟨n, _, h⟩ := h.is
  exact h.lt
theorem more (h : Tk i m w W) : Tk (i + 1) m w W := by
  obtain ⟨n, h1, h2⟩ := h.is
  exact ⟨⟨n, by omega, h2⟩, h.old, h.res⟩
theorem decoded (h : Tk i m w W) {n' : Nat} (hn : n' ≤ i + 1) (hi : Crc.Is W' (m + 1) n') (ho : Offs (m + 1) W W') : Tk (i + 1) m w W' :=
  ⟨⟨n', hn, hi⟩, h.old.trans (ho.below (m := m) (by omega) (by have := h.lt; omega)), h.res.offs ho (by omega)⟩
theorem below (h : Tk i m w W) (hb : Below W.heap.size W W') : Tk i m w W' := by
  have hl := h.lt
  obtain ⟨n, h1, h2⟩ := h.is
  exact ⟨⟨n, h1, is_below h2 hb hl⟩, h.old.trans (hb.mono (by omega)), h.res.below hb (by omega)⟩
theorem alloc (h : Tk i m w W) (o : Obj) : Tk i m w (W.alloc o) := h.below ((Below.refl _ _).alloc (Nat.le_refl _) o)
theorem off (h : Tk i m w W) {g : Nat} (ho : Crc.Off g W W') (hg : m + 1 < g) : Tk i m w W' := by
  obtain ⟨n, h1, h2⟩ := h.is
  exact ⟨⟨n, h1, is_offs h2 ho (by omega)⟩, h.old.trans (ho.below (by omega)), (ho.block m (by omega)).trans h.res⟩
theorem last (h : Tk i m w W) (ho : Crc.Off m W W') : Below m w W' := h.old.trans (ho.below (Nat.le_refl m))
end Tk
theorem ba_slice {W : World} {b q o : Nat} {l : List Nat} (h : Crc.BytesAt W b (some ⟨q, o, none⟩) l) {i : Nat} (hi : i + 32 ≤ l.length) : Crc.BytesAt W b (some ⟨q, o + i, none⟩) (Ln.sl l i) := by
  intro j hj
  rw [Ln.sl_len hi] at hj
  obtain ⟨q', o', e, hq, hc⟩ := h (i + j) (by omega)
  cases e
  refine ⟨q, o + i, rfl, hq, ?_⟩
  rw [Ln.sl_getD hj, Nat.add_assoc]
  exact hc
theorem sl_bytes {l : List Nat} (h : Cr.Bytes l) (i : Nat) : Cr.Bytes (Ln.sl l i) := fun v hv => h v (List.mem_of_mem_drop (List.mem_of_mem_take hv))
theorem inb_tk {w W : World} {A : Option Addr} {l : List Nat} (h : Crc.InB w A l) (hb : Below w.heap.size w W) : Crc.BytesAt W (w.heap.size + 1) A l := by
  intro i hi
  obtain ⟨q, o, e, hq⟩ := h i hi
  have hlt : q < w.heap.size := World.block_lt_of_cell? _ _ hq
  exact ⟨q, o, e, by omega, (hb.cell (p := ⟨q, o + i, none⟩) hlt).trans hq⟩
theorem decE_of {l : List Nat} : (Ln.good l = true → Ln.decE l = 0) ∧ (Ln.good l = false → Ln.decE l = 50) := by
  unfold Ln.decE
  exact ⟨fun h => by rw [if_pos h], fun h => by rw [h]; rfl⟩

set_option maxRecDepth 100000 in
set_option maxHeartbeats 8000000 in
theorem take_c (N : Nat) (A : Option Addr) (l : List Nat) (c : Nat) (w : World) (hN : l.length = N) (hb : Cr.Bytes l) (hc : N ≤ c) (h1m : N ≤ 1000000) (hA : Crc.InB w A l) :
    Calls Try.prog 16 #[.slice A N c] w fun e w' => ∃ p n x, Ln.Res l p n x ∧ e = .returned (.tuple #[.agg (pc p), .int .i64 (n : Int), .int .i64 x]) ∧ Below w.heap.size w w' := by
  have HA := Lib.hid hA
  have HB := Lib.hid hb
  have HL := Lib.hid hN
  have CN := Lib.hid Crc.new_c
  have HI : Hid (Below w.heap.size w (w.alloc (.cells (pc Ln.zero) 26))) := (Below.refl _ _).alloc (Nat.le_refl _) _
  have HP := Lib.hid (Pkt.new w Ln.zero)
  clear hA hb hN
  go_enter Try.func16, Try.ntmps16
  go_wp2_with fail
  refine scope_once 0 (fun a' w' => ∃ (i : Nat) (u7 u8 u10 u11 u12 u13 u14 u15 u16 u17 u18 u19 u20 u21 u22 u23 u24 u25 u26 u27 u28 u29 u30 u31 u32 u33 u34 u35 u36 u37 u38 u39 u40 u41 u42 u43 u44 : Value), Inv l i ∧ Tk i w.heap.size w w' ∧ a' = { tmps := #[.slice A N c, undef, .pointer (some ⟨w.heap.size, 0, none⟩), .int .i64 0, .int .i64 0, .pointer (some ⟨w.heap.size + 1, 0, none⟩), .int .i64 (i : Int), u7, u8, .pointer (some ⟨w.heap.size + 1, 0, none⟩), u10, u11, u12, u13, u14, u15, u16, u17, u18, u19, u20, u21, u22, u23, u24, u25, u26, u27, u28, u29, u30, u31, u32, u33, u34, u35, u36, u37, u38, u39, u40, u41, u42, u43, u44], defers := [] }) (fun a' _ => N - (intOf (a'.tmps.getD 6 undef)).toNat) rfl ?_ ?_
  · intro hrest
    go_wp2_with fail
    refine (CN.out _).mono ?_
    rintro e W2 ⟨rfl, hw⟩
    have e1 : (w.alloc (.cells (pc Ln.zero) 26)).heap.size = w.heap.size + 1 := by simp
    have hi := Crc.new_is (w.alloc (.cells (pc Ln.zero) 26))
    rw [e1] at hi
    have HT : Hid (Tk 0 w.heap.size w W2) := by
      rw [hw]
      exact ⟨⟨0, Nat.le_refl _, hi⟩, HI.out.alloc HI.out.size _, HP.out.alloc _⟩
    clear hw e1 hi CN HI HP HA
    have HH := Lib.hid hrest
    clear hrest
    go_wp2_with fail
    go_step3
    rename_i hK
    refine hK _ _ (HH.out _ _ ⟨0, _, _, _, _, _, _, _, _, _, _, _, _, _, _, _, _, _, _, _, _, _, _, _, _, _, _, _, _, _, _, _, _, _, _, _, _, _, Inv.start l, HT.out, rfl⟩)
  · rintro a' W ⟨i, u7, u8, u10, u11, u12, u13, u14, u15, u16, u17, u18, u19, u20, u21, u22, u23, u24, u25, u26, u27, u28, u29, u30, u31, u32, u33, u34, u35, u36, u37, u38, u39, u40, u41, u42, u43, u44, hv, ht, rfl⟩
    have HV := Lib.hid hv
    have HT := Lib.hid ht
    have HS := Lib.hid (inb_tk HA.out ht.old)
    clear hv ht HA HI HP CN
    dsimp only
    by_cases hiN : i = N
    · have HR := Lib.hid (HV.out.all (by rw [HL.out]; exact hiN))
      subst hiN
      go_wp2_with (first | (refine st_pk rfl _ _ rfl rfl _ _ Ln.zero rfl rfl HT.out.res ?_; intro W6 h1 h2; have HP := Lib.hid h1; have HO := Lib.hid h2; clear h1 h2))
      simp only [Exit.jump]
      refine bodyPost_ret (res3 rfl _ _ _ _ rfl HP.out) rfl ?_
      exact ⟨_, _, _, HR.out, rfl, HT.out.last HO.out⟩
    · have hlt : i < N := by have := HV.out.le; rw [HL.out] at this; omega
      have hll : i < l.length := by rw [HL.out]; exact hlt
      obtain ⟨q, o, rfl, hq, hcell⟩ := HS.out i hll
      have d0 : ((i : Int) == (N : Int)) = false := by rw [beq_eq_false_iff_ne]; omega
      by_cases hx : l.getD i 0 = 213
      · rw [hx] at hcell
        by_cases h32 : i + 32 ≤ N
        · obtain ⟨n, hn, his⟩ := HT.out.is
          have d1 : decide ((N : Int) - (i : Int) < 32) = false := by simp; omega
          have t1 : (i : Int) + 32 ≤ (c : Int) := by omega
          have t4 : ¬ c = i := by omega
          have CD := Lib.hid (decode_c 32 (w.heap.size + 1) n (some ⟨q, o + i, none⟩) (Ln.sl l i) (c - i) W his (by omega) (Ln.sl_len (by rw [HL.out]; exact h32)) (sl_bytes HB.out i) (by omega) (ba_slice HS.out (by rw [HL.out]; exact h32)))
          have h32l : i + 32 ≤ l.length := by rw [HL.out]; exact h32
          clear his
          cases hg : Ln.good (Ln.sl l i)
          · have HV2 := Lib.hid (HV.out.worse h32l hg)
            rw [decE_of.2 hg] at CD
            clear hg hx hll h32l
            go_wp2_with fail
            rw [show i + 32 - i = 32 from by omega]
            refine CD.out.mono ?_
            rintro e W1 ⟨rfl, ⟨n', hn', hi'⟩, ho⟩
            replace HT := Lib.hid (HT.out.decoded (by omega) hi' ho)
            clear hi' ho CD
            generalize Ln.decP (Ln.sl l i) = p at *
            have HT1 := Lib.hid (HT.out.alloc (.cells (pc Ln.zero) 26))
            have hml := HT.out.lt
            go_wp2_with (first | (refine st_pk rfl _ _ rfl rfl _ Ln.zero p rfl rfl (Pkt.new W1 Ln.zero) ?_; intro W2 h1 h2; have HK := Lib.hid h1; replace HT := Lib.hid (HT1.out.off h2 (by omega)); clear h1 h2 HT1))
            rw [show (i : Int) + 1 = ((i + 1 : Nat) : Int) from rfl]
            go_step3
            refine ⟨rfl, ⟨i + 1, _, _, _, _, _, _, _, _, _, _, _, _, _, _, _, _, _, _, _, _, _, _, _, _, _, _, _, _, _, _, _, _, _, _, _, _, _, HV2.out, HT.out, rfl⟩, ?_⟩
            simp [intOf]
            omega
          · have HR := Lib.hid (HV.out.hit h32l hg)
            rw [decE_of.1 hg] at CD
            clear hg hx hll h32l
            go_wp2_with fail
            rw [show i + 32 - i = 32 from by omega]
            refine CD.out.mono ?_
            rintro e W1 ⟨rfl, ⟨n', hn', hi'⟩, ho⟩
            replace HT := Lib.hid (HT.out.decoded (by omega) hi' ho)
            clear hi' ho CD
            generalize Ln.decP (Ln.sl l i) = p at *
            have HT1 := Lib.hid (HT.out.alloc (.cells (pc Ln.zero) 26))
            have hml := HT.out.lt
            go_wp2_with (first
              | (refine st_pk rfl _ _ rfl rfl _ Ln.zero p rfl rfl (Pkt.new W1 Ln.zero) ?_; intro W2 h1 h2; have HK := Lib.hid h1; replace HT := Lib.hid (HT1.out.off h2 (by omega)); clear h1 h2 HT1)
              | (refine ld_pk rfl _ rfl _ _ rfl HK.out ?_)
              | (refine st_pk rfl _ _ rfl rfl _ _ p rfl rfl HT.out.res ?_; intro W6 h1 h2; have HP := Lib.hid h1; have HO := Lib.hid h2; clear h1 h2))
            simp only [Exit.jump]
            refine bodyPost_ret (res3 rfl _ _ _ _ rfl HP.out) rfl ?_
            exact ⟨_, _, _, HR.out, rfl, HT.out.last HO.out⟩
        · have d1 : decide ((N : Int) - (i : Int) < 32) = true := by simp; omega
          have HR := Lib.hid (HV.out.stop hll (by rw [HL.out]; omega) hx)
          go_wp2_with (first | (refine st_pk rfl _ _ rfl rfl _ _ Ln.zero rfl rfl HT.out.res ?_; intro W6 h1 h2; have HP := Lib.hid h1; have HO := Lib.hid h2; clear h1 h2))
          simp only [Exit.jump]
          refine bodyPost_ret (res3 rfl _ _ _ _ rfl HP.out) rfl ?_
          exact ⟨_, _, _, HR.out, rfl, HT.out.last HO.out⟩
      · have HV2 := Lib.hid (HV.out.other hll hx)
        have d1 : (((l.getD i 0 : Nat) : Int) == 213) = false := by rw [beq_eq_false_iff_ne]; omega
        clear hx
        generalize l.getD i 0 = x at *
        go_wp2_with fail
        rw [show (i : Int) + 1 = ((i + 1 : Nat) : Int) from rfl]
        go_step3
        refine ⟨rfl, ⟨i + 1, _, _, _, _, _, _, _, _, _, _, _, _, _, _, _, _, _, _, _, _, _, _, _, _, _, _, _, _, _, _, _, _, _, _, _, _, _, HV2.out, HT.out.more, rfl⟩, ?_⟩
        simp [intOf]
        omega
end Lw
end Go.Proofs.Ytegjkbebnnpdcaa
