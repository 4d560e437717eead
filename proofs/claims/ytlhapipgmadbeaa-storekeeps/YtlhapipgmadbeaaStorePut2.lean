/- The document's own store: Put, whatever; Clear. -/
import Derived.Test.YtlhapipgmadbeaaStorePut
namespace Go.Proofs.Ytlhapipgmadbeaa
namespace Sq
open Go.RowKit Nv Nw Sp Lk

set_option maxRecDepth 100000 in
set_option maxHeartbeats 4000000 in
theorem rput_full (b d : Nat) (m : M) (r : R) (w : World) (P : Nat) (hP : m.ws.length / 4 = P) (h : Rem w b d m) (hg : m.gone = false) (hr : okR r = true) (ht : 2147483648 ≤ top m) (hu : U32 m.ws) (h8 : 8 ≤ m.ws.length) (hl : m.ws.length ≤ 512) :
    Calls Try.prog 16 #[.pointer (some ⟨b, 0, none⟩), .agg (rcs r)] w fun e w' => e = .returned (.int .i64 120) ∧ Rem w' b d m ∧ Turn b d w w' := by
  have hr2 := of_decide_eq_true hr
  obtain ⟨rk, rt, rl⟩ := r
  obtain ⟨r1, r2, r3, r4⟩ := hr2
  simp only at r1 r2 r3 r4
  have HR : Hid (Rem (w.alloc (.cells (rcs ⟨rk, rt, rl⟩) 37)) b d m) := h.grow ((Below.refl _ _).alloc (Nat.le_refl _) _)
  have HW : Hid (Below w.heap.size w (w.alloc (.cells (rcs ⟨rk, rt, rl⟩) 37))) := (Below.refl _ _).alloc (Nat.le_refl _) _
  have c1 := HR.out.c1
  rw [hg] at c1
  have hP128 : P ≤ 128 := by omega
  have CP := Lib.hid (fun (k : Nat) W (hk : k < P) (hR : Rem W b d m) => place_c b d m k W hR hu (by omega) hl)
  have C0 : Hid (∀ W, Rem W b d m → W.cell? ⟨b, 0, none⟩ = some (.slice (some ⟨d, 0, none⟩) m.ws.length m.ws.length)) := fun W h => h.c0
  have ht2 : 2147483648 ≤ most (pl m.ws) P := by rw [← hP]; exact ht
  obtain ⟨l, hl0⟩ : ∃ l, pl m.ws = l := ⟨_, rfl⟩
  rw [hl0] at CP ht2
  have hPn : (m.ws.length : Int) / 4 = P := by omega
  clear h hl0 ht
  generalize m.ws.length = n at C0 hPn
  go_enter Try.func16, Try.ntmps16
  go_wp2_with fail
  generalize hW1 : w.alloc (.cells (rcs ⟨rk, rt, rl⟩) 37) = W1 at *
  have HS : Hid (Below W1.heap.size W1 W1) := Below.refl _ _
  go_loopw [5, 6] (fun mo i wr => ∃ k : Nat, k ≤ P ∧ i = .int .i64 k ∧ mo = .int .u32 (most l k) ∧ Below W1.heap.size W1 wr) (fun _ i _ => P - (intOf i).toNat)
  case atStart => exact ⟨0, Nat.zero_le _, rfl, rfl, HS.out⟩
  case round =>
    clear HS
    obtain ⟨k, hk, rfl, rfl, hs⟩ := hrel
    have HS := Lib.hid hs
    clear hs
    have c0 := C0.out _ (HR.out.grow HS.out)
    by_cases hlt : k < P
    · have hkn : (k : Int) < (n : Int) / 4 := by omega
      have CQ := Lib.hid (fun W hR => CP.out k W hlt hR)
      have EY := Lib.hid (@most_yes l k)
      have EN := Lib.hid (@most_no l k)
      generalize l k = p at *
      generalize hmk : most l k = mk at *
      clear CP
      by_cases hpg : p.good = true
      · by_cases hpn : mk < p.num
        · have E2 : Hid (most l (k + 1) = p.num) := EY.out hpg hpn
          obtain ⟨pn, pk, pt, plt, pg⟩ := p
          simp only at hpg hpn
          subst hpg
          clear EY EN
          go_wp2_with (first | (go_at_call 41; (with_reducible refine (CQ.out _ (HR.out.grow HS.out)).mono ?_); rintro e W ⟨rfl, hb⟩; replace HS := Lib.hid ((HS.out.trans (hb.mono HS.out.size)).alloc (by have := HS.out.size; have := hb.size; omega) (.cells (pc ⟨pn, pk, pt, plt, true⟩) 83)); have z0 := Joins.cell_of_block (heap_alloc_last W (.cells (pc ⟨pn, pk, pt, plt, true⟩) 83)) 0; have z4 := Joins.cell_of_block (heap_alloc_last W (.cells (pc ⟨pn, pk, pt, plt, true⟩) 83)) 4; simp only [List.getElem?_toArray, List.getElem?_cons_zero, List.getElem?_cons_succ] at z0 z4; clear hb CQ) | fail)
          go_roundw
          case rel => exact ⟨k + 1, by omega, by go_num, by rw [E2.out], HS.out⟩
          case measure => simp [intOf]; omega
        · have E2 : Hid (most l (k + 1) = mk) := EN.out (fun c => hpn c.2)
          obtain ⟨pn, pk, pt, plt, pg⟩ := p
          simp only at hpg hpn
          subst hpg
          clear EY EN
          go_wp2_with (first | (go_at_call 41; (with_reducible refine (CQ.out _ (HR.out.grow HS.out)).mono ?_); rintro e W ⟨rfl, hb⟩; replace HS := Lib.hid ((HS.out.trans (hb.mono HS.out.size)).alloc (by have := HS.out.size; have := hb.size; omega) (.cells (pc ⟨pn, pk, pt, plt, true⟩) 83)); have z0 := Joins.cell_of_block (heap_alloc_last W (.cells (pc ⟨pn, pk, pt, plt, true⟩) 83)) 0; have z4 := Joins.cell_of_block (heap_alloc_last W (.cells (pc ⟨pn, pk, pt, plt, true⟩) 83)) 4; simp only [List.getElem?_toArray, List.getElem?_cons_zero, List.getElem?_cons_succ] at z0 z4; clear hb CQ) | fail)
          go_roundw
          case rel => exact ⟨k + 1, by omega, by go_num, by rw [E2.out], HS.out⟩
          case measure => simp [intOf]; omega
      · have E2 : Hid (most l (k + 1) = mk) := EN.out (fun c => hpg c.1)
        obtain ⟨pn, pk, pt, plt, pg⟩ := p
        obtain rfl : pg = false := by simpa using hpg
        clear EY EN hpg
        go_wp2_with (first | (go_at_call 41; (with_reducible refine (CQ.out _ (HR.out.grow HS.out)).mono ?_); rintro e W ⟨rfl, hb⟩; replace HS := Lib.hid ((HS.out.trans (hb.mono HS.out.size)).alloc (by have := HS.out.size; have := hb.size; omega) (.cells (pc ⟨pn, pk, pt, plt, false⟩) 83)); have z0 := Joins.cell_of_block (heap_alloc_last W (.cells (pc ⟨pn, pk, pt, plt, false⟩) 83)) 0; have z4 := Joins.cell_of_block (heap_alloc_last W (.cells (pc ⟨pn, pk, pt, plt, false⟩) 83)) 4; simp only [List.getElem?_toArray, List.getElem?_cons_zero, List.getElem?_cons_succ] at z0 z4; clear hb CQ) | fail)
        go_roundw
        case rel => exact ⟨k + 1, by omega, by go_num, by rw [E2.out], HS.out⟩
        case measure => simp [intOf]; omega
    · obtain rfl : P = k := by omega
      have hkn : (n : Int) / 4 ≤ (P : Int) := by omega
      obtain ⟨T, hTT⟩ : ∃ T, most l P = T := ⟨_, rfl⟩
      rw [hTT] at ht2 ⊢
      have HZ : Hid (Rem wr b d m ∧ Turn b d w wr) := ⟨HR.out.grow HS.out, (Turn.grow HW.out).trans (Turn.grow HS.out)⟩
      clear CP hTT
      go_wp2_with fail
      go_ret
      exact ⟨rfl, HZ.out⟩

theorem rput_arg (b : Nat) (r : R) (w : World) (hr : okR r = false) : Calls Try.prog 16 #[.pointer (some ⟨b, 0, none⟩), .agg (rcs r)] w fun e w' => e = .returned (.int .i64 1) ∧ Below w.heap.size w w' := by
  have hr2 := of_decide_eq_false hr
  obtain ⟨rk, rt, rl⟩ := r
  simp only at hr2
  have HW : Hid (Below w.heap.size w (w.alloc (.cells (rcs ⟨rk, rt, rl⟩) 37))) := (Below.refl _ _).alloc (Nat.le_refl _) _
  have hcase : rk < 1 ∨ (1 ≤ rk ∧ 255 < rk) ∨ (1 ≤ rk ∧ rk ≤ 255 ∧ rt < 1) ∨ (1 ≤ rk ∧ rk ≤ 255 ∧ 1 ≤ rt ∧ 65535 < rt) := by omega
  clear hr hr2
  rcases hcase with h1 | ⟨h1, h2⟩ | ⟨h1, h2, h3⟩ | ⟨h1, h2, h3, h4⟩
  · go_enter Try.func16, Try.ntmps16
    go_wp2_with fail
    go_ret
    exact ⟨rfl, HW.out⟩
  · go_enter Try.func16, Try.ntmps16
    go_wp2_with fail
    go_ret
    exact ⟨rfl, HW.out⟩
  · go_enter Try.func16, Try.ntmps16
    go_wp2_with fail
    go_ret
    exact ⟨rfl, HW.out⟩
  · go_enter Try.func16, Try.ntmps16
    go_wp2_with fail
    go_ret
    exact ⟨rfl, HW.out⟩
theorem rput_gone (b d : Nat) (m : M) (r : R) (w : World) (h : Rem w b d m) (hr : okR r = true) (hg : m.gone = true) : Calls Try.prog 16 #[.pointer (some ⟨b, 0, none⟩), .agg (rcs r)] w fun e w' => e = .returned (.int .i64 110) ∧ Below w.heap.size w w' := by
  have hr2 := of_decide_eq_true hr
  obtain ⟨rk, rt, rl⟩ := r
  obtain ⟨r1, r2, r3, r4⟩ := hr2
  simp only at r1 r2 r3 r4
  have HW : Hid (Below w.heap.size w (w.alloc (.cells (rcs ⟨rk, rt, rl⟩) 37))) := (Below.refl _ _).alloc (Nat.le_refl _) _
  have c1 := (h.grow HW.out).c1
  rw [hg] at c1
  clear hr h
  go_enter Try.func16, Try.ntmps16
  go_wp2_with fail
  go_ret
  exact ⟨rfl, HW.out⟩
/-- Put: its error, and the memory behind it. -/
theorem rput_c (b d : Nat) (m : M) (r : R) (w : World) (h : Rem w b d m) (hf : Few m) (hf2 : m.many < 4611686018427380000) (hu : U32 m.ws) (h8 : 8 ≤ m.ws.length) (hl : m.ws.length ≤ 512) :
    Calls Try.prog 16 #[.pointer (some ⟨b, 0, none⟩), .agg (rcs r)] w fun e w' => e = .returned (.int .i64 (put m r).1) ∧ Rem w' b d (put m r).2 ∧ Turn b d w w' := by
  cases hr : okR r with
  | false =>
    rw [put_no hr]
    refine (rput_arg b r w hr).mono ?_
    rintro e w' ⟨rfl, hb⟩
    exact ⟨rfl, h.grow hb, Turn.grow hb⟩
  | true =>
    cases hg : m.gone with
    | true =>
      rw [show put m r = (110, m) from by unfold put; rw [if_neg (by simp [hr]), if_pos hg]]
      refine (rput_gone b d m r w h hr hg).mono ?_
      rintro e w' ⟨rfl, hb⟩
      exact ⟨rfl, h.grow hb, Turn.grow hb⟩
    | false =>
      by_cases ht : 2147483648 ≤ top m
      · rw [show put m r = (120, m) from by unfold put; rw [if_neg (by simp [hr]), if_neg (by simp [hg]), if_pos ht]]
        exact rput_full b d m r w _ rfl h hg hr ht hu h8 hl
      · exact rput_ok b d m r w _ rfl h hg hr (by omega) hf hf2 hu h8 hl

set_option maxRecDepth 100000 in
set_option maxHeartbeats 4000000 in
theorem rclear_c (b d : Nat) (m : M) (w : World) (h : Rem w b d m) (hf : Few m) (hf2 : m.many < 4611686018427380000) (hl : m.ws.length ≤ 512) :
    Calls Try.prog 18 #[.pointer (some ⟨b, 0, none⟩)] w fun e w' => e = .returned (.int .i64 (clear m).1) ∧ Rem w' b d (clear m).2 ∧ Off2 b d w w' := by
  have c1 := h.c1
  have HM := Lib.hid h
  clear h
  cases hg : m.gone with
  | true =>
    rw [show clear m = (110, m) from by unfold clear; rw [if_pos hg]]
    rw [hg] at c1
    go_enter Try.func18, Try.ntmps18
    go_wp2_with fail
    go_ret
    exact ⟨rfl, HM.out, Off2.refl _ _ _⟩
  | false =>
    rw [hg] at c1
    obtain ⟨P, hP⟩ : ∃ P, m.ws.length / 4 = P := ⟨_, rfl⟩
    obtain ⟨F, hFF⟩ : ∃ F, ((List.range P).map fun i => (4 * i, (0 : Int))) = F := ⟨_, rfl⟩
    have HX : Hid (clear m = writes m F) := by show _ = _; unfold clear rooms; rw [if_neg (by simp [hg]), hP, hFF]
    have F5 : Hid (F.length = P) := by rw [← hFF]; show _ = _; simp
    have FK : Hid (∀ k, k < P → F[k]? = some (4 * k, 0)) := by rw [← hFF]; exact fun k hk => by rw [List.getElem?_map, List.getElem?_range hk]; rfl
    clear hFF
    have C0 : Hid (∀ k W, Rem W b d (writes m (F.take k)).2 → W.cell? ⟨b, 0, none⟩ = some (.slice (some ⟨d, 0, none⟩) m.ws.length m.ws.length)) := fun k W h => by
      have := h.c0
      rwa [writes_len] at this
    have hPn : (m.ws.length : Int) / 4 = P := by omega
    have hP128 : P ≤ 128 := by omega
    have c0 := HM.out.c0
    generalize m.ws.length = n at *
    go_enter Try.func18, Try.ntmps18
    go_wp2_with fail
    go_loopw [3] (fun i wr => ∃ k : Nat, k ≤ P ∧ i = .int .i64 k ∧ (writes m (F.take k)).1 = 0 ∧ Rem wr b d (writes m (F.take k)).2 ∧ Off2 b d w wr) (fun i _ => P - (intOf i).toNat)
    case atStart => exact ⟨0, Nat.zero_le _, rfl, rfl, HM.out, Off2.refl _ _ _⟩
    case round =>
      clear HM
      obtain ⟨k, hk, rfl, hw0, hrm, hof⟩ := hrel
      have HM := Lib.hid hrm
      have HO := Lib.hid hof
      have d0 := C0.out k _ hrm
      have hfew : Few (writes m (F.take k)).2 := by
        have h1 := writes_more (F.take k) m
        have h2 : (F.take k).length ≤ k := by rw [List.length_take]; omega
        exact ⟨by have := hf.left; omega, by have := hf.many0; omega, by omega⟩
      have HFew := Lib.hid hfew
      clear hrm hof hfew
      by_cases hlt : k < P
      · have ST := Lib.hid (writes_step F m k _ _ hw0 (FK.out k hlt))
        have HC : Hid (∀ W, Rem W b d (writes m (F.take k)).2 → Calls Try.prog 24 #[.pointer (some ⟨b, 0, none⟩), .int .i64 (4 * (k : Int)), .int .u32 0] W fun e w' => e = .returned (.int .i64 (werr (writes m (F.take k)).2 ((4 * k : Nat) : Int))) ∧ Rem w' b d (wput (writes m (F.take k)).2 ((4 * k : Nat) : Int) 0) ∧ Off2 b d W w') := fun W h => by
          have := rwrite_c b d (writes m (F.take k)).2 ((4 * k : Nat) : Int) 0 W h HFew.out
          rwa [show ((4 * k : Nat) : Int) = 4 * (k : Int) from by omega] at this ⊢
        have hkn : (k : Int) < (n : Int) / 4 := by omega
        generalize (writes m (F.take k)).2 = M at *
        obtain ⟨E, hE⟩ : ∃ E, werr M ((4 * k : Nat) : Int) = E := ⟨_, rfl⟩
        rw [hE] at HC ST
        clear hE hw0
        by_cases hE0 : E = 0
        · subst hE0
          have S1 := Lib.hid (ST.out.1 rfl)
          clear ST
          go_wp2_with (first | (go_at_call 24; (with_reducible refine (HC.out _ HM.out).mono ?_); rintro e W ⟨rfl, h1, h2⟩; replace HM := Lib.hid h1; replace HO := Lib.hid (HO.out.trans h2); clear h1 h2 HC) | fail)
          go_roundw
          case rel => exact ⟨k + 1, by omega, by go_num, by rw [S1.out], by rw [S1.out]; exact HM.out, HO.out⟩
          case measure => simp [intOf]; omega
        · have S2 := Lib.hid (ST.out.2 hE0)
          have d1 : (E == 0) = false := by simp [hE0]
          clear ST
          go_wp2_with (first | (go_at_call 24; (with_reducible refine (HC.out _ HM.out).mono ?_); rintro e W ⟨rfl, h1, h2⟩; replace HM := Lib.hid h1; replace HO := Lib.hid (HO.out.trans h2); clear h1 h2 HC) | fail)
          go_ret
          rw [HX.out, S2.out]
          exact ⟨rfl, HM.out, HO.out⟩
      · obtain rfl : P = k := by omega
        have hall : F.take P = F := List.take_of_length_le (by rw [F5.out]; exact Nat.le_refl _)
        have hkn : (n : Int) / 4 ≤ (P : Int) := by omega
        rw [hall] at hw0 HM
        go_wp2_with fail
        go_ret
        rw [HX.out, hw0]
        exact ⟨rfl, HM.out, HO.out⟩
/-! ### words stay words -/
theorem U32.set {ws : List Int} (h : U32 ws) (k : Nat) {v : Int} (h0 : 0 ≤ v) (h1 : v < 4294967296) : U32 (ws.set k v) := fun j => by
  by_cases hk : k < ws.length
  · rw [Sp.getD_set ws k v hk]
    split
    · exact ⟨h0, h1⟩
    · exact h j
  · rw [List.set_eq_of_length_le (by omega)]
    exact h j
theorem U32.wput {m : M} (h : U32 m.ws) (i : Int) {v : Int} (h0 : 0 ≤ v) (h1 : v < 4294967296) : U32 (wput m i v).ws := by
  unfold Nv.wput
  (repeat' split) <;> first | exact h | exact h.set _ h0 h1
theorem U32.writes : ∀ (L : List (Nat × Int)) {m : M}, U32 m.ws → (∀ x ∈ L, 0 ≤ x.2 ∧ x.2 < 4294967296) → U32 (Sp.writes m L).2.ws
  | [], _, h, _ => h
  | (i, v) :: L, m, h, hL => by
    have hv := hL (i, v) (by simp)
    unfold Sp.writes
    split
    · exact U32.writes L (h.wput i hv.1 hv.2) (fun x hx => hL x (by simp [hx]))
    · exact h.wput i hv.1 hv.2
theorem U32.put {m : M} (h : U32 m.ws) (r : R) : U32 (Sp.put m r).2.ws := by
  unfold Sp.put
  split
  · exact h
  · rename_i hr
    split
    · exact h
    · split
      · exact h
      · have hr2 := of_decide_eq_true (by simpa using hr : okR r = true)
        have ht := top_nonneg m
        refine U32.writes _ h fun x hx => ?_
        simp only [five, List.mem_cons, List.not_mem_nil, or_false] at hx
        have hs : 0 ≤ second r ∧ second r < 4294967296 := by unfold second; split <;> omega
        rcases hx with rfl | rfl | rfl | rfl | rfl <;> simp only <;> omega
theorem U32.clear {m : M} (h : U32 m.ws) : U32 (Sp.clear m).2.ws := by
  unfold Sp.clear
  split
  · exact h
  · refine U32.writes _ h fun x hx => ?_
    simp only [List.mem_map] at hx
    obtain ⟨_, _, rfl⟩ := hx
    exact ⟨Int.le_refl 0, by show (0 : Int) < 4294967296; decide⟩
theorem U32.zeros (n : Nat) : U32 (Nv.new n).ws := fun j => by
  have : (Nv.new n).ws.getD j 0 = 0 := by
    simp only [Nv.new, Nv.zeros, List.getD_eq_getElem?_getD, List.getElem?_replicate]
    split <;> rfl
  rw [this]; exact ⟨by decide, by decide⟩
end Sq
end Go.Proofs.Ytlhapipgmadbeaa
