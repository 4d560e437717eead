/- The document's own store: Put, Clear. -/
import Derived.Test.YtlhapipgmadbeaaStoreTold
import Derived.Test.YtlhapipgmadbeaaStoreMath5
namespace Go.Proofs.Ytlhapipgmadbeaa
namespace Sq
open Go.RowKit Nv Nw Sp Lk

/-- All but two blocks is as it was, and there may be new ones. -/
structure Turn (b d : Nat) (w w' : World) : Prop where
  os : w'.os = w.os
  tape : w'.tape = w.tape
  output : w'.output = w.output
  size : w.heap.size ≤ w'.heap.size
  block : ∀ k, k < w.heap.size → k ≠ b → k ≠ d → w'.heap[k]? = w.heap[k]?
namespace Turn
variable {b d : Nat} {w w' w'' : World}
theorem refl (b d : Nat) (w : World) : Turn b d w w := ⟨rfl, rfl, rfl, Nat.le_refl _, fun _ _ _ _ => rfl⟩
theorem trans (h : Turn b d w w') (k : Turn b d w' w'') : Turn b d w w'' := ⟨k.os.trans h.os, k.tape.trans h.tape, k.output.trans h.output, Nat.le_trans h.size k.size, fun i hi hb hd => (k.block i (Nat.lt_of_lt_of_le hi h.size) hb hd).trans (h.block i hi hb hd)⟩
theorem off (h : Off2 b d w w') : Turn b d w w' := ⟨h.os, h.tape, h.output, Nat.le_of_eq h.size.symm, fun i _ hb hd => h.block i hb hd⟩
theorem grow (h : Below w.heap.size w w') : Turn b d w w' := ⟨h.os, h.tape, h.output, h.size, fun i hi _ _ => h.block i hi⟩
theorem below (h : Turn b d w w') {m : Nat} (hm : m ≤ w.heap.size) (hb : m ≤ b) (hd : m ≤ d) : Below m w w' := ⟨h.os, h.tape, h.output, h.size, fun k hk => h.block k (by omega) (by omega) (by omega)⟩
end Turn

theorem most_yes {l : Nat → Pl} {n : Nat} (h : (l n).good = true) (h2 : most l n < (l n).num) : most l (n + 1) = (l n).num := by
  show (if _ then _ else _) = _
  rw [if_pos ⟨h, h2⟩]
theorem most_no {l : Nat → Pl} {n : Nat} (h : ¬ ((l n).good = true ∧ most l n < (l n).num)) : most l (n + 1) = most l n := by
  show (if _ then _ else _) = _
  rw [if_neg h]

set_option maxRecDepth 100000 in
set_option maxHeartbeats 4000000 in
theorem rput_ok (b d : Nat) (m : M) (r : R) (w : World) (P : Nat) (hP : m.ws.length / 4 = P) (h : Rem w b d m) (hg : m.gone = false) (hr : okR r = true) (ht : top m < 2147483648) (hf : Few m) (hf2 : m.many < 4611686018427380000) (hu : U32 m.ws) (h8 : 8 ≤ m.ws.length) (hl : m.ws.length ≤ 512) :
    Calls Try.prog 16 #[.pointer (some ⟨b, 0, none⟩), .agg (rcs r)] w fun e w' => e = .returned (.int .i64 (put m r).1) ∧ Rem w' b d (put m r).2 ∧ Turn b d w w' := by
  have hr2 := of_decide_eq_true hr
  obtain ⟨rk, rt, rl⟩ := r
  obtain ⟨r1, r2, r3, r4⟩ := hr2
  simp only at r1 r2 r3 r4
  have HR : Hid (Rem (w.alloc (.cells (rcs ⟨rk, rt, rl⟩) 37)) b d m) := h.grow ((Below.refl _ _).alloc (Nat.le_refl _) _)
  have HK := Lib.hid (heap_alloc_last w (.cells (rcs ⟨rk, rt, rl⟩) 37))
  have HW : Hid (Below w.heap.size w (w.alloc (.cells (rcs ⟨rk, rt, rl⟩) 37))) := (Below.refl _ _).alloc (Nat.le_refl _) _
  have c1 := HR.out.c1
  rw [hg] at c1
  have hP128 : P ≤ 128 := by omega
  have CP := Lib.hid (fun (k : Nat) W (hk : k < P) (hR : Rem W b d m) => place_c b d m k W hR hu (by omega) hl)
  have CH := Lib.hid (fun W (hR : Rem W b d m) => holds_c b d m W P hP hR hu h8 hl)
  have C0 : Hid (∀ W, Rem W b d m → W.cell? ⟨b, 0, none⟩ = some (.slice (some ⟨d, 0, none⟩) m.ws.length m.ws.length)) := fun W h => h.c0
  have ht2 : most (pl m.ws) P < 2147483648 := by rw [← hP]; exact ht
  have HT : Hid (top m = most (pl m.ws) P) := by show _ = _; rw [← hP]; rfl
  have HF : Hid (free m = first P (holds P (pl m.ws))) := by show _ = _; rw [← hP]; rfl
  have HX : Hid (Sp.put m ⟨rk, rt, rl⟩ = writes m (five (free m) ⟨rk, rt, rl⟩ (top m + 1))) := by
    show _ = _
    unfold Sp.put
    rw [if_neg (by simp [hr]), if_neg (by simp [hg]), if_neg (by omega)]
  obtain ⟨l, hl0⟩ : ∃ l, pl m.ws = l := ⟨_, rfl⟩
  have HE := Lib.hid hl0
  rw [hl0] at CP CH HT HF ht2
  have hPn : (m.ws.length : Int) / 4 = P := by omega
  clear h hl0 ht
  generalize m.ws.length = n at C0 hPn
  go_enter Try.func16, Try.ntmps16
  go_wp2_with fail
  generalize hW1 : w.alloc (.cells (rcs ⟨rk, rt, rl⟩) 37) = W1 at *
  have HS : Hid (Below W1.heap.size W1 W1) := Below.refl _ _
  go_loopw [5, 6] (fun mo i wr => ∃ k : Nat, k ≤ P ∧ i = .int .i64 k ∧ mo = .int .u32 (most l k) ∧ Below W1.heap.size W1 wr) (fun _ i _ => P - (intOf i).toNat)
  case atStart => exact ⟨0, Nat.zero_le _, rfl, rfl, HS.out⟩
  case round =>
    clear HS
    obtain ⟨k, hk, rfl, rfl, hs⟩ := hrel
    have HS := Lib.hid hs
    clear hs
    have c0 := C0.out _ (HR.out.grow HS.out)
    by_cases hlt : k < P
    · have hkn : (k : Int) < (n : Int) / 4 := by omega
      have CQ := Lib.hid (fun W hR => CP.out k W hlt hR)
      have EY := Lib.hid (@most_yes l k)
      have EN := Lib.hid (@most_no l k)
      generalize l k = p at *
      generalize hmk : most l k = mk at *
      clear CP CH
      by_cases hpg : p.good = true
      · by_cases hpn : mk < p.num
        · have E2 : Hid (most l (k + 1) = p.num) := EY.out hpg hpn
          obtain ⟨pn, pk, pt, plt, pg⟩ := p
          simp only at hpg hpn
          subst hpg
          clear EY EN
          go_wp2_with (first | (go_at_call 41; (with_reducible refine (CQ.out _ (HR.out.grow HS.out)).mono ?_); rintro e W ⟨rfl, hb⟩; replace HS := Lib.hid ((HS.out.trans (hb.mono HS.out.size)).alloc (by have := HS.out.size; have := hb.size; omega) (.cells (pc ⟨pn, pk, pt, plt, true⟩) 83)); have z0 := Joins.cell_of_block (heap_alloc_last W (.cells (pc ⟨pn, pk, pt, plt, true⟩) 83)) 0; have z4 := Joins.cell_of_block (heap_alloc_last W (.cells (pc ⟨pn, pk, pt, plt, true⟩) 83)) 4; simp only [List.getElem?_toArray, List.getElem?_cons_zero, List.getElem?_cons_succ] at z0 z4; clear hb CQ) | fail)
          go_roundw
          case rel => exact ⟨k + 1, by omega, by go_num, by rw [E2.out], HS.out⟩
          case measure => simp [intOf]; omega
        · have E2 : Hid (most l (k + 1) = mk) := EN.out (fun c => hpn c.2)
          obtain ⟨pn, pk, pt, plt, pg⟩ := p
          simp only at hpg hpn
          subst hpg
          clear EY EN
          go_wp2_with (first | (go_at_call 41; (with_reducible refine (CQ.out _ (HR.out.grow HS.out)).mono ?_); rintro e W ⟨rfl, hb⟩; replace HS := Lib.hid ((HS.out.trans (hb.mono HS.out.size)).alloc (by have := HS.out.size; have := hb.size; omega) (.cells (pc ⟨pn, pk, pt, plt, true⟩) 83)); have z0 := Joins.cell_of_block (heap_alloc_last W (.cells (pc ⟨pn, pk, pt, plt, true⟩) 83)) 0; have z4 := Joins.cell_of_block (heap_alloc_last W (.cells (pc ⟨pn, pk, pt, plt, true⟩) 83)) 4; simp only [List.getElem?_toArray, List.getElem?_cons_zero, List.getElem?_cons_succ] at z0 z4; clear hb CQ) | fail)
          go_roundw
          case rel => exact ⟨k + 1, by omega, by go_num, by rw [E2.out], HS.out⟩
          case measure => simp [intOf]; omega
      · have E2 : Hid (most l (k + 1) = mk) := EN.out (fun c => hpg c.1)
        obtain ⟨pn, pk, pt, plt, pg⟩ := p
        obtain rfl : pg = false := by simpa using hpg
        clear EY EN hpg
        go_wp2_with (first | (go_at_call 41; (with_reducible refine (CQ.out _ (HR.out.grow HS.out)).mono ?_); rintro e W ⟨rfl, hb⟩; replace HS := Lib.hid ((HS.out.trans (hb.mono HS.out.size)).alloc (by have := HS.out.size; have := hb.size; omega) (.cells (pc ⟨pn, pk, pt, plt, false⟩) 83)); have z0 := Joins.cell_of_block (heap_alloc_last W (.cells (pc ⟨pn, pk, pt, plt, false⟩) 83)) 0; have z4 := Joins.cell_of_block (heap_alloc_last W (.cells (pc ⟨pn, pk, pt, plt, false⟩) 83)) 4; simp only [List.getElem?_toArray, List.getElem?_cons_zero, List.getElem?_cons_succ] at z0 z4; clear hb CQ) | fail)
        go_roundw
        case rel => exact ⟨k + 1, by omega, by go_num, by rw [E2.out], HS.out⟩
        case measure => simp [intOf]; omega
    · obtain rfl : P = k := by omega
      have hkn : (n : Int) / 4 ≤ (P : Int) := by omega
      obtain ⟨T, hTT⟩ : ∃ T, most l P = T := ⟨_, rfl⟩
      have hT0 := most_nonneg l P
      rw [hTT] at HT ht2 hT0 ⊢
      clear CP hTT
      have hP2 : 2 ≤ P := by omega
      obtain ⟨at_, hat⟩ : ∃ a, first P (holds P l) = a := ⟨_, rfl⟩
      obtain ⟨f1, f2, f3⟩ := first_spec (holds_not hP2 l)
      rw [hat] at HF f1 f2 f3
      have HF3 := Lib.hid f3
      clear hat f3
      have hfive : ∀ x ∈ five at_ ⟨rk, rt, rl⟩ (T + 1), x.1 < 4 * P := by
        intro x hx
        simp only [five, List.mem_cons, List.not_mem_nil, or_false] at hx
        rcases hx with rfl | rfl | rfl | rfl | rfl <;> simp only <;> omega
      clear hfive
      go_wp2_with (first | (go_at_call 42; refine (CH.out _ (HR.out.grow HS.out)).mono ?_; rintro e W2 ⟨v, rfl, h1, h2⟩) | fail)
      obtain ⟨A, cq, rfl, hcq, hel⟩ := Rw.form (f := bf_) (sz := 1) (fun _ => rfl) h1
      simp only [List.length_map, List.length_range] at hcq ⊢
      have HB : Hid (Bls W2 A P (holds P l)) := fun i hi => by
        obtain ⟨g, e, _, h3, h4⟩ := hel i (holds P l i) (by rw [List.getElem?_map, List.getElem?_range hi]; rfl)
        exact ⟨g, e, h3, by have := h4 0 _ rfl; simpa using this⟩
      replace HS := Lib.hid (HS.out.trans (h2.mono HS.out.size))
      clear h1 h2 hel
      go_loop [9] (fun t => ∃ q : Nat, q ≤ at_ ∧ t = .int .i64 q) (fun t => P - (intOf t).toNat)
      case atStart => exact ⟨0, Nat.zero_le _, rfl⟩
      case round =>
        obtain ⟨q, hq, rfl⟩ := hrel
        obtain ⟨ga, rfl, hga, hc0⟩ := HB.out q (by omega)
        have hqP : (q : Int) < P := by omega
        by_cases hlt : q < at_
        · rw [HF3.out q hlt] at hc0
          go_wp2_with fail
          go_round
          case rel => exact ⟨q + 1, by omega, by go_num⟩
          case measure => simp [intOf]; omega
        · obtain rfl : at_ = q := by omega
          rw [f2] at hc0
          have hlW : w.heap.size < W1.heap.size := by rw [← hW1]; simp
          have k0 := (HS.out.cell (p := ⟨w.heap.size, 0, none⟩) hlW).trans (Joins.cell_of_block HK.out 0)
          have k1 := (HS.out.cell (p := ⟨w.heap.size, 1, none⟩) hlW).trans (Joins.cell_of_block HK.out 1)
          have k2 := (HS.out.cell (p := ⟨w.heap.size, 2, none⟩) hlW).trans (Joins.cell_of_block HK.out 2)
          simp only [List.getElem?_toArray, List.getElem?_cons_zero, List.getElem?_cons_succ] at k0 k1 k2
          have HQ : Hid (Rem W2 b d m ∧ Turn b d w W2) := ⟨HR.out.grow HS.out, (Turn.grow HW.out).trans (Turn.grow HS.out)⟩
          cases rl with
          | false =>
            have hsec : second ⟨rk, rt, false⟩ = rk := rfl
            obtain ⟨F, hFF⟩ : ∃ F, five at_ ⟨rk, rt, false⟩ (T + 1) = F := ⟨_, rfl⟩
            have HXF : Hid (Sp.put m ⟨rk, rt, false⟩ = writes m F) := by show _ = _; rw [HX.out, HF.out, HT.out, hFF]
            have F5 : Hid (F.length = 5) := by rw [← hFF]; exact rfl
            have F0k : Hid (F[0]? = some (4 * at_, 0)) := by rw [← hFF]; exact rfl
            have F1k : Hid (F[1]? = some (4 * at_ + 1, rk)) := by rw [← hFF]; exact rfl
            have F2k : Hid (F[2]? = some (4 * at_ + 2, rt)) := by rw [← hFF]; exact rfl
            have F3k : Hid (F[3]? = some (4 * at_ + 3, (T + 1))) := by rw [← hFF]; exact rfl
            have F4k : Hid (F[4]? = some (4 * at_, (T + 1))) := by rw [← hFF]; exact rfl
            have i0 : ∀ w, (Instr.index 88 (.agg #[.int .u32 0, .int .u32 0, .int .u32 1, .int .u32 rk, .int .u32 2, .int .u32 rt, .int .u32 3, .int .u32 (T + 1), .int .u32 0, .int .u32 (T + 1)]) (.int .i64 0)).run Try.prog w = .ok (.agg #[.int .u32 0, .int .u32 0]) w := fun _ => by kernel_rfl
            have i1 : ∀ w, (Instr.index 88 (.agg #[.int .u32 0, .int .u32 0, .int .u32 1, .int .u32 rk, .int .u32 2, .int .u32 rt, .int .u32 3, .int .u32 (T + 1), .int .u32 0, .int .u32 (T + 1)]) (.int .i64 1)).run Try.prog w = .ok (.agg #[.int .u32 1, .int .u32 rk]) w := fun _ => by kernel_rfl
            have i2 : ∀ w, (Instr.index 88 (.agg #[.int .u32 0, .int .u32 0, .int .u32 1, .int .u32 rk, .int .u32 2, .int .u32 rt, .int .u32 3, .int .u32 (T + 1), .int .u32 0, .int .u32 (T + 1)]) (.int .i64 2)).run Try.prog w = .ok (.agg #[.int .u32 2, .int .u32 rt]) w := fun _ => by kernel_rfl
            have i3 : ∀ w, (Instr.index 88 (.agg #[.int .u32 0, .int .u32 0, .int .u32 1, .int .u32 rk, .int .u32 2, .int .u32 rt, .int .u32 3, .int .u32 (T + 1), .int .u32 0, .int .u32 (T + 1)]) (.int .i64 3)).run Try.prog w = .ok (.agg #[.int .u32 3, .int .u32 (T + 1)]) w := fun _ => by kernel_rfl
            have i4 : ∀ w, (Instr.index 88 (.agg #[.int .u32 0, .int .u32 0, .int .u32 1, .int .u32 rk, .int .u32 2, .int .u32 rt, .int .u32 3, .int .u32 (T + 1), .int .u32 0, .int .u32 (T + 1)]) (.int .i64 4)).run Try.prog w = .ok (.agg #[.int .u32 0, .int .u32 (T + 1)]) w := fun _ => by kernel_rfl
            clear hFF HX HF HT hsec
            go_wp2_with fail
            go_loopw [90] (fun i wr => ∃ k : Nat, k ≤ 5 ∧ i = .int .i64 k ∧ (writes m (F.take k)).1 = 0 ∧ Rem wr b d (writes m (F.take k)).2 ∧ Turn b d w wr) (fun i _ => 5 - (intOf i).toNat)
            case atStart => exact ⟨0, by omega, rfl, rfl, HQ.out.1, HQ.out.2⟩
            case round =>
              clear HQ
              obtain ⟨k, hk5, rfl, hw0, hrm, htn⟩ := hrel
              have HM := Lib.hid hrm
              have HTn := Lib.hid htn
              have hfew : Few (writes m (F.take k)).2 := by
                have h1 := writes_more (F.take k) m
                have h2 : (F.take k).length ≤ 5 := by rw [List.length_take]; omega
                exact ⟨by have := hf.left; omega, by have := hf.many0; omega, by omega⟩
              have HFew := Lib.hid hfew
              clear hrm htn hfew
              have hcase : k = 0 ∨ k = 1 ∨ k = 2 ∨ k = 3 ∨ k = 4 ∨ k = 5 := by omega
              rcases hcase with rfl | rfl | rfl | rfl | rfl | rfl
              · have ST := Lib.hid (writes_step F m 0 _ _ hw0 F0k.out)
                have HC : Hid (∀ W, Rem W b d (writes m (F.take 0)).2 → Calls Try.prog 24 #[.pointer (some ⟨b, 0, none⟩), .int .i64 (4 * (at_ : Int)), .int .u32 0] W fun e w' => e = .returned (.int .i64 (werr (writes m (F.take 0)).2 ((4 * at_ : Nat) : Int))) ∧ Rem w' b d (wput (writes m (F.take 0)).2 ((4 * at_ : Nat) : Int) 0) ∧ Off2 b d W w') := fun W h => by
                  have := rwrite_c b d (writes m (F.take 0)).2 ((4 * at_ : Nat) : Int) 0 W h HFew.out
                  rwa [show ((4 * at_ : Nat) : Int) = 4 * (at_ : Int) from by omega] at this ⊢
                generalize (writes m (F.take 0)).2 = M at *
                obtain ⟨E, hE⟩ : ∃ E, werr M ((4 * at_ : Nat) : Int) = E := ⟨_, rfl⟩
                rw [hE] at HC ST
                clear hE hw0
                replace HM : Hid (Rem (wr.alloc (.cells #[.int .u32 0, .int .u32 0] 87)) b d M) := HM.out.grow ((Below.refl _ _).alloc (Nat.le_refl _) _)
                replace HTn : Hid (Turn b d w (wr.alloc (.cells #[.int .u32 0, .int .u32 0] 87))) := HTn.out.trans (Turn.grow ((Below.refl _ _).alloc (Nat.le_refl _) _))
                by_cases hE0 : E = 0
                · subst hE0
                  have S1 := Lib.hid (ST.out.1 rfl)
                  clear ST
                  go_wp2_with (first | (go_at_call 24; (with_reducible refine (HC.out _ HM.out).mono ?_); rintro e W ⟨rfl, h1, h2⟩; replace HM := Lib.hid h1; replace HTn := Lib.hid (HTn.out.trans (Turn.off h2)); clear h1 h2 HC) | fail)
                  go_roundw
                  case rel => exact ⟨1, by omega, by go_num, by rw [S1.out], by rw [S1.out]; exact HM.out, HTn.out⟩
                  case measure => simp [intOf]
                · have S2 := Lib.hid (ST.out.2 hE0)
                  have d1 : (E == 0) = false := by simp [hE0]
                  clear ST
                  go_wp2_with (first | (go_at_call 24; (with_reducible refine (HC.out _ HM.out).mono ?_); rintro e W ⟨rfl, h1, h2⟩; replace HM := Lib.hid h1; replace HTn := Lib.hid (HTn.out.trans (Turn.off h2)); clear h1 h2 HC) | fail)
                  go_ret
                  rw [HXF.out, S2.out]
                  exact ⟨rfl, HM.out, HTn.out⟩
              · have ST := Lib.hid (writes_step F m 1 _ _ hw0 F1k.out)
                have HC : Hid (∀ W, Rem W b d (writes m (F.take 1)).2 → Calls Try.prog 24 #[.pointer (some ⟨b, 0, none⟩), .int .i64 (4 * (at_ : Int) + 1), .int .u32 rk] W fun e w' => e = .returned (.int .i64 (werr (writes m (F.take 1)).2 ((4 * at_ + 1 : Nat) : Int))) ∧ Rem w' b d (wput (writes m (F.take 1)).2 ((4 * at_ + 1 : Nat) : Int) rk) ∧ Off2 b d W w') := fun W h => by
                  have := rwrite_c b d (writes m (F.take 1)).2 ((4 * at_ + 1 : Nat) : Int) rk W h HFew.out
                  rwa [show ((4 * at_ + 1 : Nat) : Int) = 4 * (at_ : Int) + 1 from by omega] at this ⊢
                generalize (writes m (F.take 1)).2 = M at *
                obtain ⟨E, hE⟩ : ∃ E, werr M ((4 * at_ + 1 : Nat) : Int) = E := ⟨_, rfl⟩
                rw [hE] at HC ST
                clear hE hw0
                replace HM : Hid (Rem (wr.alloc (.cells #[.int .u32 1, .int .u32 rk] 87)) b d M) := HM.out.grow ((Below.refl _ _).alloc (Nat.le_refl _) _)
                replace HTn : Hid (Turn b d w (wr.alloc (.cells #[.int .u32 1, .int .u32 rk] 87))) := HTn.out.trans (Turn.grow ((Below.refl _ _).alloc (Nat.le_refl _) _))
                by_cases hE0 : E = 0
                · subst hE0
                  have S1 := Lib.hid (ST.out.1 rfl)
                  clear ST
                  go_wp2_with (first | (go_at_call 24; (with_reducible refine (HC.out _ HM.out).mono ?_); rintro e W ⟨rfl, h1, h2⟩; replace HM := Lib.hid h1; replace HTn := Lib.hid (HTn.out.trans (Turn.off h2)); clear h1 h2 HC) | fail)
                  go_roundw
                  case rel => exact ⟨2, by omega, by go_num, by rw [S1.out], by rw [S1.out]; exact HM.out, HTn.out⟩
                  case measure => simp [intOf]
                · have S2 := Lib.hid (ST.out.2 hE0)
                  have d1 : (E == 0) = false := by simp [hE0]
                  clear ST
                  go_wp2_with (first | (go_at_call 24; (with_reducible refine (HC.out _ HM.out).mono ?_); rintro e W ⟨rfl, h1, h2⟩; replace HM := Lib.hid h1; replace HTn := Lib.hid (HTn.out.trans (Turn.off h2)); clear h1 h2 HC) | fail)
                  go_ret
                  rw [HXF.out, S2.out]
                  exact ⟨rfl, HM.out, HTn.out⟩
              · have ST := Lib.hid (writes_step F m 2 _ _ hw0 F2k.out)
                have HC : Hid (∀ W, Rem W b d (writes m (F.take 2)).2 → Calls Try.prog 24 #[.pointer (some ⟨b, 0, none⟩), .int .i64 (4 * (at_ : Int) + 2), .int .u32 rt] W fun e w' => e = .returned (.int .i64 (werr (writes m (F.take 2)).2 ((4 * at_ + 2 : Nat) : Int))) ∧ Rem w' b d (wput (writes m (F.take 2)).2 ((4 * at_ + 2 : Nat) : Int) rt) ∧ Off2 b d W w') := fun W h => by
                  have := rwrite_c b d (writes m (F.take 2)).2 ((4 * at_ + 2 : Nat) : Int) rt W h HFew.out
                  rwa [show ((4 * at_ + 2 : Nat) : Int) = 4 * (at_ : Int) + 2 from by omega] at this ⊢
                generalize (writes m (F.take 2)).2 = M at *
                obtain ⟨E, hE⟩ : ∃ E, werr M ((4 * at_ + 2 : Nat) : Int) = E := ⟨_, rfl⟩
                rw [hE] at HC ST
                clear hE hw0
                replace HM : Hid (Rem (wr.alloc (.cells #[.int .u32 2, .int .u32 rt] 87)) b d M) := HM.out.grow ((Below.refl _ _).alloc (Nat.le_refl _) _)
                replace HTn : Hid (Turn b d w (wr.alloc (.cells #[.int .u32 2, .int .u32 rt] 87))) := HTn.out.trans (Turn.grow ((Below.refl _ _).alloc (Nat.le_refl _) _))
                by_cases hE0 : E = 0
                · subst hE0
                  have S1 := Lib.hid (ST.out.1 rfl)
                  clear ST
                  go_wp2_with (first | (go_at_call 24; (with_reducible refine (HC.out _ HM.out).mono ?_); rintro e W ⟨rfl, h1, h2⟩; replace HM := Lib.hid h1; replace HTn := Lib.hid (HTn.out.trans (Turn.off h2)); clear h1 h2 HC) | fail)
                  go_roundw
                  case rel => exact ⟨3, by omega, by go_num, by rw [S1.out], by rw [S1.out]; exact HM.out, HTn.out⟩
                  case measure => simp [intOf]
                · have S2 := Lib.hid (ST.out.2 hE0)
                  have d1 : (E == 0) = false := by simp [hE0]
                  clear ST
                  go_wp2_with (first | (go_at_call 24; (with_reducible refine (HC.out _ HM.out).mono ?_); rintro e W ⟨rfl, h1, h2⟩; replace HM := Lib.hid h1; replace HTn := Lib.hid (HTn.out.trans (Turn.off h2)); clear h1 h2 HC) | fail)
                  go_ret
                  rw [HXF.out, S2.out]
                  exact ⟨rfl, HM.out, HTn.out⟩
              · have ST := Lib.hid (writes_step F m 3 _ _ hw0 F3k.out)
                have HC : Hid (∀ W, Rem W b d (writes m (F.take 3)).2 → Calls Try.prog 24 #[.pointer (some ⟨b, 0, none⟩), .int .i64 (4 * (at_ : Int) + 3), .int .u32 (T + 1)] W fun e w' => e = .returned (.int .i64 (werr (writes m (F.take 3)).2 ((4 * at_ + 3 : Nat) : Int))) ∧ Rem w' b d (wput (writes m (F.take 3)).2 ((4 * at_ + 3 : Nat) : Int) (T + 1)) ∧ Off2 b d W w') := fun W h => by
                  have := rwrite_c b d (writes m (F.take 3)).2 ((4 * at_ + 3 : Nat) : Int) (T + 1) W h HFew.out
                  rwa [show ((4 * at_ + 3 : Nat) : Int) = 4 * (at_ : Int) + 3 from by omega] at this ⊢
                generalize (writes m (F.take 3)).2 = M at *
                obtain ⟨E, hE⟩ : ∃ E, werr M ((4 * at_ + 3 : Nat) : Int) = E := ⟨_, rfl⟩
                rw [hE] at HC ST
                clear hE hw0
                replace HM : Hid (Rem (wr.alloc (.cells #[.int .u32 3, .int .u32 (T + 1)] 87)) b d M) := HM.out.grow ((Below.refl _ _).alloc (Nat.le_refl _) _)
                replace HTn : Hid (Turn b d w (wr.alloc (.cells #[.int .u32 3, .int .u32 (T + 1)] 87))) := HTn.out.trans (Turn.grow ((Below.refl _ _).alloc (Nat.le_refl _) _))
                by_cases hE0 : E = 0
                · subst hE0
                  have S1 := Lib.hid (ST.out.1 rfl)
                  clear ST
                  go_wp2_with (first | (go_at_call 24; (with_reducible refine (HC.out _ HM.out).mono ?_); rintro e W ⟨rfl, h1, h2⟩; replace HM := Lib.hid h1; replace HTn := Lib.hid (HTn.out.trans (Turn.off h2)); clear h1 h2 HC) | fail)
                  go_roundw
                  case rel => exact ⟨4, by omega, by go_num, by rw [S1.out], by rw [S1.out]; exact HM.out, HTn.out⟩
                  case measure => simp [intOf]
                · have S2 := Lib.hid (ST.out.2 hE0)
                  have d1 : (E == 0) = false := by simp [hE0]
                  clear ST
                  go_wp2_with (first | (go_at_call 24; (with_reducible refine (HC.out _ HM.out).mono ?_); rintro e W ⟨rfl, h1, h2⟩; replace HM := Lib.hid h1; replace HTn := Lib.hid (HTn.out.trans (Turn.off h2)); clear h1 h2 HC) | fail)
                  go_ret
                  rw [HXF.out, S2.out]
                  exact ⟨rfl, HM.out, HTn.out⟩
              · have ST := Lib.hid (writes_step F m 4 _ _ hw0 F4k.out)
                have HC : Hid (∀ W, Rem W b d (writes m (F.take 4)).2 → Calls Try.prog 24 #[.pointer (some ⟨b, 0, none⟩), .int .i64 (4 * (at_ : Int)), .int .u32 (T + 1)] W fun e w' => e = .returned (.int .i64 (werr (writes m (F.take 4)).2 ((4 * at_ : Nat) : Int))) ∧ Rem w' b d (wput (writes m (F.take 4)).2 ((4 * at_ : Nat) : Int) (T + 1)) ∧ Off2 b d W w') := fun W h => by
                  have := rwrite_c b d (writes m (F.take 4)).2 ((4 * at_ : Nat) : Int) (T + 1) W h HFew.out
                  rwa [show ((4 * at_ : Nat) : Int) = 4 * (at_ : Int) from by omega] at this ⊢
                generalize (writes m (F.take 4)).2 = M at *
                obtain ⟨E, hE⟩ : ∃ E, werr M ((4 * at_ : Nat) : Int) = E := ⟨_, rfl⟩
                rw [hE] at HC ST
                clear hE hw0
                replace HM : Hid (Rem (wr.alloc (.cells #[.int .u32 0, .int .u32 (T + 1)] 87)) b d M) := HM.out.grow ((Below.refl _ _).alloc (Nat.le_refl _) _)
                replace HTn : Hid (Turn b d w (wr.alloc (.cells #[.int .u32 0, .int .u32 (T + 1)] 87))) := HTn.out.trans (Turn.grow ((Below.refl _ _).alloc (Nat.le_refl _) _))
                by_cases hE0 : E = 0
                · subst hE0
                  have S1 := Lib.hid (ST.out.1 rfl)
                  clear ST
                  go_wp2_with (first | (go_at_call 24; (with_reducible refine (HC.out _ HM.out).mono ?_); rintro e W ⟨rfl, h1, h2⟩; replace HM := Lib.hid h1; replace HTn := Lib.hid (HTn.out.trans (Turn.off h2)); clear h1 h2 HC) | fail)
                  go_roundw
                  case rel => exact ⟨5, by omega, by go_num, by rw [S1.out], by rw [S1.out]; exact HM.out, HTn.out⟩
                  case measure => simp [intOf]
                · have S2 := Lib.hid (ST.out.2 hE0)
                  have d1 : (E == 0) = false := by simp [hE0]
                  clear ST
                  go_wp2_with (first | (go_at_call 24; (with_reducible refine (HC.out _ HM.out).mono ?_); rintro e W ⟨rfl, h1, h2⟩; replace HM := Lib.hid h1; replace HTn := Lib.hid (HTn.out.trans (Turn.off h2)); clear h1 h2 HC) | fail)
                  go_ret
                  rw [HXF.out, S2.out]
                  exact ⟨rfl, HM.out, HTn.out⟩
              · have hall : F.take 5 = F := List.take_of_length_le (by rw [F5.out]; exact Nat.le_refl _)
                rw [hall] at hw0 HM
                go_wp2_with fail
                go_ret
                rw [HXF.out, hw0]
                exact ⟨rfl, HM.out, HTn.out⟩
          | true =>
            have hsec : second ⟨rk, rt, true⟩ = (rk + 256) := rfl
            obtain ⟨F, hFF⟩ : ∃ F, five at_ ⟨rk, rt, true⟩ (T + 1) = F := ⟨_, rfl⟩
            have HXF : Hid (Sp.put m ⟨rk, rt, true⟩ = writes m F) := by show _ = _; rw [HX.out, HF.out, HT.out, hFF]
            have F5 : Hid (F.length = 5) := by rw [← hFF]; exact rfl
            have F0k : Hid (F[0]? = some (4 * at_, 0)) := by rw [← hFF]; exact rfl
            have F1k : Hid (F[1]? = some (4 * at_ + 1, (rk + 256))) := by rw [← hFF]; exact rfl
            have F2k : Hid (F[2]? = some (4 * at_ + 2, rt)) := by rw [← hFF]; exact rfl
            have F3k : Hid (F[3]? = some (4 * at_ + 3, (T + 1))) := by rw [← hFF]; exact rfl
            have F4k : Hid (F[4]? = some (4 * at_, (T + 1))) := by rw [← hFF]; exact rfl
            have i0 : ∀ w, (Instr.index 88 (.agg #[.int .u32 0, .int .u32 0, .int .u32 1, .int .u32 (rk + 256), .int .u32 2, .int .u32 rt, .int .u32 3, .int .u32 (T + 1), .int .u32 0, .int .u32 (T + 1)]) (.int .i64 0)).run Try.prog w = .ok (.agg #[.int .u32 0, .int .u32 0]) w := fun _ => by kernel_rfl
            have i1 : ∀ w, (Instr.index 88 (.agg #[.int .u32 0, .int .u32 0, .int .u32 1, .int .u32 (rk + 256), .int .u32 2, .int .u32 rt, .int .u32 3, .int .u32 (T + 1), .int .u32 0, .int .u32 (T + 1)]) (.int .i64 1)).run Try.prog w = .ok (.agg #[.int .u32 1, .int .u32 (rk + 256)]) w := fun _ => by kernel_rfl
            have i2 : ∀ w, (Instr.index 88 (.agg #[.int .u32 0, .int .u32 0, .int .u32 1, .int .u32 (rk + 256), .int .u32 2, .int .u32 rt, .int .u32 3, .int .u32 (T + 1), .int .u32 0, .int .u32 (T + 1)]) (.int .i64 2)).run Try.prog w = .ok (.agg #[.int .u32 2, .int .u32 rt]) w := fun _ => by kernel_rfl
            have i3 : ∀ w, (Instr.index 88 (.agg #[.int .u32 0, .int .u32 0, .int .u32 1, .int .u32 (rk + 256), .int .u32 2, .int .u32 rt, .int .u32 3, .int .u32 (T + 1), .int .u32 0, .int .u32 (T + 1)]) (.int .i64 3)).run Try.prog w = .ok (.agg #[.int .u32 3, .int .u32 (T + 1)]) w := fun _ => by kernel_rfl
            have i4 : ∀ w, (Instr.index 88 (.agg #[.int .u32 0, .int .u32 0, .int .u32 1, .int .u32 (rk + 256), .int .u32 2, .int .u32 rt, .int .u32 3, .int .u32 (T + 1), .int .u32 0, .int .u32 (T + 1)]) (.int .i64 4)).run Try.prog w = .ok (.agg #[.int .u32 0, .int .u32 (T + 1)]) w := fun _ => by kernel_rfl
            clear hFF HX HF HT hsec
            go_wp2_with fail
            go_loopw [90] (fun i wr => ∃ k : Nat, k ≤ 5 ∧ i = .int .i64 k ∧ (writes m (F.take k)).1 = 0 ∧ Rem wr b d (writes m (F.take k)).2 ∧ Turn b d w wr) (fun i _ => 5 - (intOf i).toNat)
            case atStart => exact ⟨0, by omega, rfl, rfl, HQ.out.1, HQ.out.2⟩
            case round =>
              clear HQ
              obtain ⟨k, hk5, rfl, hw0, hrm, htn⟩ := hrel
              have HM := Lib.hid hrm
              have HTn := Lib.hid htn
              have hfew : Few (writes m (F.take k)).2 := by
                have h1 := writes_more (F.take k) m
                have h2 : (F.take k).length ≤ 5 := by rw [List.length_take]; omega
                exact ⟨by have := hf.left; omega, by have := hf.many0; omega, by omega⟩
              have HFew := Lib.hid hfew
              clear hrm htn hfew
              have hcase : k = 0 ∨ k = 1 ∨ k = 2 ∨ k = 3 ∨ k = 4 ∨ k = 5 := by omega
              rcases hcase with rfl | rfl | rfl | rfl | rfl | rfl
              · have ST := Lib.hid (writes_step F m 0 _ _ hw0 F0k.out)
                have HC : Hid (∀ W, Rem W b d (writes m (F.take 0)).2 → Calls Try.prog 24 #[.pointer (some ⟨b, 0, none⟩), .int .i64 (4 * (at_ : Int)), .int .u32 0] W fun e w' => e = .returned (.int .i64 (werr (writes m (F.take 0)).2 ((4 * at_ : Nat) : Int))) ∧ Rem w' b d (wput (writes m (F.take 0)).2 ((4 * at_ : Nat) : Int) 0) ∧ Off2 b d W w') := fun W h => by
                  have := rwrite_c b d (writes m (F.take 0)).2 ((4 * at_ : Nat) : Int) 0 W h HFew.out
                  rwa [show ((4 * at_ : Nat) : Int) = 4 * (at_ : Int) from by omega] at this ⊢
                generalize (writes m (F.take 0)).2 = M at *
                obtain ⟨E, hE⟩ : ∃ E, werr M ((4 * at_ : Nat) : Int) = E := ⟨_, rfl⟩
                rw [hE] at HC ST
                clear hE hw0
                replace HM : Hid (Rem (wr.alloc (.cells #[.int .u32 0, .int .u32 0] 87)) b d M) := HM.out.grow ((Below.refl _ _).alloc (Nat.le_refl _) _)
                replace HTn : Hid (Turn b d w (wr.alloc (.cells #[.int .u32 0, .int .u32 0] 87))) := HTn.out.trans (Turn.grow ((Below.refl _ _).alloc (Nat.le_refl _) _))
                by_cases hE0 : E = 0
                · subst hE0
                  have S1 := Lib.hid (ST.out.1 rfl)
                  clear ST
                  go_wp2_with (first | (go_at_call 24; (with_reducible refine (HC.out _ HM.out).mono ?_); rintro e W ⟨rfl, h1, h2⟩; replace HM := Lib.hid h1; replace HTn := Lib.hid (HTn.out.trans (Turn.off h2)); clear h1 h2 HC) | fail)
                  go_roundw
                  case rel => exact ⟨1, by omega, by go_num, by rw [S1.out], by rw [S1.out]; exact HM.out, HTn.out⟩
                  case measure => simp [intOf]
                · have S2 := Lib.hid (ST.out.2 hE0)
                  have d1 : (E == 0) = false := by simp [hE0]
                  clear ST
                  go_wp2_with (first | (go_at_call 24; (with_reducible refine (HC.out _ HM.out).mono ?_); rintro e W ⟨rfl, h1, h2⟩; replace HM := Lib.hid h1; replace HTn := Lib.hid (HTn.out.trans (Turn.off h2)); clear h1 h2 HC) | fail)
                  go_ret
                  rw [HXF.out, S2.out]
                  exact ⟨rfl, HM.out, HTn.out⟩
              · have ST := Lib.hid (writes_step F m 1 _ _ hw0 F1k.out)
                have HC : Hid (∀ W, Rem W b d (writes m (F.take 1)).2 → Calls Try.prog 24 #[.pointer (some ⟨b, 0, none⟩), .int .i64 (4 * (at_ : Int) + 1), .int .u32 (rk + 256)] W fun e w' => e = .returned (.int .i64 (werr (writes m (F.take 1)).2 ((4 * at_ + 1 : Nat) : Int))) ∧ Rem w' b d (wput (writes m (F.take 1)).2 ((4 * at_ + 1 : Nat) : Int) (rk + 256)) ∧ Off2 b d W w') := fun W h => by
                  have := rwrite_c b d (writes m (F.take 1)).2 ((4 * at_ + 1 : Nat) : Int) (rk + 256) W h HFew.out
                  rwa [show ((4 * at_ + 1 : Nat) : Int) = 4 * (at_ : Int) + 1 from by omega] at this ⊢
                generalize (writes m (F.take 1)).2 = M at *
                obtain ⟨E, hE⟩ : ∃ E, werr M ((4 * at_ + 1 : Nat) : Int) = E := ⟨_, rfl⟩
                rw [hE] at HC ST
                clear hE hw0
                replace HM : Hid (Rem (wr.alloc (.cells #[.int .u32 1, .int .u32 (rk + 256)] 87)) b d M) := HM.out.grow ((Below.refl _ _).alloc (Nat.le_refl _) _)
                replace HTn : Hid (Turn b d w (wr.alloc (.cells #[.int .u32 1, .int .u32 (rk + 256)] 87))) := HTn.out.trans (Turn.grow ((Below.refl _ _).alloc (Nat.le_refl _) _))
                by_cases hE0 : E = 0
                · subst hE0
                  have S1 := Lib.hid (ST.out.1 rfl)
                  clear ST
                  go_wp2_with (first | (go_at_call 24; (with_reducible refine (HC.out _ HM.out).mono ?_); rintro e W ⟨rfl, h1, h2⟩; replace HM := Lib.hid h1; replace HTn := Lib.hid (HTn.out.trans (Turn.off h2)); clear h1 h2 HC) | fail)
                  go_roundw
                  case rel => exact ⟨2, by omega, by go_num, by rw [S1.out], by rw [S1.out]; exact HM.out, HTn.out⟩
                  case measure => simp [intOf]
                · have S2 := Lib.hid (ST.out.2 hE0)
                  have d1 : (E == 0) = false := by simp [hE0]
                  clear ST
                  go_wp2_with (first | (go_at_call 24; (with_reducible refine (HC.out _ HM.out).mono ?_); rintro e W ⟨rfl, h1, h2⟩; replace HM := Lib.hid h1; replace HTn := Lib.hid (HTn.out.trans (Turn.off h2)); clear h1 h2 HC) | fail)
                  go_ret
                  rw [HXF.out, S2.out]
                  exact ⟨rfl, HM.out, HTn.out⟩
              · have ST := Lib.hid (writes_step F m 2 _ _ hw0 F2k.out)
                have HC : Hid (∀ W, Rem W b d (writes m (F.take 2)).2 → Calls Try.prog 24 #[.pointer (some ⟨b, 0, none⟩), .int .i64 (4 * (at_ : Int) + 2), .int .u32 rt] W fun e w' => e = .returned (.int .i64 (werr (writes m (F.take 2)).2 ((4 * at_ + 2 : Nat) : Int))) ∧ Rem w' b d (wput (writes m (F.take 2)).2 ((4 * at_ + 2 : Nat) : Int) rt) ∧ Off2 b d W w') := fun W h => by
                  have := rwrite_c b d (writes m (F.take 2)).2 ((4 * at_ + 2 : Nat) : Int) rt W h HFew.out
                  rwa [show ((4 * at_ + 2 : Nat) : Int) = 4 * (at_ : Int) + 2 from by omega] at this ⊢
                generalize (writes m (F.take 2)).2 = M at *
                obtain ⟨E, hE⟩ : ∃ E, werr M ((4 * at_ + 2 : Nat) : Int) = E := ⟨_, rfl⟩
                rw [hE] at HC ST
                clear hE hw0
                replace HM : Hid (Rem (wr.alloc (.cells #[.int .u32 2, .int .u32 rt] 87)) b d M) := HM.out.grow ((Below.refl _ _).alloc (Nat.le_refl _) _)
                replace HTn : Hid (Turn b d w (wr.alloc (.cells #[.int .u32 2, .int .u32 rt] 87))) := HTn.out.trans (Turn.grow ((Below.refl _ _).alloc (Nat.le_refl _) _))
                by_cases hE0 : E = 0
                · subst hE0
                  have S1 := Lib.hid (ST.out.1 rfl)
                  clear ST
                  go_wp2_with (first | (go_at_call 24; (with_reducible refine (HC.out _ HM.out).mono ?_); rintro e W ⟨rfl, h1, h2⟩; replace HM := Lib.hid h1; replace HTn := Lib.hid (HTn.out.trans (Turn.off h2)); clear h1 h2 HC) | fail)
                  go_roundw
                  case rel => exact ⟨3, by omega, by go_num, by rw [S1.out], by rw [S1.out]; exact HM.out, HTn.out⟩
                  case measure => simp [intOf]
                · have S2 := Lib.hid (ST.out.2 hE0)
                  have d1 : (E == 0) = false := by simp [hE0]
                  clear ST
                  go_wp2_with (first | (go_at_call 24; (with_reducible refine (HC.out _ HM.out).mono ?_); rintro e W ⟨rfl, h1, h2⟩; replace HM := Lib.hid h1; replace HTn := Lib.hid (HTn.out.trans (Turn.off h2)); clear h1 h2 HC) | fail)
                  go_ret
                  rw [HXF.out, S2.out]
                  exact ⟨rfl, HM.out, HTn.out⟩
              · have ST := Lib.hid (writes_step F m 3 _ _ hw0 F3k.out)
                have HC : Hid (∀ W, Rem W b d (writes m (F.take 3)).2 → Calls Try.prog 24 #[.pointer (some ⟨b, 0, none⟩), .int .i64 (4 * (at_ : Int) + 3), .int .u32 (T + 1)] W fun e w' => e = .returned (.int .i64 (werr (writes m (F.take 3)).2 ((4 * at_ + 3 : Nat) : Int))) ∧ Rem w' b d (wput (writes m (F.take 3)).2 ((4 * at_ + 3 : Nat) : Int) (T + 1)) ∧ Off2 b d W w') := fun W h => by
                  have := rwrite_c b d (writes m (F.take 3)).2 ((4 * at_ + 3 : Nat) : Int) (T + 1) W h HFew.out
                  rwa [show ((4 * at_ + 3 : Nat) : Int) = 4 * (at_ : Int) + 3 from by omega] at this ⊢
                generalize (writes m (F.take 3)).2 = M at *
                obtain ⟨E, hE⟩ : ∃ E, werr M ((4 * at_ + 3 : Nat) : Int) = E := ⟨_, rfl⟩
                rw [hE] at HC ST
                clear hE hw0
                replace HM : Hid (Rem (wr.alloc (.cells #[.int .u32 3, .int .u32 (T + 1)] 87)) b d M) := HM.out.grow ((Below.refl _ _).alloc (Nat.le_refl _) _)
                replace HTn : Hid (Turn b d w (wr.alloc (.cells #[.int .u32 3, .int .u32 (T + 1)] 87))) := HTn.out.trans (Turn.grow ((Below.refl _ _).alloc (Nat.le_refl _) _))
                by_cases hE0 : E = 0
                · subst hE0
                  have S1 := Lib.hid (ST.out.1 rfl)
                  clear ST
                  go_wp2_with (first | (go_at_call 24; (with_reducible refine (HC.out _ HM.out).mono ?_); rintro e W ⟨rfl, h1, h2⟩; replace HM := Lib.hid h1; replace HTn := Lib.hid (HTn.out.trans (Turn.off h2)); clear h1 h2 HC) | fail)
                  go_roundw
                  case rel => exact ⟨4, by omega, by go_num, by rw [S1.out], by rw [S1.out]; exact HM.out, HTn.out⟩
                  case measure => simp [intOf]
                · have S2 := Lib.hid (ST.out.2 hE0)
                  have d1 : (E == 0) = false := by simp [hE0]
                  clear ST
                  go_wp2_with (first | (go_at_call 24; (with_reducible refine (HC.out _ HM.out).mono ?_); rintro e W ⟨rfl, h1, h2⟩; replace HM := Lib.hid h1; replace HTn := Lib.hid (HTn.out.trans (Turn.off h2)); clear h1 h2 HC) | fail)
                  go_ret
                  rw [HXF.out, S2.out]
                  exact ⟨rfl, HM.out, HTn.out⟩
              · have ST := Lib.hid (writes_step F m 4 _ _ hw0 F4k.out)
                have HC : Hid (∀ W, Rem W b d (writes m (F.take 4)).2 → Calls Try.prog 24 #[.pointer (some ⟨b, 0, none⟩), .int .i64 (4 * (at_ : Int)), .int .u32 (T + 1)] W fun e w' => e = .returned (.int .i64 (werr (writes m (F.take 4)).2 ((4 * at_ : Nat) : Int))) ∧ Rem w' b d (wput (writes m (F.take 4)).2 ((4 * at_ : Nat) : Int) (T + 1)) ∧ Off2 b d W w') := fun W h => by
                  have := rwrite_c b d (writes m (F.take 4)).2 ((4 * at_ : Nat) : Int) (T + 1) W h HFew.out
                  rwa [show ((4 * at_ : Nat) : Int) = 4 * (at_ : Int) from by omega] at this ⊢
                generalize (writes m (F.take 4)).2 = M at *
                obtain ⟨E, hE⟩ : ∃ E, werr M ((4 * at_ : Nat) : Int) = E := ⟨_, rfl⟩
                rw [hE] at HC ST
                clear hE hw0
                replace HM : Hid (Rem (wr.alloc (.cells #[.int .u32 0, .int .u32 (T + 1)] 87)) b d M) := HM.out.grow ((Below.refl _ _).alloc (Nat.le_refl _) _)
                replace HTn : Hid (Turn b d w (wr.alloc (.cells #[.int .u32 0, .int .u32 (T + 1)] 87))) := HTn.out.trans (Turn.grow ((Below.refl _ _).alloc (Nat.le_refl _) _))
                by_cases hE0 : E = 0
                · subst hE0
                  have S1 := Lib.hid (ST.out.1 rfl)
                  clear ST
                  go_wp2_with (first | (go_at_call 24; (with_reducible refine (HC.out _ HM.out).mono ?_); rintro e W ⟨rfl, h1, h2⟩; replace HM := Lib.hid h1; replace HTn := Lib.hid (HTn.out.trans (Turn.off h2)); clear h1 h2 HC) | fail)
                  go_roundw
                  case rel => exact ⟨5, by omega, by go_num, by rw [S1.out], by rw [S1.out]; exact HM.out, HTn.out⟩
                  case measure => simp [intOf]
                · have S2 := Lib.hid (ST.out.2 hE0)
                  have d1 : (E == 0) = false := by simp [hE0]
                  clear ST
                  go_wp2_with (first | (go_at_call 24; (with_reducible refine (HC.out _ HM.out).mono ?_); rintro e W ⟨rfl, h1, h2⟩; replace HM := Lib.hid h1; replace HTn := Lib.hid (HTn.out.trans (Turn.off h2)); clear h1 h2 HC) | fail)
                  go_ret
                  rw [HXF.out, S2.out]
                  exact ⟨rfl, HM.out, HTn.out⟩
              · have hall : F.take 5 = F := List.take_of_length_le (by rw [F5.out]; exact Nat.le_refl _)
                rw [hall] at hw0 HM
                go_wp2_with fail
                go_ret
                rw [HXF.out, hw0]
                exact ⟨rfl, HM.out, HTn.out⟩
end Sq
end Go.Proofs.Ytlhapipgmadbeaa
