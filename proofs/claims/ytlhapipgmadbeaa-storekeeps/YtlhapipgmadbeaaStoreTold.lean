/- The document's own store: the records that hold. -/
import Derived.Test.YtlhapipgmadbeaaStoreHolds
import Derived.Test.YtlhapipgmadbeaaStoreSame
import Derived.Test.YtlhapipgmadbeaaStoreMath4
namespace Go.Proofs.Ytlhapipgmadbeaa
namespace Sq
open Go.RowKit Nv Nw Sp Lk

abbrev rf_ (r : R) : List Value := (rcs r).toList
/-- Records that append makes behind a world, and all that lay there. -/
structure L3 (w W : World) (v : Value) (l : List R) : Prop where
  row : Rw 37 3 rf_ W w.heap.size v l
  old : Below w.heap.size w W
theorem L3.grow {w W W' : World} {v : Value} {l : List R} (h : L3 w W v l) (hb : Below W.heap.size W W') : L3 w W' v l := ⟨h.row.below hb, h.old.trans (hb.mono h.old.size)⟩
theorem L3.alloc {w W : World} {v : Value} {l : List R} (h : L3 w W v l) (o : Obj) : L3 w (W.alloc o) v l := h.grow ((Below.refl _ _).alloc (Nat.le_refl _) _)

theorem rf_one (r : R) : ∀ u ∈ rf_ r, u.oneCell' = true := by
  intro u hu
  change u ∈ [Value.int .i64 r.code, .int .i64 r.cnt, .bool r.lat] at hu
  simp only [List.mem_cons, List.not_mem_nil, or_false] at hu
  rcases hu with rfl | rfl | rfl <;> rfl
theorem info_r3 : ∃ i, Try.prog.info? 37 = some i ∧ i.zero = some (.agg (rcs ⟨0, 0, false⟩)) ∧ i.size = 3 ∧ i.bytes = 24 := by
  have h : (Try.prog.info? 37).map (fun i => (i.zero, i.size, i.bytes)) = some (some (.agg (rcs ⟨0, 0, false⟩)), 3, 24) := by kernel_rfl
  obtain ⟨i, hi, hz⟩ := Option.map_eq_some_iff.1 h
  simp only [Prod.mk.injEq] at hz
  exact ⟨i, hi, hz.1, hz.2.1, hz.2.2⟩
theorem range_r (w : World) (r : R) : (w.alloc (.cells (rcs r) 37)).rangeAt w.heap.size 0 (rf_ r) := fun j v hv => by
  rw [Nat.zero_add]
  exact (Joins.cell_of_block (heap_alloc_last w _) j).trans (by simpa using hv)
theorem range_r' (W : World) (o : Obj) (r : R) : ((W.alloc o).alloc (.cells (rcs r) 37)).rangeAt (W.heap.size + 1) 0 (rf_ r) := by
  have := range_r (W.alloc o) r
  rwa [World.size_alloc] at this
/-- The records of one code, among the first q places; of the first c codes. -/
def gq (P : Nat) (l : Nat → Pl) (c q : Nat) : List R := ((List.range q).filter fun i => holds P l i && decide ((l i).code = (c : Int) + 1)).map fun i => rc (l i)
def fq (P : Nat) (l : Nat → Pl) (c : Nat) : List R := (List.range c).flatMap fun c => gq P l c P
theorem fq_all (P : Nat) (l : Nat → Pl) : fq P l 255 = recs P l := rfl
theorem fq_succ (P : Nat) (l : Nat → Pl) (c : Nat) : fq P l (c + 1) = fq P l c ++ gq P l c P := by
  unfold fq
  rw [List.range_succ, List.flatMap_append]
  simp
theorem gq_yes {P : Nat} {l : Nat → Pl} {c q : Nat} (h : (holds P l q && decide ((l q).code = (c : Int) + 1)) = true) : gq P l c (q + 1) = gq P l c q ++ [rc (l q)] := by
  unfold gq
  rw [List.range_succ, List.filter_append, List.map_append]
  simp [List.filter, h]
theorem gq_no {P : Nat} {l : Nat → Pl} {c q : Nat} (h : (holds P l q && decide ((l q).code = (c : Int) + 1)) = false) : gq P l c (q + 1) = gq P l c q := by
  unfold gq
  rw [List.range_succ, List.filter_append, List.map_append]
  simp [List.filter, h]
theorem gq_len (P : Nat) (l : Nat → Pl) (c q : Nat) : (gq P l c q).length ≤ q := by
  unfold gq
  rw [List.length_map]
  have := List.length_filter_le (fun i => holds P l i && decide ((l i).code = (c : Int) + 1)) (List.range q)
  simpa using this
theorem fq_len (P : Nat) (l : Nat → Pl) : ∀ c, (fq P l c).length ≤ c * P
  | 0 => by simp [fq]
  | c + 1 => by
    rw [fq_succ, List.length_append, Nat.succ_mul]
    have := fq_len P l c
    have := gq_len P l c P
    omega

set_option maxRecDepth 100000 in
set_option maxHeartbeats 4000000 in
theorem told_ok (b d : Nat) (m : M) (w : World) (P : Nat) (hP : m.ws.length / 4 = P) (h : Rem w b d m) (hg : m.gone = false) (hu : U32 m.ws) (h8 : 8 ≤ m.ws.length) (hl : m.ws.length ≤ 512) :
    Calls Try.prog 27 #[.pointer (some ⟨b, 0, none⟩)] w fun e w' => ∃ v, e = .returned v ∧ Rw 37 3 rf_ w' w.heap.size v (recs P (pl m.ws)) ∧ Below w.heap.size w w' := by
  have HC := Lib.hid (fun W (hR : Rem W b d m) => holds_c b d m W P hP hR hu h8 hl)
  have CP := Lib.hid (fun (k : Nat) W (hk : 4 * k + 3 < m.ws.length) (hR : Rem W b d m) => place_c b d m k W hR hu hk hl)
  have c1 := h.c1
  rw [hg] at c1
  have HR := Lib.hid h
  clear h hu
  go_enter Try.func27, Try.ntmps27
  go_wp2_with fail
  refine (HC.out w HR.out).mono ?_
  rintro e W0 ⟨v, rfl, h1, h2⟩
  obtain ⟨A, cq, rfl, hcq, hel⟩ := Rw.form (f := bf_) (sz := 1) (fun _ => rfl) h1
  simp only [List.length_map, List.length_range] at hcq ⊢
  have HB : Hid (Bls W0 A P (holds P (pl m.ws))) := fun i hi => by
    obtain ⟨g, e, _, h3, h4⟩ := hel i (holds P (pl m.ws) i) (by rw [List.getElem?_map, List.getElem?_range hi]; rfl)
    exact ⟨g, e, h3, by have := h4 0 _ rfl; simpa using this⟩
  replace HR := Lib.hid (HR.out.grow h2)
  have HW := Lib.hid h2
  clear h1 h2 hel HC
  have HQ : Hid (L3 W0 W0 (.slice none 0 0) (fq P (pl m.ws) 0)) := ⟨Rw.nil _ _ _ _ _, Below.refl _ _⟩
  have hP128 : P ≤ 128 := by omega
  replace CP := Lib.hid (fun (k : Nat) W (hk : k < P) (hR : Rem W b d m) => CP.out k W (by omega) hR)
  have HE : Hid (fq P (pl m.ws) 255 = recs P (pl m.ws)) := fq_all _ _
  obtain ⟨l, hl0⟩ : ∃ l, pl m.ws = l := ⟨_, rfl⟩
  have HEl := Lib.hid hl0
  rw [hl0] at HB HQ HE CP
  clear hl0
  generalize m.ws.length = n at *
  go_wp2_with fail
  go_loopw [4, 5] (fun o cd wr => ∃ c : Nat, c ≤ 255 ∧ cd = .int .i64 ((c : Int) + 1) ∧ L3 W0 wr o (fq P l c)) (fun _ cd _ => 256 - (intOf cd).toNat)
  case atStart => exact ⟨0, by omega, rfl, HQ.out⟩
  case round =>
    clear HQ
    obtain ⟨c, hc, rfl, hq⟩ := hrel
    have HQ := Lib.hid hq
    clear hq
    by_cases hlt : c < 255
    · have hlt2 : (c : Int) + 1 ≤ 255 := by omega
      have HF : Hid (fq P l (c + 1) = fq P l c ++ gq P l c P) := fq_succ _ _ _
      have HL : Hid ((fq P l c).length ≤ 40000) := by
        have h1 := fq_len P l c
        have h2 : c * P ≤ 255 * 128 := Nat.mul_le_mul (by omega) hP128
        show _ ≤ _
        omega
      have HQ0 : Hid (L3 W0 wr u4 (fq P l c ++ gq P l c 0)) := by
        have e : fq P l c ++ gq P l c 0 = fq P l c := by simp [gq]
        show L3 _ _ _ _
        rw [e]; exact HQ.out
      generalize fq P l c = Fc at *
      clear HQ
      go_wp2_with fail
      go_loopw [4, 6] (fun o i wy => ∃ q : Nat, q ≤ P ∧ i = .int .i64 q ∧ L3 W0 wy o (Fc ++ gq P l c q)) (fun _ i _ => P - (intOf i).toNat)
      case atStart => exact ⟨0, Nat.zero_le _, rfl, HQ0.out⟩
      case round =>
        clear HQ0
        obtain ⟨q, hq, rfl, hL⟩ := hrel
        have HQ := Lib.hid hL
        clear hL
        by_cases hlt3 : q < P
        · obtain ⟨ga, rfl, hga, hc0⟩ := HB.out q hlt3
          have hqP : (q : Int) < P := by omega
          have HY : Hid ((holds P l q && decide ((l q).code = (c : Int) + 1)) = true → gq P l c (q + 1) = gq P l c q ++ [rc (l q)]) := gq_yes
          have HN : Hid ((holds P l q && decide ((l q).code = (c : Int) + 1)) = false → gq P l c (q + 1) = gq P l c q) := gq_no
          have HG : Hid (∀ W, Below W0.heap.size W0 W → W.cell? ⟨ga, q, none⟩ = some (.bool (holds P l q))) := fun W hb => (hb.cell (p := ⟨ga, q, none⟩) hga).trans hc0
          have HL2 : Hid ((Fc ++ gq P l c q).length ≤ 1000000) := by
            show _ ≤ _
            rw [List.length_append]
            have := gq_len P l c q
            have := HL.out
            omega
          have CQ := Lib.hid (fun W hR => CP.out q W hlt3 hR)
          generalize gq P l c q = Gq at *
          generalize l q = p at *
          obtain ⟨hx, ehx⟩ : ∃ hx, holds P l q = hx := ⟨_, rfl⟩
          rw [ehx] at HY HN HG
          clear hc0 ehx CP
          cases hx with
          | false =>
            have HE2 : Hid (gq P l c (q + 1) = Gq) := HN.out rfl
            clear HY HN
            go_wp2_with (first | (go_at_call 41; (with_reducible refine (CQ.out _ (HR.out.grow HQ.out.old)).mono ?_); rintro e W ⟨rfl, hb⟩; replace HQ := Lib.hid ((HQ.out.grow hb).alloc (.cells (pc p) 83)); have z := HG.out _ HQ.out.old; have z0 := Joins.cell_of_block (heap_alloc_last W (.cells (pc p) 83)) 1; have z1 := Joins.cell_of_block (heap_alloc_last W (.cells (pc p) 83)) 2; have z2 := Joins.cell_of_block (heap_alloc_last W (.cells (pc p) 83)) 3; simp only [List.getElem?_toArray, List.getElem?_cons_zero, List.getElem?_cons_succ] at z0 z1 z2; clear hb CQ) | fail)
            go_roundw
            case rel => exact ⟨q + 1, by omega, by go_num, by rw [HE2.out]; exact HQ.out⟩
            case measure => simp [intOf]; omega
          | true =>
            by_cases hcd : p.code = (c : Int) + 1
            · obtain ⟨pn, pk, pt, plt, pg⟩ := p
              simp only at hcd
              subst hcd
              have HE2 : Hid (gq P l c (q + 1) = Gq ++ [rc ⟨pn, (c : Int) + 1, pt, plt, pg⟩]) := HY.out (by simp)
              clear HY HN
              go_wp2_with (first | (go_at_call 41; (with_reducible refine (CQ.out _ (HR.out.grow HQ.out.old)).mono ?_); rintro e W ⟨rfl, hb⟩; replace HQ := Lib.hid ((HQ.out.grow hb).alloc (.cells (pc ⟨pn, (c : Int) + 1, pt, plt, pg⟩) 83)); have z := HG.out _ HQ.out.old; have z0 := Joins.cell_of_block (heap_alloc_last W (.cells (pc ⟨pn, (c : Int) + 1, pt, plt, pg⟩) 83)) 1; have z1 := Joins.cell_of_block (heap_alloc_last W (.cells (pc ⟨pn, (c : Int) + 1, pt, plt, pg⟩) 83)) 2; have z2 := Joins.cell_of_block (heap_alloc_last W (.cells (pc ⟨pn, (c : Int) + 1, pt, plt, pg⟩) 83)) 3; simp only [List.getElem?_toArray, List.getElem?_cons_zero, List.getElem?_cons_succ] at z0 z1 z2; clear hb CQ) | (at_builtin; refine app_one (f := rf_) rfl _ _ 48 rfl Try.underlying48 _ _ info_r3 rfl (by decide) (fun _ => rfl) rf_one (by decide) W0.heap.size _ (Fc ++ Gq) rfl (HQ.out.alloc _).row (W.heap.size + 1) 1 (rc ⟨pn, (c : Int) + 1, pt, plt, pg⟩) rfl (range_r' W _ (rc ⟨pn, (c : Int) + 1, pt, plt, pg⟩)) HL2.out (HQ.out.alloc (.cells (rcs (rc ⟨pn, (c : Int) + 1, pt, plt, pg⟩)) 37)).old.size ?_; intro v' W7 hown hbel; have HQ2 : Hid (L3 W0 W7 v' ((Fc ++ Gq) ++ [rc ⟨pn, (c : Int) + 1, pt, plt, pg⟩])) := Lib.hid ⟨hown, (HQ.out.alloc _).old.trans hbel⟩; clear hown hbel) | fail)
              go_roundw
              case rel => exact ⟨q + 1, by omega, by go_num, by rw [HE2.out, ← List.append_assoc]; exact HQ2.out⟩
              case measure => simp [intOf]; omega
            · have HE2 : Hid (gq P l c (q + 1) = Gq) := HN.out (by simp [hcd])
              have d : (p.code == (c : Int) + 1) = false := by simp [hcd]
              clear HY HN
              go_wp2_with (first | (go_at_call 41; (with_reducible refine (CQ.out _ (HR.out.grow HQ.out.old)).mono ?_); rintro e W ⟨rfl, hb⟩; replace HQ := Lib.hid ((HQ.out.grow hb).alloc (.cells (pc p) 83)); have z := HG.out _ HQ.out.old; have z0 := Joins.cell_of_block (heap_alloc_last W (.cells (pc p) 83)) 1; have z1 := Joins.cell_of_block (heap_alloc_last W (.cells (pc p) 83)) 2; have z2 := Joins.cell_of_block (heap_alloc_last W (.cells (pc p) 83)) 3; simp only [List.getElem?_toArray, List.getElem?_cons_zero, List.getElem?_cons_succ] at z0 z1 z2; clear hb CQ) | fail)
              go_roundw
              case rel => exact ⟨q + 1, by omega, by go_num, by rw [HE2.out]; exact HQ.out⟩
              case measure => simp [intOf]; omega
        · obtain rfl : P = q := by omega
          go_wp2_with fail
          go_roundw
          case rel => exact ⟨c + 1, by omega, by go_num, by rw [HF.out]; exact HQ.out⟩
          case measure => simp [intOf]; omega
    · obtain rfl : c = 255 := by omega
      have hz : Rw 37 3 rf_ wr w.heap.size u4 (recs P (pl m.ws)) ∧ Below w.heap.size w wr := by
        rw [HEl.out, ← HE.out]
        exact ⟨HQ.out.row.base_le HW.out.size, HW.out.trans (HQ.out.old.mono HW.out.size)⟩
      have HZ := Lib.hid hz
      clear hz
      go_wp2_with fail
      go_ret
      exact ⟨_, rfl, HZ.out⟩
/-- Records: what it tells, in new memory. -/
theorem rtold_c (b d : Nat) (m : M) (w : World) (h : Rem w b d m) (hu : U32 m.ws) (h8 : 8 ≤ m.ws.length) (hl : m.ws.length ≤ 512) :
    Calls Try.prog 27 #[.pointer (some ⟨b, 0, none⟩)] w fun e w' => ∃ v, e = .returned v ∧ Rw 37 3 rf_ w' w.heap.size v (told m) ∧ Below w.heap.size w w' := by
  cases hg : m.gone with
  | false =>
    rw [show told m = recs (rooms m) (pl m.ws) from by unfold told; rw [if_neg (by simp [hg])]]
    exact told_ok b d m w _ rfl h hg hu h8 hl
  | true =>
    rw [show told m = [] from by unfold told; rw [if_pos hg]]
    have c1 := h.c1
    rw [hg] at c1
    clear h hu
    go_enter Try.func27, Try.ntmps27
    go_wp2_with fail
    go_ret
    exact ⟨_, rfl, Rw.nil _ _ _ _ _, Below.refl _ _⟩
end Sq
end Go.Proofs.Ytlhapipgmadbeaa
