/- The program's store: the places that hold. -/
import Derived.Test.YtlhapipgmadbeaaStoreP7
namespace Go.Proofs.Ytlhapipgmadbeaa
namespace Sq
open Go.RowKit Nv Nw Sp Lk

/-- Of places the one that is too much is let go. -/
def cutH (P : Nat) (l : Nat → Pl) (h : Nat → Bool) (i : Nat) : Bool := if P - 1 < cnt P h then h i && decide (i ≠ dropAt P l h) else h i
theorem cnt_pos {n : Nat} {h : Nat → Bool} (hc : 0 < cnt n h) : ∃ i, h i = true := by
  by_cases e : ∃ i, h i = true
  · exact e
  · have : cnt n h = cnt n (fun _ => false) := cnt_congr fun i _ => by
      cases hi : h i with
      | false => rfl
      | true => exact absurd ⟨i, hi⟩ e
    rw [this] at hc
    simp [cnt] at hc
def mapSize (W : World) (b : Nat) : Nat := match W.heap[b]? with
  | some (.map es _) => es.size
  | _ => 0
theorem Mh.size {W : World} {b n P : Nat} {l : Nat → Pl} {h : Nat → Bool} (h' : Mh W b n P l h) : mapSize W b = cnt P h := by
  obtain ⟨D, ⟨es, clock, hb, _, _, hD⟩, H⟩ := h'
  rw [← H.size, hD]
  unfold mapSize
  rw [hb]
  simp [Maps.size, length_sorted]
/-- What the walk carries through its first loop. -/
structure Ho (w W : World) (B n P : Nat) (l : Nat → Pl) (S : List Nat) (h : Nat → Bool) : Prop where
  mh : Mh W B n P l h
  bs : Bs l S h
  old : Below w.heap.size w W
  lB : w.heap.size ≤ B
namespace Ho
variable {w W W' : World} {B n P : Nat} {l : Nat → Pl} {S : List Nat} {h : Nat → Bool}
theorem grow (t : Ho w W B n P l S h) (hb : Below W.heap.size W W') : Ho w W' B n P l S h := ⟨t.mh.grow hb, t.bs, t.old.trans (hb.mono t.old.size), t.lB⟩
theorem alloc (t : Ho w W B n P l S h) (o : Obj) : Ho w (W.alloc o) B n P l S h := t.grow ((Below.refl _ _).alloc (Nat.le_refl _) _)
theorem off {n' : Nat} {S' : List Nat} {h' : Nat → Bool} (t : Ho w W B n P l S h) (hm : Mh W' B n' P l h') (hs : Bs l S' h') (ho : Off B W W') : Ho w W' B n' P l S' h' := ⟨hm, hs, t.old.trans (ho.below t.lB), t.lB⟩
end Ho
/-- .. and through its second one. -/
structure H2 (w W : World) (B n P : Nat) (l : Nat → Pl) (S : List Nat) (h : Nat → Bool) (x : Bool) : Prop where
  mh : Mh W B n P l (if x = true then fun i => h i && decide (i ≠ dropAt P l h) else h)
  bs : Bs l S h
  old : Below w.heap.size w W
  lB : w.heap.size ≤ B
  hx : x = true → P - 1 < cnt P h ∧ h (dropAt P l h) = true ∧ dropAt P l h < P
  un : ∀ i j, h i = true → h j = true → (l i).code = (l j).code → i = j

set_option maxRecDepth 100000 in
set_option maxHeartbeats 4000000 in
theorem holding_h {g b d : Nat} {m : M} {w : World} (h : Sto w g b d m) (hm : Good m) (A : Option Addr) (c : Nat) (L : List Nat) (l : Nat → Pl) (hl : Okp l) (hL : L.Pairwise (· < ·)) (hg : ∀ i ∈ L, i < rooms m ∧ (l i).good = true) (hn : L.length ≤ 200) (hc : L.length ≤ c) (hA : Pcs w A L l) :
    Calls Try.prog 40 #[.pointer (some ⟨g, 0, none⟩), .slice A L.length c] w fun e w' => ∃ B n h1, e = .returned (.map (some B)) ∧ n ≤ 1000 ∧ w.heap.size ≤ B ∧ Bs l L h1 ∧ (∀ i j, h1 i = true → h1 j = true → (l i).code = (l j).code → i = j) ∧ Mh w' B n (rooms m) l (cutH (rooms m) l h1) ∧ Below w.heap.size w w' := by
  have hmm := @run_makeMap Try.prog
  have hP2 : 2 ≤ rooms m := rooms_two hm.len
  have hP3 : rooms m ≤ 128 := by have := hm.most; unfold rooms; omega
  have HRm := Lib.hid (fun W (h : Sto W g b d m) => sroom_c h hm)
  have HSt := Lib.hid h
  have HA := Lib.hid hA
  have HG := Lib.hid hg
  have HRi := Lib.hid hL
  have HOk := Lib.hid hl
  obtain ⟨N, hN⟩ : ∃ N, L.length = N := ⟨_, rfl⟩
  have HE : Hid (L.take N = L) := by show _ = _; rw [← hN, List.take_length]
  have HI : Hid (∀ k, k < N → ∃ x, L[k]? = some x) := fun k hk => ⟨L[k]'(by omega), List.getElem?_eq_getElem (by omega)⟩
  have HH : Hid (Ho w (w.alloc (.map #[] 0)) w.heap.size 0 (rooms m) l (L.take 0) (fun _ => false)) := ⟨Mh.made w _ l, Bs.nil l, (Below.refl _ _).alloc (Nat.le_refl _) _, Nat.le_refl _⟩
  rw [hN] at hn hc ⊢
  clear h hm hA hg hL hl hN
  generalize rooms m = P at *
  go_enter Try.func40, Try.ntmps40
  go_wp2_with fail
  generalize w.alloc (.map #[] 0) = W0 at *
  obtain ⟨B, hB⟩ : ∃ B, w.heap.size = B := ⟨_, rfl⟩
  have HB := Lib.hid hB
  rw [hB] at HH
  simp only [hB]
  clear hB
  go_loopw [13] (fun i wr => ∃ (k n : Nat) (h : Nat → Bool), k ≤ N ∧ i = .int .i64 k ∧ n ≤ k ∧ Ho w wr B n P l (L.take k) h) (fun i _ => N - (intOf i).toNat)
  case atStart => exact ⟨0, 0, _, Nat.zero_le _, rfl, Nat.le_refl _, HH.out⟩
  case round =>
    clear HH
    obtain ⟨k, n, h, hk, rfl, hnk, ht⟩ := hrel
    have HT := Lib.hid ht
    clear ht
    by_cases hlt : k < N
    · have hkN : (k : Int) < N := by omega
      obtain ⟨i, hi⟩ := HI.out k hlt
      obtain ⟨gA, rfl, hgA, hr⟩ := HA.out k i hi
      have HR := Lib.hid (range_kept (HT.out.old.block gA hgA) hr)
      have hgi := HG.out i (List.mem_of_getElem? hi)
      have HGi := Lib.hid hgi
      have HTk : Hid (L.take (k + 1) = L.take k ++ [i]) := take_snoc hi
      have HLt := Lib.hid (rise_take HRi.out hi)
      have HNew : Hid (h i = false) := by
        cases e : h i with
        | false => rfl
        | true => exact absurd (HT.out.bs.mem i e) (take_not HRi.out hi)
      have HT1 := Lib.hid (HT.out.alloc (pob i (l i)))
      have HB1 := Lib.hid (heap_alloc_last wr (pob i (l i)))
      have z1 := Joins.cell_of_block HB1.out 1
      have z2 := Joins.cell_of_block HB1.out 2
      simp only [List.getElem?_toArray, List.getElem?_cons_zero, List.getElem?_cons_succ] at z1 z2
      clear hr hi hgi HT HI HG
      go_wp2_with (first
        | (refine ldpm rfl _ rfl _ _ i (l i) rfl HR.out ?_)
        | (at_lookup; refine lookH rfl _ _ rfl B n P l h HOk.out i HGi.out.2 rfl HT1.out.mh rfl ?_ ?_)
        | fail)
      · intro q hq hqc
        have HQ := Lib.hid (And.intro hq hqc)
        have HT2 := Lib.hid (HT1.out.alloc (pob q (l q)))
        clear hq hqc
        by_cases hnum : (l q).num < (l i).num
        · have HPut : Hid (Bs l (L.take k ++ [i]) (fun j => decide (j = i) || (h j && decide ((l j).code ≠ (l i).code)))) := HT1.out.bs.put fun j hj hc => by
            rw [HT1.out.mh.uniq hj HQ.out.1 (hc.trans HQ.out.2.symm)]; exact hnum
          go_wp2_with (first
            | (at_mapUpdate; refine updH rfl _ _ _ rfl B n P l h HOk.out i HGi.out.1 HGi.out.2 (by omega) HNew.out rfl HT2.out.mh rfl rfl ?_; intro W4 hm4 ho; have HT5 : Hid (Ho w W4 B (n + 1) P l (L.take (k + 1)) (fun j => decide (j = i) || (h j && decide ((l j).code ≠ (l i).code)))) := HT2.out.off hm4 (by rw [HTk.out]; exact HPut.out) ho; clear hm4 ho)
            | fail)
          go_roundw
          case rel => exact ⟨k + 1, n + 1, _, by omega, by go_num, by omega, HT5.out⟩
          case measure => simp [intOf]; omega
        · have HSk : Hid (Bs l (L.take (k + 1)) h) := by
            show Bs _ _ _
            rw [HTk.out]
            exact HT1.out.bs.skip HLt.out HQ.out.1 HQ.out.2 hnum fun a b ha hb => HT1.out.mh.uniq ha hb
          go_wp2_with fail
          go_roundw
          case rel => exact ⟨k + 1, n, h, by omega, by go_num, by omega, HT2.out.mh, HSk.out, HT2.out.old, HT2.out.lB⟩
          case measure => simp [intOf]; omega
      · intro hno
        have HNo := Lib.hid hno
        have HT2 := Lib.hid (HT1.out.alloc (pob 0 zero))
        clear hno
        have HPut : Hid (Bs l (L.take k ++ [i]) (fun j => decide (j = i) || (h j && decide ((l j).code ≠ (l i).code)))) := HT1.out.bs.put fun j hj hc => absurd hc (HNo.out j hj)
        go_wp2_with (first
          | (at_mapUpdate; refine updH rfl _ _ _ rfl B n P l h HOk.out i HGi.out.1 HGi.out.2 (by omega) HNew.out rfl HT2.out.mh rfl rfl ?_; intro W4 hm4 ho; have HT5 : Hid (Ho w W4 B (n + 1) P l (L.take (k + 1)) (fun j => decide (j = i) || (h j && decide ((l j).code ≠ (l i).code)))) := HT2.out.off hm4 (by rw [HTk.out]; exact HPut.out) ho; clear hm4 ho)
          | fail)
        go_roundw
        case rel => exact ⟨k + 1, n + 1, _, by omega, by go_num, by omega, HT5.out⟩
        case measure => simp [intOf]; omega
    · obtain rfl : k = N := by omega
      have hkN : ¬ (k : Int) < k := by omega
      rw [HE.out] at HT
      have H0 : Hid (H2 w wr B n P l L h false) := ⟨HT.out.mh, HT.out.bs, HT.out.old, HT.out.lB, fun h => (by cases h), fun a b ha hb => HT.out.mh.uniq ha hb⟩
      clear HT HE HI HG HA HRi
      go_wp2_with fail
      go_loopw [40] (fun _ wr => ∃ x, H2 w wr B n P l L h x) (fun _ wr => mapSize wr B)
      case atStart => exact ⟨false, H0.out⟩
      case round =>
        clear H0
        obtain ⟨x, hx⟩ := hrel
        have HX := Lib.hid hx
        clear hx
        cases x with
        | true =>
          have HM : Hid (Mh wr B n P l (fun i => h i && decide (i ≠ dropAt P l h))) := by have := HX.out.mh; rwa [if_pos rfl] at this
          have HF : Hid (Mh wr B n P l (cutH P l h)) := HM.out.congr fun i => by unfold cutH; rw [if_pos (HX.out.hx rfl).1]
          have hcnt : cnt P (fun i => h i && decide (i ≠ dropAt P l h)) + 1 = cnt P h := cnt_but (HX.out.hx rfl).2.2 (HX.out.hx rfl).2.1
          have hle := cnt_le P h
          obtain ⟨h', hh'⟩ : ∃ h', (fun i => h i && decide (i ≠ dropAt P l h)) = h' := ⟨_, rfl⟩
          rw [hh'] at HM hcnt
          have hT : (cnt P h' : Int) ≤ (P : Int) - 1 := by omega
          clear hcnt hle hh'
          go_wp2_with (first
            | (at_len; refine lenH rfl _ rfl B n P l _ rfl HM.out ?_)
            | (go_at_call 13; refine (HRm.out _ (HSt.out.grow HX.out.old)).mono ?_; rintro e W ⟨rfl, rfl⟩)
            | fail)
          go_ret
          exact ⟨B, n, h, rfl, by omega, by rw [HB.out]; exact Nat.le_refl _, HX.out.bs, HX.out.un, HF.out, HX.out.old⟩
        | false =>
          have HM : Hid (Mh wr B n P l h) := by have := HX.out.mh; rwa [if_neg (by simp)] at this
          have HSz : Hid (mapSize wr B = cnt P h) := HM.out.size
          by_cases hgt : P - 1 < cnt P h
          · have HTm := Lib.hid (tooMuch_c B n P l h wr HM.out (cnt_pos (n := P) (by omega)))
            have HD := Lib.hid hgt
            have hT : (P : Int) - 1 < (cnt P h : Int) := by omega
            go_wp2_with (first
              | (at_len; refine lenH rfl _ rfl B n P l _ rfl HM.out ?_)
              | (go_at_call 13; refine (HRm.out _ (HSt.out.grow HX.out.old)).mono ?_; rintro e W ⟨rfl, rfl⟩)
              | (go_at_call 50; refine HTm.out.mono ?_; rintro e W ⟨j, hj, hd, rfl, hb⟩; have HJ := Lib.hid (And.intro hj (And.intro hd hb)); clear hj hd hb HTm)
              | (at_delete; refine delH rfl _ _ rfl B n P l h HOk.out j HJ.out.1 rfl (HM.out.grow HJ.out.2.2) rfl ?_; intro W4 hm4 ho; have H5 : Hid (H2 w W4 B n P l L h true) := ⟨by rw [if_pos rfl, HJ.out.2.1]; exact hm4, HX.out.bs, (HX.out.old.trans (HJ.out.2.2.mono HX.out.old.size)).trans (ho.below HX.out.lB), HX.out.lB, fun _ => ⟨HD.out, by rw [HJ.out.2.1]; exact HJ.out.1, by rw [HJ.out.2.1]; exact (HM.out.ok HJ.out.1).1⟩, HX.out.un⟩; have H6 := Lib.hid hm4.size; clear hm4 ho)
              | fail)
            go_frame
            go_roundw
            case rel => exact ⟨true, H5.out⟩
            case measure =>
              rw [HSz.out, H6.out]
              have := cnt_but (n := P) (HM.out.ok HJ.out.1).1 HJ.out.1
              omega
          · have HF : Hid (Mh wr B n P l (cutH P l h)) := HM.out.congr fun i => by unfold cutH; rw [if_neg hgt]
            have hT : (cnt P h : Int) ≤ (P : Int) - 1 := by omega
            clear hgt
            go_wp2_with (first
              | (at_len; refine lenH rfl _ rfl B n P l _ rfl HM.out ?_)
              | (go_at_call 13; refine (HRm.out _ (HSt.out.grow HX.out.old)).mono ?_; rintro e W ⟨rfl, rfl⟩)
              | fail)
            go_ret
            exact ⟨B, n, h, rfl, by omega, by rw [HB.out]; exact Nat.le_refl _, HX.out.bs, HX.out.un, HF.out, HX.out.old⟩
end Sq
end Go.Proofs.Ytlhapipgmadbeaa
