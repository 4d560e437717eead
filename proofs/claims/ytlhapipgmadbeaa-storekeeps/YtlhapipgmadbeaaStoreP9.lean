/- The program's store: the places that hold, as the document has them; the first free one. -/
import Derived.Test.YtlhapipgmadbeaaStoreP8
namespace Go.Proofs.Ytlhapipgmadbeaa
namespace Sq
open Go.RowKit Nv Nw Sp Lk

/-- Which places hold: none without power. -/
def hoM (m : M) (i : Nat) : Bool := !m.gone && decide (i < rooms m) && holds (rooms m) (pl m.ws) i
theorem cut_is {m : M} {h : Nat → Bool} (B : Bs (pl m.ws) (gs m) h) (i : Nat) : hoM m i = cutH (rooms m) (pl m.ws) h i := by
  cases hg : m.gone with
  | true =>
    have h0 : ∀ i, h i = false := fun i => by
      cases e : h i with
      | false => rfl
      | true => have := B.mem i e; rw [gs_gone hg] at this; cases this
    unfold hoM cutH
    rw [hg, h0 i]
    split <;> rfl
  | false =>
    rw [gs_on hg] at B
    have hd := B.done
    generalize hP : rooms m = P at *
    have e1 : cnt P h = cnt P (best P (pl m.ws)) := cnt_congr fun i hi => by rw [hd i]; simp [hi]
    have e2 : dropAt P (pl m.ws) h = dropAt P (pl m.ws) (best P (pl m.ws)) := drop_congr (fun i hi => by rw [hd i]; simp [hi]) (fun _ _ _ => rfl) (fun _ _ _ _ _ _ => Iff.rfl)
    unfold hoM cutH holds
    rw [hg, hP, e1, e2, hd i]
    by_cases hi : i < P
    · split <;> simp [hi]
    · split <;> simp [hi]
theorem holding_c {g b d : Nat} {m : M} {w : World} (h : Sto w g b d m) (hm : Good m) (A : Option Addr) (c : Nat) (hc : (gs m).length ≤ c) (hA : Pcs w A (gs m) (pl m.ws)) :
    Calls Try.prog 40 #[.pointer (some ⟨g, 0, none⟩), .slice A (gs m).length c] w fun e w' => ∃ B n, e = .returned (.map (some B)) ∧ n ≤ 1000 ∧ w.heap.size ≤ B ∧ Mh w' B n (rooms m) (pl m.ws) (hoM m) ∧ Below w.heap.size w w' := by
  refine (holding_h h hm A c (gs m) (pl m.ws) (okp_pl m.ws) (gs_rise m) (fun i hi => gs_mem hi) (by have := gs_len m; have := hm.most; unfold rooms at *; omega) hc hA).mono ?_
  rintro e w' ⟨B, n, h1, rfl, hn, hB, hbs, _, hmh, hb⟩
  exact ⟨B, n, rfl, hn, hB, hmh.congr fun i => cut_is hbs i, hb⟩

theorem info_b1 : (Try.prog.info? 4).map (fun i => (i.zero, i.size, i.bytes)) = some (some (.bool false), 1, 1) := by kernel_rfl
/-- What the walk of free carries: the bools of the places that were met. -/
structure Fr (w W : World) (S B r n P : Nat) (l : Nat → Pl) (h met : Nat → Bool) : Prop where
  rg : Rg W B r n P l h met
  row : W.rowIs S 4 P (fun i => .bool (h i && met i))
  old : Below w.heap.size w W
  lS : w.heap.size ≤ S
  lB : B < w.heap.size
  lr : w.heap.size ≤ r
  ne : S ≠ r
namespace Fr
variable {w W W' : World} {S B r n P : Nat} {l : Nat → Pl} {h met met' : Nat → Bool}
theorem grow (t : Fr w W S B r n P l h met) (hb : Below W.heap.size W W') : Fr w W' S B r n P l h met :=
  ⟨t.rg.grow hb, t.row.of_block (hb.block S t.row.lt), t.old.trans (hb.mono t.old.size), t.lS, t.lB, t.lr, t.ne⟩
/-- Behind a step, and the bool that it sets. -/
theorem put (t : Fr w W S B r n P l h met) {W2 : World} (ho : Off r W W2) (i : Nat) (hi : h i = true) (hr : Rg W2 B r n P l h (fun q => met q || decide (q = i))) (o : Obj) :
    Fr w ((W2.alloc o).setCell ⟨S, i, none⟩ (.bool true)) S B r n P l h (fun q => met q || decide (q = i)) := by
  have hS : S < W2.heap.size := by rw [ho.size]; exact t.row.lt
  have hBS : B ≠ S := by have := t.lS; have := t.lB; omega
  have e1 : ((W2.alloc o).setCell ⟨S, i, none⟩ (.bool true)).heap[B]? = W2.heap[B]? := (Below.heap_setCell _ _ _ _ hBS).trans (Below.heap_alloc _ _ _ hr.owns.lt)
  have e2 : ((W2.alloc o).setCell ⟨S, i, none⟩ (.bool true)).heap[r]? = W2.heap[r]? := (Below.heap_setCell _ _ _ _ (Ne.symm t.ne)).trans (Below.heap_alloc _ _ _ hr.lt)
  have hrow : (W2.alloc o).rowIs S 4 P (fun i => .bool (h i && met i)) := (t.row.of_block (ho.block S t.ne)).alloc o
  refine ⟨hr.of_blocks e1 e2, (hrow.set i (.bool true)).congr fun q _ => ?_, ((t.old.trans (ho.below t.lr)).alloc (by have := t.old.size; rw [ho.size]; exact this) o).setCell t.lS _, t.lS, t.lB, t.lr, t.ne⟩
  by_cases e : q = i
  · subst e; rw [if_pos rfl, hi]; simp
  · rw [if_neg e]; simp [e]
end Fr

set_option maxRecDepth 100000 in
set_option maxHeartbeats 4000000 in
theorem free_c {g b d : Nat} {m : M} {w : World} (h : Sto w g b d m) (hm : Good m) (hg : m.gone = false) (B n : Nat) (hM : Mh w B n (rooms m) (pl m.ws) (hoM m)) :
    Calls Try.prog 39 #[.pointer (some ⟨g, 0, none⟩), .map (some B)] w fun e w' => e = .returned (.int .i64 (free m)) ∧ free m < rooms m ∧ Below w.heap.size w w' := by
  have HP := Lib.hid (places_c h hm.most)
  have hP3 : rooms m ≤ 128 := by have := hm.most; unfold rooms; omega
  have hfr := free_spec hm.len
  have hho : ∀ i, i < rooms m → hoM m i = holds (rooms m) (pl m.ws) i := fun i hi => by unfold hoM; rw [hg]; simp [hi]
  have HX : Hid (∃ i, i < rooms m ∧ hoM m i = false) := ⟨free m, hfr.1, by rw [hho _ hfr.1]; exact hfr.2⟩
  have HFi : Hid (first (rooms m) (hoM m) = free m) := by
    show _ = _
    have hs := first_spec HX.out
    exact (first_uniq hs.1 (by rw [← hho _ hs.1]; exact hs.2.1) (fun j hj => by rw [← hho j (by omega)]; exact hs.2.2 j hj)).symm
  have HFl := Lib.hid hfr.1
  have hmk := run_make_row' (P := Try.prog) 85 4 (.bool false) 1 Try.underlying85 info_b1 rfl .i64 .i64 (rooms m) (by omega) (by omega)
  have HB := Lib.hid hM.lt
  have HM := Lib.hid hM
  clear h hm hfr hho hM hg
  generalize hoM m = ho at *
  generalize rooms m = P at *
  generalize pl m.ws = l at *
  generalize free m = F at *
  have HW : Hid (Below w.heap.size w (w.alloc (.cells (madeCells #[.bool false] P) 4))) := (Below.refl _ _).alloc (Nat.le_refl _) _
  have HR : Hid ((w.alloc (.cells (madeCells #[.bool false] P) 4)).rowIs w.heap.size 4 P (fun _ => .bool false)) := World.rowIs_made w _ P _
  replace HM := Lib.hid (HM.out.grow HW.out)
  go_enter Try.func39, Try.ntmps39
  go_wp2_with (first
    | (go_at_call 33; refine HP.out.mono ?_; rintro e W ⟨rfl, rfl⟩)
    | (at_range; refine rangeM rfl _ rfl B n P l ho rfl HM.out ?_; intro W1 h1 h2 h3; have HT : Hid (Fr w W1 w.heap.size B (w.heap.size + 1) n P l ho (fun _ => false)) := ⟨(by rw [World.size_alloc] at h1; exact h1), (HR.out.of_block (h2.block _ (by simp))).congr (fun i _ => by simp), HW.out.trans (h2.mono (by simp)), Nat.le_refl _, HB.out, by omega, by omega⟩; clear h1 h2 h3 HM HW HR HB HP)
    | fail)
  go_frame
  simp only [World.size_alloc]
  generalize w.heap.size + 1 = r at *
  obtain ⟨S, hS⟩ : ∃ S, w.heap.size = S := ⟨_, rfl⟩
  have HS := Lib.hid hS
  rw [hS] at HT ⊢
  clear hS hmk
  go_loopw [13] (fun _ wr => ∃ met, Fr w wr S B r n P l ho met) (fun _ wr => wr.rangeLeft B r)
  case atStart => exact ⟨_, HT.out⟩
  case round =>
    clear HT
    obtain ⟨met, hT⟩ := hrel
    have HT := Lib.hid hT
    clear hT
    go_wp2_with (first
      | (at_next; refine nextM rfl _ rfl B r n P l ho met rfl HT.out.rg ?_ ?_)
      | fail)
    · intro hd
      have HD := Lib.hid hd
      clear hd
      have HI := Lib.hid (index_c S P P ho wr (by omega) (fun i hi => by
        have := HT.out.row.cell hi
        rw [this]
        cases e : ho i with
        | false => rfl
        | true => rw [HD.out i e]; rfl) HX.out)
      rw [HFi.out] at HI
      clear HD HX HFi
      go_wp2_with (first
        | (go_at_call 49; refine HI.out.mono ?_; rintro e W ⟨rfl, rfl⟩)
        | fail)
      go_ret
      exact ⟨rfl, HFl.out, HT.out.old⟩
    · intro i W2 hi hmi hrg hlt ho2 hen
      have hiP := (hrg.owns.ok hi).1
      have hiP2 : (i : Int) < P := by omega
      have HT2 := Lib.hid (HT.out.put ho2 i hi hrg (pob i (l i)))
      have HL : Hid ((((W2.alloc (pob i (l i))).setCell ⟨S, i, none⟩ (.bool true))).rangeLeft B r < wr.rangeLeft B r) := by
        have hBS : B ≠ S := by have := HT.out.lS; have := HT.out.lB; omega
        show _ < _
        rw [left_of ((Below.heap_setCell _ _ _ _ hBS).trans (Below.heap_alloc _ _ _ hrg.owns.lt)) ((Below.heap_setCell _ _ _ _ (Ne.symm HT.out.ne)).trans (Below.heap_alloc _ _ _ hrg.lt))]
        exact hlt
      have hrow : (W2.alloc (pob i (l i))).rowIs S 4 P (fun i => .bool (ho i && met i)) := (HT.out.row.of_block (ho2.block S HT.out.ne)).alloc _
      have c1 := hrow.cell hiP
      have f1 := hrow.frozen i
      clear hrow hrg hlt ho2 hmi hi HT
      go_wp2_with fail
      go_roundw
      case rel => exact ⟨_, HT2.out⟩
      case measure => exact HL.out
end Sq
end Go.Proofs.Ytlhapipgmadbeaa
