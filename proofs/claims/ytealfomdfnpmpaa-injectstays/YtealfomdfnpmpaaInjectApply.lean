/- Apply of package inject: a range over the faults that are there. -/
import Derived.Test.YtealfomdfnpmpaaInjectSeq
namespace Go.Proofs.Ytealfomdfnpmpaa
namespace Jw
open Go.RowKit Go.Shelf Nj

attribute [local go_sem] Oper.semAt_some

/-- **What on hands back**: the faults that are there; or some of them, where a round has said 'no more'. -/
theorem seq_stops (d n₀ B1 B2 : Nat) (A : Option Addr) (n cp : Nat) (fr : Int) (L : List Flt) (hn : L.length = n) (hl : n ≤ 9223372036854775807) (w : World) (hn₀ : n₀ ≤ w.heap.size) (h1 : B1 < w.heap.size) (h2 : B2 < w.heap.size)
    (hT : SeqBox n₀ B1 B2 w A n cp fr L) :
    SeqStopsK Fence.wide d Try.prog 21 #[.pointer (some ⟨B1, 0, none⟩), .pointer (some ⟨B2, 0, none⟩)] (encF fr) (KpF n₀ B1 B2) (fun zs => zs = ons fr L) (fun _ => True) n w := fun l J Jx W hW hJ _ hY h0 =>
  seq_in d l n₀ B1 B2 A n cp fr L hn hl J Jx W hJ hY (hT.kp ⟨hW.mono hn₀, hW.block B1 h1, hW.block B2 h2⟩) h0

theorem Fls.box {w W : World} {A : Option Addr} {L : List Flt} (h : Fls w A L) (hb : Below w.heap.size w W) {B1 B2 n cp : Nat} {fr : Int} (h1 : Lk.BoxV W B1 23 #[.slice A n cp]) (h2 : Lk.BoxV W B2 3 #[.int .i64 fr]) : SeqBox w.heap.size B1 B2 W A n cp fr L :=
  ⟨h1, h2, hb.size, fun i hi => by
    obtain ⟨b, o, e, hl, hr⟩ := h.at_ i hi
    exact ⟨b, o, e, hl, range_below hb hl hr⟩⟩

set_option maxRecDepth 100000 in
set_option maxHeartbeats 8000000 in
theorem apply_c (A : Option Addr) (n cp : Nat) (L : List Flt) (fr la c : Int) (hn : L.length = n) (w : World) (hA : Fls w A L) :
    Calls Try.prog 13 #[.slice A n cp, .int .i64 fr, .int .i64 la, .int .i64 c] w fun e w' => e = .returned (.int .i64 (ap L fr la c)) ∧ Below w.heap.size w w' := by
  have HA := Lib.hid hA
  have HN := Lib.hid hn
  have hlen : n ≤ 9223372036854775807 := by rw [← hn]; exact hA.len
  have hfn : ∀ f, Fence.wide.fn f := fun _ => trivial
  obtain ⟨c0, hc0⟩ : ∃ c0, cl c = c0 := ⟨_, rfl⟩
  have HC := Lib.hid hc0
  have NC : Hid (∀ W, Calls Try.prog 16 #[.int .i64 c] W fun e w' => e = .returned (.int .i64 c0) ∧ W = w') := fun W => hc0 ▸ nearest_c c W
  clear hA hn hc0
  refine (callsIn_wide (n := 9)).1 ?_
  refine callsIn_of_wp_marks Try.func13 rfl trivial ?_ rfl
  simp only [Try.ntmps13, List.size_toArray, List.length_cons, List.length_nil, Nat.reduceAdd, Nat.reduceSub, Array.replicate_succ, Array.replicate_zero, List.push_toArray, List.append_toArray, List.nil_append, List.cons_append]
  gi_wp2_with fail
  refine (callsIn_wide.2 (NC.out _)).mono ?_
  rintro e w' ⟨rfl, rfl⟩
  gi_wp2_with fail
  refine (callsIn_wide.2 (seq_c _ _ _ _ _)).mono ?_
  rintro e w' ⟨rfl, rfl⟩
  gi_wp2_with fail
  have b4 := Lk.BoxV.new ((((w.alloc (.cells #[.int .i64 fr] 3)).alloc (.cells #[.int .i64 la] 3)).alloc (.cells #[.int .i64 c0] 3)).alloc (.cells #[.slice A n cp] 23)) 3 #[.int .i64 fr]
  have b3 := (Lk.BoxV.new (((w.alloc (.cells #[.int .i64 fr] 3)).alloc (.cells #[.int .i64 la] 3)).alloc (.cells #[.int .i64 c0] 3)) 23 #[.slice A n cp]).alloc (.cells #[.int .i64 fr] 3)
  have b2 := ((Lk.BoxV.new ((w.alloc (.cells #[.int .i64 fr] 3)).alloc (.cells #[.int .i64 la] 3)) 3 #[.int .i64 c0]).alloc (.cells #[.slice A n cp] 23)).alloc (.cells #[.int .i64 fr] 3)
  have b1 := (((Lk.BoxV.new (w.alloc (.cells #[.int .i64 fr] 3)) 3 #[.int .i64 la]).alloc (.cells #[.int .i64 c0] 3)).alloc (.cells #[.slice A n cp] 23)).alloc (.cells #[.int .i64 fr] 3)
  have b0 := ((((Lk.BoxV.new w 3 #[.int .i64 fr]).alloc (.cells #[.int .i64 la] 3)).alloc (.cells #[.int .i64 c0] 3)).alloc (.cells #[.slice A n cp] 23)).alloc (.cells #[.int .i64 fr] 3)
  have hB0 := (((((Below.refl w.heap.size w).alloc (Nat.le_refl _) (.cells #[.int .i64 fr] 3)).alloc (by simp) (.cells #[.int .i64 la] 3)).alloc (by simp; omega) (.cells #[.int .i64 c0] 3)).alloc (by simp; omega) (.cells #[.slice A n cp] 23)).alloc (by simp; omega) (.cells #[.int .i64 fr] 3)
  have hsz : (((((w.alloc (.cells #[.int .i64 fr] 3)).alloc (.cells #[.int .i64 la] 3)).alloc (.cells #[.int .i64 c0] 3)).alloc (.cells #[.slice A n cp] 23)).alloc (.cells #[.int .i64 fr] 3)).heap.size = w.heap.size + 5 := by simp
  simp only [World.size_alloc] at b4 b3 b2 b1
  generalize ((((w.alloc (.cells #[.int .i64 fr] 3)).alloc (.cells #[.int .i64 la] 3)).alloc (.cells #[.int .i64 c0] 3)).alloc (.cells #[.slice A n cp] 23)).alloc (.cells #[.int .i64 fr] 3) = W0 at b4 b3 b2 b1 b0 hB0 hsz ⊢
  refine Lk.rangeH (by omega) (gf := 21) (lb := #[.pointer (some ⟨w.heap.size + 1 + 1 + 1, 0, none⟩), .pointer (some ⟨w.heap.size + 1 + 1 + 1 + 1, 0, none⟩)]) rfl (enters_of Try.func21 (by kernel_rfl) rfl)
    (seq_stops 8 w.heap.size (w.heap.size + 1 + 1 + 1) (w.heap.size + 1 + 1 + 1 + 1) A n cp fr L HN.out hlen W0 (by omega) (by omega) (by omega) (HA.out.box hB0 b3 b4)) KpF.trans (kpF_b (by omega) (by omega) (by omega)) (fun _ => rfl)
    (fun pre W => Lk.BoxV W (w.heap.size + 1 + 1) 3 #[.int .i64 (gos fr la c0 pre)] ∧ ((Lk.BoxV W w.heap.size 3 #[.int .i64 fr] ∧ Lk.BoxV W (w.heap.size + 1) 3 #[.int .i64 la]) ∧ (Below w.heap.size w W ∧ w.heap.size + 5 ≤ W.heap.size)))
    (fun _ _ _ => False)
    (OwnFrom.and (Own.from (Lk.boxV_own _ _ _) _) (OwnFrom.and (OwnFrom.and (Own.from (Lk.boxV_own _ _ _) _) (Own.from (Lk.boxV_own _ _ _) _)) (OwnFrom.and (ownFrom_below (Nat.le_refl _) (by omega)) (Lk.ownFrom_size _ _))))
    (fun _ _ _ _ _ hs _ _ => hs)
    ⟨b2, ⟨b0, b1⟩, hB0, by omega⟩
    (w.heap.size + 5) 27 15 9 (fun j => .agg (fc j.1.k j.1.s j.1.f j.1.l)) (fun j => fc j.1.k j.1.s j.1.f j.1.l) ?assign ?body ?done ?stop
  case assign =>
    rintro l pre k W K ⟨bM1, ⟨bA, bL⟩, hB1, hsW⟩ hK
    have HK := Lib.hid hK
    clear hK
    simp only [encF]
    gi_wp2
    exact HK.out _ _ ((KeepsOthers.alloc _ _).from _) ⟨(Below.refl _ W).alloc hB1.size _, Below.heap_alloc _ _ _ (by omega), Below.heap_alloc _ _ _ (by omega)⟩ ⟨bM1.alloc _, ⟨bA.alloc _, bL.alloc _⟩, hB1.alloc hB1.size _, by simp; omega⟩ ⟨W.heap.size, hsW, Lk.BoxV.new W _ _, rfl⟩
  case body =>
    rintro l pre ⟨⟨k, s, f, lo⟩, hon⟩ Bx W hBx bX ⟨bM1, ⟨bA, bL⟩, hB1, hsW⟩ hlt
    have hci := gos_in (fr := fr) (la := la) pre (c := c0) (HC.out ▸ cl_in c)
    have HG : Hid (gos fr la c0 (pre ++ [⟨⟨k, s, f, lo⟩, hon⟩]) = cl (pr ⟨k, s, f, lo⟩ (fr - f) la (gos fr la c0 pre))) := by
      show _ = _; rw [gos_snoc, pr_wh (of_onB hon) hci]
    obtain ⟨⟨h1, h2, h3, h4, h5, h6, h7, h8⟩, h9, h10, h11⟩ := of_onB hon
    simp only at h5 h6 h7 h8 h10 h11 bX
    obtain ⟨si, hsi⟩ : ∃ si, fr - f = si := ⟨_, rfl⟩
    have w1 : IntKind.i64.wrap (fr - f) = si := by rw [IntWalk.i64_in _ (by omega), hsi]
    have CH : Hid (∀ W (cur : Int), Calls Try.prog 18 #[.agg (fc k s f lo), .int .i64 si, .int .i64 la, .int .i64 cur] W fun e w' => e = .returned (.int .i64 (pr ⟨k, s, f, lo⟩ si la cur)) ∧ Below W.heap.size W w') := fun W cur => change_c k s f lo si la cur (by omega) W
    rw [hsi] at HG
    clear hsi h1 h2 h3 h4 h5 h6 h7 h8 h9 h10 h11 hci
    have HBk : Hid (Blk W Bx k s f lo) := bX
    have f2 : W.cell? ⟨Bx, 2, none⟩ = some (.int .i64 f) := HBk.out.fld.2.2.1
    have a0 := bA.cell 0
    have l0 := bL.cell 0
    have m0 := bM1.cell 0
    simp only [List.getElem?_toArray, List.getElem?_cons_zero] at a0 l0 m0
    generalize gos fr la c0 pre = cur at HG bM1 m0
    obtain ⟨v, hv⟩ : ∃ v, pr ⟨k, s, f, lo⟩ si la cur = v := ⟨_, rfl⟩
    have CV : Hid (∀ W, Calls Try.prog 18 #[.agg (fc k s f lo), .int .i64 si, .int .i64 la, .int .i64 cur] W fun e w' => e = .returned (.int .i64 v) ∧ Below W.heap.size W w') := fun W => hv ▸ CH.out W cur
    rw [hv] at HG
    obtain ⟨u, hu⟩ : ∃ u, cl v = u := ⟨_, rfl⟩
    have NV : Hid (∀ W, Calls Try.prog 16 #[.int .i64 v] W fun e w' => e = .returned (.int .i64 u) ∧ W = w') := fun W => hu ▸ nearest_c v W
    rw [hu] at HG
    clear hv hu CH
    have HM := Lib.hid bM1
    have HAB := Lib.hid bA
    have HLB := Lib.hid bL
    have HBl := Lib.hid hB1
    have hbm := bM1.lt
    have hsz1 := hB1.size
    clear bX bM1 bA bL hB1
    simp only [List.setIfInBounds_toArray, List.set_cons_succ, List.set_cons_zero]
    have hfr : ∀ g, (Fence.wide.inRound l).fn g := fun _ => trivial
    gi_wp2_with (first | (refine ldIn rfl _ rfl _ _ _ _ _ rfl HBk.out ?_) | fail)
    refine (CallsIn.inRound l (callsIn_wide.2 (CV.out _))).mono ?_
    rintro e W2 ⟨rfl, hb2⟩
    have m2 := (HM.out.below hb2 hbm).cell 0
    simp only [List.getElem?_toArray, List.getElem?_cons_zero] at m2
    have m3 := (HM.out.below hb2 hbm).frozen 0
    have HB2 := Lib.hid hb2
    clear hb2
    gi_wp2_with fail
    refine (CallsIn.inRound l (callsIn_wide.2 (NV.out _))).mono ?_
    rintro e W3 ⟨rfl, rfl⟩
    gi_wp2_with fail
    have hk3 := Lk.keeps_of_below HB2.out
    have bM2 := (HM.out.below HB2.out hbm).set (.int .i64 u)
    have hz2 := HB2.out.size
    rw [← HG.out] at bM2 ⊢
    refine ⟨(hk3.trans (KeepsOthers.setCell _ _ _)).from _, ⟨(HB2.out.mono hsz1).setCell (p := ⟨w.heap.size + 1 + 1, 0, none⟩) (by simp; omega) _, ?_, ?_⟩, bM2, ⟨(HAB.out.below HB2.out (by omega)).other (by show ¬ w.heap.size + 1 + 1 = w.heap.size; omega) _, (HLB.out.below HB2.out (by omega)).other (by simp) _⟩, (HBl.out.trans (HB2.out.mono hsz1)).setCell (p := ⟨w.heap.size + 1 + 1, 0, none⟩) (by simp; omega) _, by simp [World.setCell]; omega⟩
    · exact (Below.heap_setCell _ _ _ _ (by simp)).trans (HB2.out.block _ (by omega))
    · exact (Below.heap_setCell _ _ _ _ (by simp; omega)).trans (HB2.out.block _ (by omega))
  case done =>
    rintro D zs W hD rfl ⟨bM1, _, hB1, hsW⟩ hK
    have E : Hid (ap L fr la c = gos fr la c0 (ons fr L)) := by show _ = _; rw [gos_ons, ← HC.out]; rfl
    have m0 := bM1.cell 0
    simp only [List.getElem?_toArray, List.getElem?_cons_zero] at m0
    gi_wp2
    refine ⟨by simp, .inl ⟨_, _, rfl, run_takeDeferred hK, ?_⟩⟩
    refine ⟨_, results_tmp rfl _ _ _, ?_, hB1.trans (belowK_b (w := w) (Nat.le_refl _) W D _ _ (by omega) hK rfl rfl)⟩
    exact FixC.ret_int E.out.symm
  case stop =>
    rintro D c pre W _ _ h _
    exact h.elim
end Jw
end Go.Proofs.Ytealfomdfnpmpaa
