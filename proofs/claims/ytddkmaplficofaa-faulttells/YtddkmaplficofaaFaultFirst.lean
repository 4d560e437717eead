/- The first record that is so: fault.first. -/
import Derived.Test.YtddkmaplficofaaFaultSeq
namespace Go.Proofs.Ytddkmaplficofaa
namespace Fw
open Go.RowKit Go.Shelf Fa Lk
open Sp (R)

attribute [local go_sem] Oper.semAt_some

/-- **What where hands back**: the places that are so; or the first ones, where a round has said 'no more'. -/
theorem seq_stops (d n₀ B1 B2 Bf Bc : Nat) (A : Option Addr) (n cp K : Nat) (c : Int) (q : R → Bool) (hK : So K c q) (L : List R) (hn : L.length = n) (hl : n ≤ 9223372036854775807) (w : World) (hn₀ : n₀ ≤ w.heap.size)
    (hT : SeqBox n₀ B1 B2 Bf Bc w A n cp K c L) :
    SeqStopsK Fence.wide d Try.prog 37 #[.pointer (some ⟨B1, 0, none⟩), .pointer (some ⟨B2, 0, none⟩)] encN (Kl n₀ [B1, B2, Bf]) (fun zs => zs = ups (qi q L) n) (fun pre => ∃ m, m ≤ n ∧ pre = ups (qi q L) m) n w := fun l J Jx W hW hJ _ hY h0 =>
  seq_in d l n₀ B1 B2 Bf Bc A n cp K c q hK L hn hl J Jx W hJ hY (hT.kl ⟨hW.mono hn₀, fun b hb => by
    simp only [List.mem_cons, List.not_mem_nil, or_false] at hb
    rcases hb with rfl | rfl | rfl
    · exact hW.block _ hT.b1.lt
    · exact hW.block _ hT.b2.lt
    · exact hW.block _ hT.bf.lt⟩) h0

theorem first_is {q : R → Bool} {L : List R} {m x : Nat} (hm : m ≤ L.length) (h : ups (qi q L) m = [x]) : at_ q L = x := by
  obtain ⟨h1, h2, h3⟩ := ups_one h
  obtain ⟨r, hr⟩ : ∃ r, L[x]? = some r := ⟨L[x]'(by omega), List.getElem?_eq_getElem _⟩
  refine at_first ⟨r, hr, by rw [qi_some hr] at h1; exact h1⟩ fun j s hj hs => ?_
  have := h3 j hj
  rwa [qi_some hs] at this
theorem first_no {q : R → Bool} {L : List R} (h : ups (qi q L) L.length = []) : at_ q L = L.length := at_none fun j s hs => by
  have := ups_nil h j (List.getElem?_eq_some_iff.1 hs).1
  rwa [qi_some hs] at this

set_option maxRecDepth 100000 in
set_option maxHeartbeats 8000000 in
theorem first_c (A : Option Addr) (n cp K : Nat) (c : Int) (q : R → Bool) (hK : So K c q) (Bc : Nat) (L : List R) (hn : L.length = n) (hl : n ≤ 1000) (w : World) (hc : BoxV w Bc 3 #[.int .i64 c]) (hA : Rcs w A L) :
    Calls Try.prog 25 #[.slice A n cp, fv K Bc] w fun e w' => e = .returned (.int .i64 (at_ q L)) ∧ Below w.heap.size w w' := by
  have hfn : ∀ f, Fence.wide.fn f := fun _ => trivial
  refine (callsIn_wide (n := 9)).1 ?_
  refine callsIn_of_wp_marks Try.func25 rfl trivial ?_ rfl
  simp only [Try.ntmps25, List.size_toArray, List.length_cons, List.length_nil, Nat.reduceAdd, Nat.reduceSub, Array.replicate_succ, Array.replicate_zero, List.push_toArray, List.append_toArray, List.nil_append, List.cons_append]
  gi_wp2_with fail
  refine (callsIn_wide.2 (where_c A n cp w.heap.size _)).mono ?_
  rintro e w' ⟨rfl, rfl⟩
  gi_wp2_with fail
  have b3 := BoxV.new (((w.alloc (.cells #[fv K Bc] 47)).alloc (.cells #[.int .i64 0] 3)).alloc (.cells #[.slice A n cp] 24)) 54 #[fv 33 w.heap.size]
  have b2 := (BoxV.new ((w.alloc (.cells #[fv K Bc] 47)).alloc (.cells #[.int .i64 0] 3)) 24 #[.slice A n cp]).alloc (.cells #[fv 33 w.heap.size] 54)
  have b1 := ((BoxV.new (w.alloc (.cells #[fv K Bc] 47)) 3 #[.int .i64 0]).alloc (.cells #[.slice A n cp] 24)).alloc (.cells #[fv 33 w.heap.size] 54)
  have b0 := (((BoxV.new w 47 #[fv K Bc]).alloc (.cells #[.int .i64 0] 3)).alloc (.cells #[.slice A n cp] 24)).alloc (.cells #[fv 33 w.heap.size] 54)
  have hB0 := ((((Below.refl w.heap.size w).alloc (Nat.le_refl _) (.cells #[fv K Bc] 47)).alloc (by simp) (.cells #[.int .i64 0] 3)).alloc (by simp; omega) (.cells #[.slice A n cp] 24)).alloc (by simp; omega) (.cells #[fv 33 w.heap.size] 54)
  have hsz : ((((w.alloc (.cells #[fv K Bc] 47)).alloc (.cells #[.int .i64 0] 3)).alloc (.cells #[.slice A n cp] 24)).alloc (.cells #[fv 33 w.heap.size] 54)).heap.size = w.heap.size + 4 := by simp
  simp only [World.size_alloc] at b3 b2 b1
  generalize (((w.alloc (.cells #[fv K Bc] 47)).alloc (.cells #[.int .i64 0] 3)).alloc (.cells #[.slice A n cp] 24)).alloc (.cells #[fv 33 w.heap.size] 54) = W0 at b3 b2 b1 b0 hB0 hsz ⊢
  have hT : SeqBox w.heap.size (w.heap.size + 1 + 1) (w.heap.size + 1 + 1 + 1) w.heap.size Bc W0 A n cp K c L :=
    ⟨b2, b3, b0, hc.below hB0 hc.lt, hc.lt, by omega, fun i r hi => by
      obtain ⟨g, o, e, hg, hr⟩ := hA i r hi
      exact ⟨g, o, e, hg, fun j v hv => (hB0.cell (p := ⟨g, o + i * 3 + j, none⟩) hg).trans (hr j v hv)⟩⟩
  have HN := Lib.hid hn
  clear hc hA hn
  refine rangeU (by omega) (gf := 37) (lb := #[.pointer (some ⟨w.heap.size + 1 + 1, 0, none⟩), .pointer (some ⟨w.heap.size + 1 + 1 + 1, 0, none⟩)]) rfl (enters_of Try.func37 (by kernel_rfl) rfl)
    (seq_stops 8 w.heap.size (w.heap.size + 1 + 1) (w.heap.size + 1 + 1 + 1) w.heap.size Bc A n cp K c q hK L HN.out (by omega) W0 (by omega) hT) Kl.trans (fun W => Kl.refl _ _ W) (Kl.putObj (by omega) (by intro b hb; simp only [List.mem_cons, List.not_mem_nil, or_false] at hb; omega)) (fun _ => rfl)
    (fun pre W => (pre = [] ∧ BoxV W (w.heap.size + 1) 3 #[.int .i64 0]) ∧ (Below w.heap.size w W ∧ w.heap.size + 4 ≤ W.heap.size))
    (fun c pre W => ((c = .ret ∧ ∃ x, pre = [x]) ∧ BoxV W (w.heap.size + 1) 3 #[.int .i64 ((pre.headD 0 : Nat) : Int)]) ∧ Below w.heap.size w W)
    (OwnFrom.and (OwnFrom.and (Lk.ownFrom_pure _ _) (Own.from (Lk.boxV_own _ _ _) _)) (OwnFrom.and (ownFrom_below (Nat.le_refl _) (by omega)) (Lk.ownFrom_size _ _)))
    (fun c => OwnFrom.and (OwnFrom.and (Lk.ownFrom_pure _ _) (Own.from (Lk.boxV_own _ _ _) _)) (ownFrom_below (Nat.le_refl _) (by omega)))
    ⟨⟨rfl, b1⟩, hB0, by omega⟩
    9 5 (fun x => .int .i64 x) ?assign ?body ?done ?stop
  case assign =>
    rintro l x W K hK
    have HK := Lib.hid hK
    clear hK
    simp only [encN, frameU] at HK ⊢
    gi_wp2
    exact HK.out
  case body =>
    rintro l pre x W ⟨⟨rfl, bR⟩, hB1, hsW⟩ hlt
    have r0 := bR.cell 0
    simp only [List.getElem?_toArray, List.getElem?_cons_zero] at r0
    have r1 := bR.frozen 0
    simp only [frameU, List.setIfInBounds_toArray, List.set_cons_succ, List.set_cons_zero]
    gi_wp2
    exact ⟨(KeepsOthers.setCell _ _ _).from _, ⟨⟨rfl, x, rfl⟩, bR.set _⟩, hB1.setCell (p := ⟨w.heap.size + 1, 0, none⟩) (by simp) _⟩
  case done =>
    rintro D zs W hD rfl ⟨⟨hz, bR⟩, hB1, hsW⟩ hK
    have E : Hid (at_ q L = n) := by
      have := first_no (q := q) (L := L) (by rw [HN.out]; exact hz)
      rw [HN.out] at this
      exact this
    clear hz
    have r0 := bR.cell 0
    simp only [List.getElem?_toArray, List.getElem?_cons_zero] at r0
    have r1 := bR.frozen 0
    gi_wp2
    have hK' := (KeepsOthers.setCell W ⟨w.heap.size + 1, 0, none⟩ (.int .i64 n)).same D _ hK rfl
    refine ⟨by simp, .inl ⟨_, _, rfl, run_takeDeferred hK', ?_⟩⟩
    have c5 := ((bR.set (.int .i64 n)).put (.deferred none) hK' rfl).cell 0
    simp only [List.getElem?_toArray, List.getElem?_cons_zero] at c5
    refine ⟨.int .i64 n, ?_, ret_i (by rw [E.out]), (hB1.setCell (p := ⟨w.heap.size + 1, 0, none⟩) (by simp) _).trans (belowK_b (w := w) (Nat.le_refl _) _ D _ _ (by omega) hK' rfl rfl)⟩
    simp [results, Try.f25, go_sem, c5]
  case stop =>
    rintro D c' pre W hD ⟨m, hm, hp⟩ ⟨⟨⟨rfl, x, rfl⟩, bR⟩, hB1⟩ hK
    have E : Hid (at_ q L = x) := first_is (by rw [HN.out]; exact hm) hp.symm
    clear hp
    gi_wp2
    refine ⟨by simp, .inl ⟨_, _, rfl, run_takeDeferred hK, ?_⟩⟩
    have c5 := (bR.put (.deferred none) hK rfl).cell 0
    simp only [List.getElem?_toArray, List.getElem?_cons_zero, List.headD_cons] at c5
    refine ⟨.int .i64 x, ?_, ret_i (by rw [E.out]), hB1.trans (belowK_b (w := w) (Nat.le_refl _) W D _ _ (by omega) hK rfl rfl)⟩
    simp [results, Try.f25, go_sem, c5]
end Fw
end Go.Proofs.Ytddkmaplficofaa
