/- The program's store: Records. (What the laws take of the program's store is complete with this text.) -/
import Derived.Test.YtlhapipgmadbeaaStoreP11
namespace Go.Proofs.Ytlhapipgmadbeaa
namespace Sq
open Go.RowKit Nv Nw Sp Lk

/-- Records of the places that hold, sorted by code, are what the memory tells. -/
theorem told_is {m : M} {S : List Nat} (hd : S.Nodup) (hS : ∀ i, i ∈ S ↔ hoM m i = true) {L : List R} (hp : L.Perm (S.map fun i => rc (pl m.ws i))) (hs : L.Pairwise fun a b => a.code ≤ b.code) : L = told m := by
  cases hg : m.gone with
  | true =>
    have h0 : S = [] := by
      cases S with
      | nil => rfl
      | cons a S =>
        have := (hS a).1 (by simp)
        unfold hoM at this
        rw [hg] at this
        simp at this
    subst h0
    rw [show told m = [] from by unfold told; rw [if_pos hg]]
    simpa using hp
  | false =>
    rw [told_eq hg]
    have hh : ∀ i, i ∈ S ↔ i < rooms m ∧ holds (rooms m) (pl m.ws) i = true := fun i => by
      rw [hS]
      unfold hoM
      rw [hg]
      simp
    refine rise_ext (r := fun a b => a.code < b.code) code_asym ?_ (recs_rise _ _) fun x => ?_
    · have h1 : (S.map fun i => rc (pl m.ws i)).Pairwise fun a b => a.code ≠ b.code := by
        rw [List.pairwise_map]
        refine List.Pairwise.imp_of_mem ?_ hd
        intro i j hi hj hne he
        exact hne (holds_uniq ((hh i).1 hi).1 ((hh j).1 hj).1 ((hh i).1 hi).2 ((hh j).1 hj).2 he)
      have h2 : L.Pairwise fun a b => a.code ≠ b.code := (hp.symm.pairwise_iff (fun {_ _} h => Ne.symm h)).1 h1
      exact (hs.and h2).imp fun ⟨a, b⟩ => by omega
    · rw [hp.mem_iff, recs_mem (codes_pl m), List.mem_map]
      constructor
      · rintro ⟨i, hi, rfl⟩
        exact ⟨i, ((hh i).1 hi).1, ((hh i).1 hi).2, rfl⟩
      · rintro ⟨i, h1, h2, h3⟩
        exact ⟨i, (hh i).2 ⟨h1, h2⟩, h3⟩

theorem nodup_len : ∀ (P : Nat) (S : List Nat), S.Nodup → (∀ i ∈ S, i < P) → S.length ≤ P
  | 0, S, _, h => by
    cases S with
    | nil => exact Nat.le_refl _
    | cons a S => have := h a (by simp); omega
  | P + 1, S, hn, h => by
    by_cases e : P ∈ S
    · have h1 := nodup_len P (S.erase P) (hn.erase P) fun i hi => by
        have := (hn.mem_erase_iff).1 hi
        have := h i this.2
        omega
      rw [List.length_erase_of_mem e] at h1
      omega
    · have := nodup_len P S hn fun i hi => by
        have h1 := h i hi
        have h2 : i ≠ P := fun q => e (q ▸ hi)
        omega
      omega
/-- What the walk of Records carries through its range: the records of the places that were met. -/
structure Tl (w W : World) (b1 g b d B r n : Nat) (m : M) (met : Nat → Bool) (v : Value) (S : List Nat) : Prop where
  rg : Rg W B r n (rooms m) (pl m.ws) (hoM m) met
  row : Rw 37 3 rf_ W b1 v (S.map fun i => rc (pl m.ws i))
  sto : Sto W g b d m
  turn : Turn b d w W
  l1 : w.heap.size ≤ b1
  l2 : b1 ≤ W.heap.size
  lB : B < b1
  lr : r < b1
  lr2 : w.heap.size ≤ r
  lb : b < w.heap.size
  ld : d < w.heap.size
  lg : g < w.heap.size
  nd : S.Nodup
  mem : ∀ i, i ∈ S ↔ hoM m i = true ∧ met i = true
namespace Tl
variable {w W W2 W7 : World} {b1 g b d B r n : Nat} {m : M} {met : Nat → Bool} {v v' : Value} {S : List Nat}
/-- The row, behind a step and two new blocks. -/
theorem row2 (t : Tl w W b1 g b d B r n m met v S) (ho : Off r W W2) (o o' : Obj) : Rw 37 3 rf_ ((W2.alloc o).alloc o') b1 v (S.map fun i => rc (pl m.ws i)) := by
  refine Rw.alloc (Rw.alloc ?_ o) o'
  obtain ⟨h1, h2⟩ := t.row
  refine ⟨h1, ?_⟩
  rcases h2 with h2 | ⟨gg, cap, cur, hv, hg, hh, rr⟩
  · exact .inl h2
  · exact .inr ⟨gg, cap, cur, hv, hg, (ho.block gg (by have := t.lr; omega)).trans hh, rr⟩
theorem snoc (t : Tl w W b1 g b d B r n m met v S) {i : Nat} (hi : hoM m i = true) (hmi : met i = false) (ho : Off r W W2) (hr : Rg W2 B r n (rooms m) (pl m.ws) (hoM m) (fun q => met q || decide (q = i))) (o o' : Obj)
    (hrow : Rw 37 3 rf_ W7 b1 v' ((S.map fun i => rc (pl m.ws i)) ++ [rc (pl m.ws i)])) (hb : Below b1 ((W2.alloc o).alloc o') W7) : Tl w W7 b1 g b d B r n m (fun q => met q || decide (q = i)) v' (S ++ [i]) := by
  have hsz : W2.heap.size = W.heap.size := ho.size
  have l2 := t.l2
  have e2 : ∀ k, k < b1 → W7.heap[k]? = W2.heap[k]? := fun k hk => (hb.block k hk).trans ((Below.heap_alloc _ _ _ (by simp; omega)).trans (Below.heap_alloc _ _ _ (by omega)))
  have e3 : ∀ k, k < b1 → k ≠ r → W7.heap[k]? = W.heap[k]? := fun k hk hkr => (e2 k hk).trans (ho.block k hkr)
  have l1 := t.l1
  have lr2 := t.lr2
  have hB := t.lb
  have hD := t.ld
  have hG := t.lg
  refine ⟨hr.of_blocks (e2 B t.lB) (e2 r t.lr), by rw [List.map_append]; exact hrow, t.sto.same ⟨t.sto.mem.row.of_block (e3 b (by omega) (by omega)), t.sto.mem.ws.of_block (e3 d (by omega) (by omega)), t.sto.mem.ne⟩ (e3 g (by omega) (by omega)),
    ⟨hb.os.trans (ho.os.trans t.turn.os), hb.tape.trans (ho.tape.trans t.turn.tape), hb.output.trans (ho.output.trans t.turn.output), ?_, fun k hk h1 h2 => (e3 k (by omega) (by omega)).trans (t.turn.block k hk h1 h2)⟩, t.l1, ?_, t.lB, t.lr, t.lr2, t.lb, t.ld, t.lg, ?_, fun q => ?_⟩
  · have := hb.size; simp at this; omega
  · have := hb.size; simp at this; omega
  · rw [List.nodup_append]
    refine ⟨t.nd, by simp, fun a ha c hc e => ?_⟩
    simp only [List.mem_singleton] at hc
    subst hc; subst e
    rw [((t.mem a).1 ha).2] at hmi
    cases hmi
  · rw [List.mem_append, List.mem_singleton, t.mem]
    simp only [Bool.or_eq_true, decide_eq_true_eq]
    constructor
    · rintro (⟨h1, h2⟩ | rfl)
      · exact ⟨h1, .inl h2⟩
      · exact ⟨hi, .inr rfl⟩
    · rintro ⟨h1, h2 | rfl⟩
      · exact .inl ⟨h1, h2⟩
      · exact .inr rfl
theorem left (t : Tl w W b1 g b d B r n m met v S) (ho : Off r W W2) (o o' : Obj) (hb : Below b1 ((W2.alloc o).alloc o') W7) (hlt : W2.rangeLeft B r < W.rangeLeft B r) : W7.rangeLeft B r < W.rangeLeft B r := by
  have hsz : W2.heap.size = W.heap.size := ho.size
  have l2 := t.l2
  have e2 : ∀ k, k < b1 → W7.heap[k]? = W2.heap[k]? := fun k hk => (hb.block k hk).trans ((Below.heap_alloc _ _ _ (by simp; omega)).trans (Below.heap_alloc _ _ _ (by omega)))
  rw [left_of (e2 B t.lB) (e2 r t.lr)]
  exact hlt
end Tl
theorem frozen_row {e sz base : Nat} {f : R → List Value} {W : World} {g n c : Nat} {L : List R} (h : Rw e sz f W base (.slice (some ⟨g, 0, none⟩) n c) L) (a : Nat) : W.frozen? ⟨g, a, none⟩ = false := by
  rcases h.2 with ⟨h0, _⟩ | ⟨gg, cap, cur, hv, _, hh, _⟩
  · cases h0
  · injection hv with e1
    injection e1 with e1
    injection e1 with e1
    subst e1
    simp [World.frozen?, hh]

set_option maxRecDepth 100000 in
set_option maxHeartbeats 4000000 in
/-- Records: what the memory tells. -/
theorem stold_c {g b d : Nat} {m : M} {w : World} (h : Sto w g b d m) (hm : Good m) :
    Calls Try.prog 26 #[.pointer (some ⟨g, 0, none⟩)] w fun e w' => ∃ A c, e = .returned (.slice A (told m).length c) ∧ (told m).length ≤ c ∧ New_ w' w.heap.size A (told m) ∧ Mem w' b d m ∧ Turn b d w w' := by
  have HN := Lib.hid (none_c h)
  have HG := Lib.hid (good_c h hm)
  have HH := Lib.hid (fun W A c hc (t : Sto W g b d m) hA => holding_c t hm A c hc hA)
  have HZ := Lib.hid h
  have hP3 : Hid (rooms m ≤ 128) := by have := hm.most; show _ ≤ _; unfold rooms; omega
  clear hm h
  go_enter Try.func26, Try.ntmps26
  go_wp2_with (first
    | (go_at_call 32; refine HN.out.mono ?_; rintro e W ⟨rfl, rfl⟩)
    | (go_at_call 35; refine HG.out.mono ?_; rintro e W1 ⟨A, c, rfl, hc, hA, h1, h2⟩; have HS := Lib.hid (And.intro (HZ.out.turn h1 h2) h2); have HA := Lib.hid (And.intro hc hA); clear h1 h2 hc hA HG)
    | (go_at_call 40; refine (HH.out _ A c HA.out.1 HS.out.1 HA.out.2).mono ?_; rintro e W2 ⟨B, n, rfl, hn, hB, hM, hb⟩; have HB : Hid (w.heap.size ≤ B ∧ n ≤ 1000) := ⟨Nat.le_trans HS.out.2.size hB, hn⟩; replace HS := Lib.hid (And.intro (HS.out.1.grow hb) (HS.out.2.trans (Turn.grow hb))); have HM := Lib.hid hM; clear hn hB hM hb HH HA)
    | (at_range; refine rangeM rfl _ rfl B n _ _ _ rfl HM.out ?_; intro W3 h1 h2 h3; have HT : Hid (Tl w W3 W3.heap.size g b d B W2.heap.size n m (fun _ => false) (.slice none 0 0) []) := ⟨h1, Rw.nil _ _ _ _ _, HS.out.1.grow h2, HS.out.2.trans (Turn.grow h2), Nat.le_trans HS.out.2.size h2.size, Nat.le_refl _, by have := HM.out.lt; omega, by omega, HS.out.2.size, HZ.out.mem.lt, HZ.out.mem.lt', HZ.out.lt, List.nodup_nil, fun i => by simp⟩; clear h1 h2 h3 HM HB HN)
    | fail)
  go_frame
  generalize W2.heap.size = r at *
  generalize W3.heap.size = b1 at *
  clear HS HZ
  go_loopw [3] (fun v wr => ∃ met S, Tl w wr b1 g b d B r n m met v S) (fun _ wr => wr.rangeLeft B r)
  case atStart => exact ⟨_, _, HT.out⟩
  case round =>
    clear HT
    obtain ⟨met, S, hT⟩ := hrel
    have HT := Lib.hid hT
    clear hT
    go_wp2_with (first
      | (at_next; refine nextM rfl _ rfl B r n _ _ _ met rfl HT.out.rg ?_ ?_)
      | fail)
    · intro hd
      have HS : Hid (∀ i, i ∈ S ↔ hoM m i = true) := fun i => by
        rw [HT.out.mem]
        exact ⟨fun h => h.1, fun h => ⟨h, hd i h⟩⟩
      clear hd
      have HToldE : Hid (∀ L : List R, L.Perm (S.map fun i => rc (pl m.ws i)) → L.Pairwise (fun a b => a.code ≤ b.code) → L = told m) := fun L hp hs => told_is HT.out.nd HS.out hp hs
      have hlen : (S.map fun i => rc (pl m.ws i)).length ≤ 1000 := by
        have := nodup_len (rooms m) S HT.out.nd fun i hi => ((HT.out.rg.owns.ok ((HT.out.mem i).1 hi).1)).1
        have := hP3.out
        rw [List.length_map]; omega
      have HR := Lib.hid HT.out.row
      have HK : Hid (Mem wr b d m ∧ Turn b d w wr ∧ w.heap.size ≤ b1 ∧ b < w.heap.size ∧ d < w.heap.size) := ⟨HT.out.sto.mem, HT.out.turn, HT.out.l1, HT.out.lb, HT.out.ld⟩
      clear HT HS
      generalize (S.map fun i => rc (pl m.ws i)) = L at *
      obtain ⟨A2, c2, rfl, hc2, hel⟩ := Rw.form (f := rf_) (sz := 3) (fun _ => rfl) HR.out
      have HEl := Lib.hid hel
      clear hel
      by_cases h0 : L.length = 0
      · have e : L = [] := List.length_eq_zero_iff.1 h0
        subst e
        have HTo : Hid ([] = told m) := HToldE.out [] (List.Perm.refl _) List.Pairwise.nil
        have HSo := Lib.hid (fun W => sort_none A2 c2 W)
        clear HToldE HEl HR
        go_wp2_with (first
          | (go_at_call 45; refine (HSo.out _).mono ?_; rintro e W ⟨rfl, rfl⟩)
          | fail)
        go_ret
        rw [← HTo.out]
        exact ⟨A2, c2, rfl, hc2, fun i r hi => by simp at hi, HK.out.1, HK.out.2.1⟩
      · obtain ⟨gS, e2, hb1, hgS, hz0⟩ := HEl.out 0 (L[0]'(by omega)) (List.getElem?_eq_getElem (by omega))
        subst e2
        clear hz0
        have hrow : ∀ i r, L[i]? = some r → wr.rangeAt gS (i * 3) (rcs r).toList := fun i r hi => by
          obtain ⟨g2, e2, _, _, h4⟩ := HEl.out i r hi
          injection e2 with e2
          injection e2 with e2
          subst e2
          exact h4
        have HSo := Lib.hid (sort_c gS c2 L wr hlen hrow (frozen_row HR.out) hgS)
        have HG : Hid (b1 ≤ gS ∧ gS < wr.heap.size) := ⟨hb1, hgS⟩
        clear hrow hb1 hgS HEl HR
        go_wp2_with (first
          | (go_at_call 45; refine HSo.out.mono ?_; rintro e W6 ⟨rfl, L', hp, hs, hrow, ht⟩; have HE := Lib.hid (And.intro hp (And.intro hs (And.intro hrow ht))); clear hp hs hrow ht HSo)
          | fail)
        go_ret
        obtain ⟨hp, hs, hrow, ht⟩ := HE.out
        have e := HToldE.out L' hp hs
        subst e
        obtain ⟨k1, k2, k3, k4, k5⟩ := HK.out
        obtain ⟨k6, k7⟩ := HG.out
        have hln := hp.length_eq
        have hblk : ∀ k, k < wr.heap.size → k ≠ gS → W6.heap[k]? = wr.heap[k]? := fun k hk hne => ht.block k hk hne hne
        have hb := k1.lt
        have hd := k1.lt'
        refine ⟨_, c2, by rw [← hln]; rfl, by rw [hln]; exact hc2, fun i r hi => ⟨gS, 0, rfl, by omega, Nat.lt_of_lt_of_le k7 ht.size, by rw [Nat.zero_add]; exact hrow i r hi⟩, ⟨k1.row.of_block (hblk b hb (by omega)), k1.ws.of_block (hblk d hd (by omega)), k1.ne⟩, ⟨ht.os.trans k2.os, ht.tape.trans k2.tape, ht.output.trans k2.output, Nat.le_trans k2.size ht.size, fun k hk h1 h2 => (hblk k (Nat.lt_of_lt_of_le hk k2.size) (by omega)).trans (k2.block k hk h1 h2)⟩⟩
    · intro i W5 hi hmi hrg hlt ho hen
      have HX := Lib.hid (fun v' W7 (hrow : Rw 37 3 rf_ W7 b1 v' ((S.map fun i => rc (pl m.ws i)) ++ [rc (pl m.ws i)])) hb => HT.out.snoc (v' := v') (W7 := W7) hi hmi ho hrg (pob i (pl m.ws i)) (.cells (rcs (rc (pl m.ws i))) 37) hrow hb)
      have HL := Lib.hid (fun W7 hb => HT.out.left (W7 := W7) ho (pob i (pl m.ws i)) (.cells (rcs (rc (pl m.ws i))) 37) hb hlt)
      have HR := Lib.hid (HT.out.row2 ho (pob i (pl m.ws i)) (.cells (rcs (rc (pl m.ws i))) 37))
      have HR2 := Lib.hid (range_r' W5 (pob i (pl m.ws i)) (rc (pl m.ws i)))
      have HN2 : Hid ((S.map fun i => rc (pl m.ws i)).length ≤ 1000000) := by
        have := nodup_len (rooms m) S HT.out.nd fun i hi => ((HT.out.rg.owns.ok ((HT.out.mem i).1 hi).1)).1
        have := hP3.out
        show _ ≤ _
        rw [List.length_map]; omega
      have HSz : Hid (b1 ≤ ((W5.alloc (pob i (pl m.ws i))).alloc (.cells (rcs (rc (pl m.ws i))) 37)).heap.size) := by
        have := HT.out.l2
        have h2 : W5.heap.size = wr.heap.size := ho.size
        show _ ≤ _
        simp; omega
      clear hi hmi hrg hlt ho HT
      go_wp2_with (first
        | (at_builtin; refine app_one (f := rf_) rfl _ _ 48 rfl Try.underlying48 _ _ info_r3 rfl (by decide) (fun _ => rfl) rf_one (by decide) b1 _ _ rfl HR.out (W5.heap.size + 1) 1 (rc (pl m.ws i)) rfl HR2.out HN2.out HSz.out ?_; intro v' W7 hown hbel; have HY := Lib.hid (And.intro (HX.out v' W7 hown hbel) (HL.out W7 hbel)); clear hown hbel)
        | fail)
      go_roundw
      case rel => exact ⟨_, _, HY.out.1⟩
      case measure => exact HY.out.2
theorem stold_n (w : World) : Calls Try.prog 26 #[.pointer none] w fun e w' => e = .returned (.slice none 0 0) ∧ w = w' := by
  have HN := Lib.hid (fun W => none_n W)
  go_enter Try.func26, Try.ntmps26
  go_wp2_with (first
    | (go_at_call 32; refine (HN.out _).mono ?_; rintro e W ⟨rfl, rfl⟩)
    | fail)
  go_ret
  exact ⟨rfl, rfl⟩
end Sq
end Go.Proofs.Ytlhapipgmadbeaa
