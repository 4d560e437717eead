/- The document's own store: which places hold. -/
import Derived.Test.YtlhapipgmadbeaaStoreOld
import Derived.Test.YtlhapipgmadbeaaStoreMath2
namespace Go.Proofs.Ytlhapipgmadbeaa
namespace Sq
open Go.RowKit Nv Nw Sp Lk

abbrev pf_ (p : Pl) : List Value := (pc p).toList
theorem info_pl3 : ∃ i, Try.prog.info? 83 = some i ∧ i.zero = some (.agg (pc zero)) ∧ i.size = 5 ∧ i.bytes = 40 := by
  have h : (Try.prog.info? 83).map (fun i => (i.zero, i.size, i.bytes)) = some (some (.agg (pc zero)), 5, 40) := by kernel_rfl
  obtain ⟨i, hi, hz⟩ := Option.map_eq_some_iff.1 h
  simp only [Prod.mk.injEq] at hz
  exact ⟨i, hi, hz.1, hz.2.1, hz.2.2⟩
/-- The memory, places that append makes, and all that lay. -/
structure L1 (w W : World) (b d : Nat) (m : M) (v : Value) (l : List Pl) : Prop where
  row : Rw 83 5 pf_ W w.heap.size v l
  rem : Rem W b d m
  old : Below w.heap.size w W
  hb : b < w.heap.size
  hd : d < w.heap.size
namespace L1
variable {w W W' : World} {b d : Nat} {m : M} {v : Value} {l : List Pl}
theorem grow (h : L1 w W b d m v l) (hb : Below W.heap.size W W') : L1 w W' b d m v l := ⟨h.row.below hb, h.rem.grow hb, h.old.trans (hb.mono h.old.size), h.hb, h.hd⟩
theorem alloc (h : L1 w W b d m v l) (o : Obj) : L1 w (W.alloc o) b d m v l := h.grow ((Below.refl _ _).alloc (Nat.le_refl _) _)
theorem put (h : L1 w W b d m v l) {v' : Value} {l' : List Pl} (hr : Rw 83 5 pf_ W' w.heap.size v' l') (hb : Below w.heap.size W W') : L1 w W' b d m v' l' :=
  ⟨hr, ⟨h.rem.row.of_block (hb.block b h.hb), h.rem.ws.of_block (hb.block d h.hd), h.rem.ne⟩, h.old.trans hb, h.hb, h.hd⟩
end L1
abbrev bf_ (x : Bool) : List Value := [.bool x]
/-- Bools that append makes behind a world, and all that lay there. -/
structure L2 (w W : World) (v : Value) (l : List Bool) : Prop where
  row : Rw 4 1 bf_ W w.heap.size v l
  old : Below w.heap.size w W
theorem L2.grow {w W W' : World} {v : Value} {l : List Bool} (h : L2 w W v l) (hb : Below W.heap.size W W') : L2 w W' v l := ⟨h.row.below hb, h.old.trans (hb.mono h.old.size)⟩
theorem L2.alloc {w W : World} {v : Value} {l : List Bool} (h : L2 w W v l) (o : Obj) : L2 w (W.alloc o) v l := h.grow ((Below.refl _ _).alloc (Nat.le_refl _) _)
theorem below_l2 {w W : World} {v : Value} {l : List Bool} (h : L2 w W v l) (n : Nat) : L2 w (W.drewN n) v l := h.grow (below_n (Below.refl _ _) n)
theorem info_b3 : ∃ i, Try.prog.info? 4 = some i ∧ i.zero = some (.bool false) ∧ i.size = 1 ∧ i.bytes = 1 := by
  have h : (Try.prog.info? 4).map (fun i => (i.zero, i.size, i.bytes)) = some (some (.bool false), 1, 1) := by kernel_rfl
  obtain ⟨i, hi, hz⟩ := Option.map_eq_some_iff.1 h
  simp only [Prod.mk.injEq] at hz
  exact ⟨i, hi, hz.1, hz.2.1, hz.2.2⟩
theorem bf_one (x : Bool) : ∀ u ∈ bf_ x, u.oneCell' = true := by
  intro u hu
  simp only [bf_, List.mem_cons, List.not_mem_nil, or_false] at hu
  subst hu; rfl
theorem range_b (w : World) (x : Bool) : (w.alloc (.cells #[.bool x] 4)).rangeAt w.heap.size 0 (bf_ x) := fun j v hv => by
  rw [Nat.zero_add]
  exact (Joins.cell_of_block (heap_alloc_last w _) j).trans (by simpa using hv)
theorem flat_b (l : List Bool) : l.flatMap bf_ = l.map Value.bool := by
  induction l with
  | nil => rfl
  | cons a l ih => rw [List.flatMap_cons, ih]; rfl
/-- One of them, stored into. -/
theorem L2.put {w W : World} {g n c : Nat} {l : List Bool} (h : L2 w W (.slice (some ⟨g, 0, none⟩) n c) l) (hn : n = l.length) (a : Nat) (x : Bool) : L2 w (W.setCell ⟨g, a, none⟩ (.bool x)) (.slice (some ⟨g, 0, none⟩) n c) (l.set a x) := by
  subst hn
  have hg : w.heap.size ≤ g := h.row.block_le g rfl
  refine ⟨?_, h.old.setCell hg _⟩
  have := (World.ownsRow.stored h.row a (.bool x)).1
  show World.ownsRow _ _ _ _ _ _ _
  rw [List.length_set, flat_b, List.map_set, ← flat_b]
  exact this
theorem L2.bls {w W : World} {g n c : Nat} {h : Nat → Bool} (hh : L2 w W (.slice (some ⟨g, 0, none⟩) n c) ((List.range n).map h)) : Bls W (some ⟨g, 0, none⟩) n h := fun i hi => by
  obtain ⟨A, c', e, _, hel⟩ := Rw.form (f := bf_) (sz := 1) (fun _ => rfl) hh.row
  obtain ⟨g', e', _, h3, h4⟩ := hel i (h i) (by simp [hi])
  injection e with e1
  rw [← e1] at e'
  exact ⟨g', e', h3, by have := h4 0 _ rfl; simpa using this⟩
theorem L2.cell {w W : World} {g n c : Nat} {h : Nat → Bool} (hh : L2 w W (.slice (some ⟨g, 0, none⟩) n c) ((List.range n).map h)) {a : Nat} (ha : a < n) : W.cell? ⟨g, a, none⟩ = some (.bool (h a)) := by
  obtain ⟨g', e, _, hc⟩ := hh.bls a ha
  injection e with e
  injection e with e
  subst e
  exact hc
theorem L2.frozen {w W : World} {g n c : Nat} {l : List Bool} (h : L2 w W (.slice (some ⟨g, 0, none⟩) n c) l) (hn : n = l.length) (a : Nat) : W.frozen? ⟨g, a, none⟩ = false := by
  subst hn
  exact World.ownsRow.frozenAt h.row a
theorem set_drop {P : Nat} {l : Nat → Pl} (hc : P - 1 < Sp.cnt P (best P l)) {a : Nat} (ha : dropAt P l (best P l) = a) : ((List.range P).map (best P l)).set a false = (List.range P).map (holds P l) := by
  apply List.ext_getElem (by simp)
  intro i h1 h2
  have hi : i < P := by simpa using h2
  rw [List.getElem_set]
  by_cases e : a = i
  · rw [if_pos e]
    simp only [List.getElem_map, List.getElem_range]
    rw [holds_drop hc, ha, e]
    simp
  · rw [if_neg e]
    simp only [List.getElem_map, List.getElem_range]
    rw [holds_drop hc, ha]
    simp [Ne.symm e]
theorem map_full {P : Nat} {l : Nat → Pl} (hc : ¬ P - 1 < Sp.cnt P (best P l)) : (List.range P).map (best P l) = (List.range P).map (holds P l) := by
  apply List.map_congr_left
  intro i _
  exact (holds_full hc i).symm
/-- Whether a place is best, as far as the first p ones tell. -/
def part (l : Nat → Pl) (j p : Nat) : Bool := (l j).good && (List.range p).all fun k => !beats l k j
theorem part_succ (l : Nat → Pl) (j p : Nat) : part l j (p + 1) = (part l j p && !beats l p j) := by
  unfold part
  rw [List.range_succ, List.all_append, ← Bool.and_assoc]
  simp
theorem part_zero (l : Nat → Pl) (j : Nat) : part l j 0 = (l j).good := by simp [part]
theorem part_best (P : Nat) (l : Nat → Pl) (j : Nat) : part l j P = best P l j := rfl
theorem range_one (w : World) (p : Pl) : (w.alloc (.cells (pc p) 83)).rangeAt w.heap.size 0 (pf_ p) := fun j v hv => by
  rw [Nat.zero_add]
  exact (Joins.cell_of_block (heap_alloc_last w _) j).trans (by simpa using hv)

set_option maxRecDepth 100000 in
set_option maxHeartbeats 4000000 in
theorem holds_c (b d : Nat) (m : M) (w : World) (P : Nat) (hP : m.ws.length / 4 = P) (h : Rem w b d m) (hu : U32 m.ws) (h8 : 8 ≤ m.ws.length) (hl : m.ws.length ≤ 512) :
    Calls Try.prog 42 #[.pointer (some ⟨b, 0, none⟩)] w fun e w' => ∃ v, e = .returned v ∧ Rw 4 1 bf_ w' w.heap.size v ((List.range P).map (holds P (pl m.ws))) ∧ Below w.heap.size w w' := by
  have HL : Hid (L1 w w b d m (.slice none 0 0) []) := ⟨Rw.nil _ _ _ _ _, h, Below.refl _ _, h.lt, h.lt'⟩
  have HU := Lib.hid hu
  have RC := Lib.hid (fun W (hR : Rem W b d m) => room_c b d m P hP hl W hR)
  clear h hu
  go_enter Try.func42, Try.ntmps42
  go_wp2_with fail
  go_loopw [3, 4] (fun v i wr => ∃ k : Nat, k ≤ P ∧ i = .int .i64 k ∧ L1 w wr b d m v ((List.range k).map (pl m.ws))) (fun _ i _ => P - (intOf i).toNat)
  case atStart => exact ⟨0, Nat.zero_le _, rfl, HL.out⟩
  case round =>
    clear HL
    obtain ⟨k, hk, rfl, hL⟩ := hrel
    have HL := Lib.hid hL
    clear hL
    have c0 := HL.out.rem.c0
    by_cases hlt : k < P
    · have CP := Lib.hid (fun W (hR : Rem W b d m) => place_c b d m k W hR HU.out (by omega) hl)
      obtain ⟨p, hp⟩ : ∃ p, pl m.ws k = p := ⟨_, rfl⟩
      have E : Hid ((List.range (k + 1)).map (pl m.ws) = (List.range k).map (pl m.ws) ++ [p]) := by show _ = _; rw [List.range_succ, List.map_append, ← hp]; rfl
      have hlen : ((List.range k).map (pl m.ws)).length ≤ 1000000 := by simp; omega
      have HN := Lib.hid hlen
      generalize (List.range k).map (pl m.ws) = L at *
      rw [hp] at CP
      generalize m.ws.length = n at *
      have hlt2 : (k : Int) < (n : Int) / 4 := by omega
      clear hp hlen
      go_wp2_with (first
        | (go_at_call 41; (with_reducible refine (CP.out _ HL.out.rem).mono ?_); rintro e W ⟨rfl, hb⟩; replace HL := Lib.hid (HL.out.grow hb); clear hb CP)
        | (at_builtin; refine app_one (f := pf_) rfl _ _ 101 rfl Try.underlying101 _ _ info_pl3 rfl (by decide) (fun _ => rfl) pc_one (by decide) w.heap.size _ L rfl (HL.out.alloc _).row W.heap.size 1 p rfl (range_one W p) HN.out (HL.out.alloc (.cells (pc p) 83)).old.size ?_; intro v' W7 hown hbel; replace HL := Lib.hid ((HL.out.alloc _).put hown hbel); clear hown hbel)
        | fail)
      go_roundw
      case rel => exact ⟨k + 1, by omega, by go_num, by rw [E.out]; exact HL.out⟩
      case measure => simp [intOf]; omega
    ·
      obtain rfl : k = P := by omega
      have hlt2 : (m.ws.length : Int) / 4 ≤ k := by omega
      generalize m.ws.length = n at *
      obtain ⟨A, ca, rfl, hca, hel⟩ := Rw.form (f := pf_) (sz := 5) (fun _ => rfl) HL.out.row
      simp only [List.length_map, List.length_range] at hca ⊢
      have HP : Hid (Pls wr A k (pl m.ws)) := fun i hi => by
        obtain ⟨g, e, _, h2, h3⟩ := hel i (pl m.ws i) (by simp [hi])
        exact ⟨g, e, h2, h3⟩
      have HR := Lib.hid (And.intro HL.out.rem HL.out.old)
      have HQ : Hid (L2 wr wr (.slice none 0 0) []) := ⟨Rw.nil _ _ _ _ _, Below.refl _ _⟩
      obtain ⟨l, hl0⟩ : ∃ l, pl m.ws = l := ⟨_, rfl⟩
      have HE := Lib.hid hl0
      rw [hl0] at HP
      clear hel HL hl0
      rename World => W0
      go_wp2_with fail
      go_loopw [5, 6, 7] (fun v mn i wx => ∃ j : Nat, j ≤ k ∧ i = .int .i64 j ∧ mn = .int .i64 (cnt j (best k l)) ∧ L2 W0 wx v ((List.range j).map (best k l))) (fun _ _ i _ => k - (intOf i).toNat)
      case atStart => exact ⟨0, Nat.zero_le _, rfl, rfl, HQ.out⟩
      case round =>
        clear HQ
        obtain ⟨j, hj, rfl, rfl, hq⟩ := hrel
        have HQ := Lib.hid hq
        clear hq
        by_cases hlt : j < k
        · obtain ⟨ga, rfl, hga, _⟩ := HP.out j hlt
          have HPj : Hid (∀ W, Below W0.heap.size W0 W → ∀ p, p < k → W.rangeAt ga (p * 5) (pc (l p)).toList) := fun W hb p hp => by
            obtain ⟨g, e, _, hr⟩ := (HP.out.below hb) p hp
            obtain rfl : g = ga := by injection e with e; injection e with e; exact e.symm
            exact hr
          clear HP
          obtain ⟨b0, b1, b2, b3, b4⟩ := pl_cells (HPj.out _ HQ.out.old j hlt)
          have hjk : (j : Int) < k := by omega
          have EC : Hid (cnt (j + 1) (best k l) = cnt j (best k l) + if best k l j = true then 1 else 0) := cnt_succ _ _
          have EL : Hid ((List.range (j + 1)).map (best k l) = (List.range j).map (best k l) ++ [best k l j]) := by show _ = _; rw [List.range_succ, List.map_append]; rfl
          have hlen : ((List.range j).map (best k l)).length ≤ 1000000 := by simp; omega
          have HN := Lib.hid hlen
          have hcl : cnt j (best k l) ≤ 1000 := by have := cnt_le j (best k l); omega
          generalize (List.range j).map (best k l) = L at *
          generalize cnt j (best k l) = C at *
          clear hlen
          go_wp2_with fail
          go_loopw [8, 9] (fun s q wy => ∃ p : Nat, p ≤ k ∧ q = .int .i64 p ∧ s = .bool (part l j p) ∧ L2 W0 wy u5 L) (fun _ q _ => k - (intOf q).toNat)
          case atStart => exact ⟨0, Nat.zero_le _, rfl, by rw [part_zero], HQ.out⟩
          case round =>
            clear HQ
            obtain ⟨p, hp, rfl, rfl, hq⟩ := hrel
            have HQ := Lib.hid hq
            clear hq
            by_cases hlt3 : p < k
            · obtain ⟨a0, a1, a2, a3, a4⟩ := pl_cells (HPj.out _ HQ.out.old p hlt3)
              obtain ⟨b0, b1, b2, b3, b4⟩ := pl_cells (HPj.out _ HQ.out.old j hlt)
              have hpk : (p : Int) < k := by omega
              by_cases hg : (l p).good = true
              · rw [hg] at a4
                by_cases hc : (l p).code = (l j).code
                · by_cases hn : (l j).num < (l p).num
                  · have E2 : Hid (part l j (p + 1) = false) := by show _ = _; rw [part_succ, (beats_iff.2 ⟨hg, hc, .inl hn⟩ : beats l p j = true)]; simp
                    have d1 : ((l p).code == (l j).code) = true := by simp [hc]
                    clear hc
                    generalize (l p).num = np at *
                    generalize (l p).code = kp at *
                    generalize (l j).num = nj at *
                    generalize (l j).code = kj at *
                    clear HPj
                    go_wp2_with fail
                    go_quiet (fail)
                    go_wp2_with fail
                    go_roundw
                    case rel => exact ⟨p + 1, by omega, by go_num, by rw [E2.out], below_l2 HQ.out _⟩
                    case measure => simp [intOf]; omega
                  · by_cases he : (l p).num = (l j).num
                    · by_cases hl : p < j
                      · have E2 : Hid (part l j (p + 1) = false) := by show _ = _; rw [part_succ, (beats_iff.2 ⟨hg, hc, .inr ⟨he, hl⟩⟩ : beats l p j = true)]; simp
                        have d1 : ((l p).code == (l j).code) = true := by simp [hc]
                        have d2 : ((l p).num == (l j).num) = true := by simp [he]
                        have d3 : decide ((l j).num < (l p).num) = false := decide_eq_false hn
                        have d4 : decide ((p : Int) < j) = true := by simp [hl]
                        clear hc he hn
                        generalize (l p).num = np at *
                        generalize (l p).code = kp at *
                        generalize (l j).num = nj at *
                        generalize (l j).code = kj at *
                        clear HPj
                        go_wp2_with fail
                        go_quiet (fail)
                        go_wp2_with fail
                        go_roundw
                        case rel => exact ⟨p + 1, by omega, by go_num, by rw [E2.out], below_l2 HQ.out _⟩
                        case measure => simp [intOf]; omega
                      · have E2 : Hid (part l j (p + 1) = part l j p) := by show _ = _; rw [part_succ, (Bool.eq_false_iff.2 fun c => by have := beats_iff.1 c; omega : beats l p j = false)]; simp
                        have d1 : ((l p).code == (l j).code) = true := by simp [hc]
                        have d2 : ((l p).num == (l j).num) = true := by simp [he]
                        have d3 : decide ((l j).num < (l p).num) = false := decide_eq_false hn
                        have d4 : decide ((p : Int) < j) = false := by simp; omega
                        have hl2 : j ≤ p := by omega
                        clear hc he hn
                        generalize (l p).num = np at *
                        generalize (l p).code = kp at *
                        generalize (l j).num = nj at *
                        generalize (l j).code = kj at *
                        clear HPj
                        go_wp2_with fail
                        go_quiet (fail)
                        go_wp2_with fail
                        go_roundw
                        case rel => exact ⟨p + 1, by omega, by go_num, by rw [E2.out], below_l2 HQ.out _⟩
                        case measure => simp [intOf]; omega
                    · have E2 : Hid (part l j (p + 1) = part l j p) := by show _ = _; rw [part_succ, (Bool.eq_false_iff.2 fun c => by have := beats_iff.1 c; omega : beats l p j = false)]; simp
                      have d1 : ((l p).code == (l j).code) = true := by simp [hc]
                      have d2 : ((l p).num == (l j).num) = false := by simp [he]
                      have d3 : decide ((l j).num < (l p).num) = false := decide_eq_false hn
                      clear hc he hn
                      generalize (l p).num = np at *
                      generalize (l p).code = kp at *
                      generalize (l j).num = nj at *
                      generalize (l j).code = kj at *
                      clear HPj
                      go_wp2_with fail
                      go_quiet (fail)
                      go_wp2_with fail
                      go_roundw
                      case rel => exact ⟨p + 1, by omega, by go_num, by rw [E2.out], below_l2 HQ.out _⟩
                      case measure => simp [intOf]; omega
                · have E2 : Hid (part l j (p + 1) = part l j p) := by show _ = _; rw [part_succ, (Bool.eq_false_iff.2 fun c => hc (beats_iff.1 c).2.1 : beats l p j = false)]; simp
                  have d1 : ((l p).code == (l j).code) = false := by simp [hc]
                  clear hc
                  generalize (l p).num = np at *
                  generalize (l p).code = kp at *
                  generalize (l j).num = nj at *
                  generalize (l j).code = kj at *
                  clear HPj
                  go_wp2_with fail
                  go_quiet (fail)
                  go_wp2_with fail
                  go_roundw
                  case rel => exact ⟨p + 1, by omega, by go_num, by rw [E2.out], below_l2 HQ.out _⟩
                  case measure => simp [intOf]; omega
              · have hg2 : (l p).good = false := by simpa using hg
                rw [hg2] at a4
                have E2 : Hid (part l j (p + 1) = part l j p) := by show _ = _; rw [part_succ, (Bool.eq_false_iff.2 fun c => hg (beats_iff.1 c).1 : beats l p j = false)]; simp
                generalize (l p).num = np at *
                generalize (l p).code = kp at *
                generalize (l j).num = nj at *
                generalize (l j).code = kj at *
                clear HPj
                go_wp2_with fail
                go_quiet (fail)
                go_wp2_with fail
                go_roundw
                case rel => exact ⟨p + 1, by omega, by go_num, by rw [E2.out], below_l2 HQ.out _⟩
                case measure => simp [intOf]; omega
            · obtain rfl : k = p := by omega
              obtain ⟨bb, hbb⟩ : ∃ bb, best k l j = bb := ⟨_, rfl⟩
              have e : part l j k = bb := hbb
              rw [e]
              rw [hbb] at EC EL
              clear HPj b0 b1 b2 b3 b4 e hbb
              cases bb with
              | false =>
                go_wp2_with (first
                  | (at_builtin; refine app_one (f := bf_) rfl _ _ 85 rfl Try.underlying85 _ _ info_b3 rfl (by decide) (fun _ => rfl) bf_one (by decide) W0.heap.size _ L rfl (HQ.out.alloc _).row wr.heap.size 1 false rfl (range_b wr false) HN.out (HQ.out.alloc (.cells #[.bool false] 4)).old.size ?_; intro v' W7 hown hbel; have HQ2 : Hid (L2 W0 W7 v' (L ++ [false])) := Lib.hid ⟨hown, (HQ.out.alloc _).old.trans hbel⟩; clear hown hbel)
                  | fail)
                go_roundw
                case rel => exact ⟨j + 1, by omega, by go_num, by rw [EC.out]; simp, by rw [EL.out]; exact HQ2.out⟩
                case measure => simp [intOf]; omega
              | true =>
                go_wp2_with (first
                  | (at_builtin; refine app_one (f := bf_) rfl _ _ 85 rfl Try.underlying85 _ _ info_b3 rfl (by decide) (fun _ => rfl) bf_one (by decide) W0.heap.size _ L rfl (HQ.out.alloc _).row wr.heap.size 1 true rfl (range_b wr true) HN.out (HQ.out.alloc (.cells #[.bool true] 4)).old.size ?_; intro v' W7 hown hbel; have HQ2 : Hid (L2 W0 W7 v' (L ++ [true])) := Lib.hid ⟨hown, (HQ.out.alloc _).old.trans hbel⟩; clear hown hbel)
                  | fail)
                go_roundw
                case rel => exact ⟨j + 1, by omega, by go_num, by rw [EC.out]; go_num, by rw [EL.out]; exact HQ2.out⟩
                case measure => simp [intOf]; omega
        · obtain rfl : k = j := by omega
          have hk2 : 2 ≤ k := by omega
          obtain ⟨Bq, cq, rfl, hcq, hbl⟩ := Rw.form (f := bf_) (sz := 1) (fun _ => rfl) HQ.out.row
          simp only [List.length_map, List.length_range] at hcq HQ
          obtain ⟨gb, rfl, hgb, _⟩ := hbl 0 (best k l 0) (by rw [List.getElem?_map, List.getElem?_range (by omega)]; rfl)
          have HRm : Hid (∀ W, Below W0.heap.size W0 W → Calls Try.prog 14 #[.pointer (some ⟨b, 0, none⟩)] W fun e w' => e = .returned (.int .i64 ((k : Int) - 1)) ∧ W = w') := fun W hb => RC.out W (HR.out.1.grow hb)
          have CO : Hid (∀ (x : Bool) (t : Int) W, oi (old l (best k l) x k) = t → L2 W0 W (.slice (some ⟨gb, 0, none⟩) k cq) ((List.range k).map (best k l)) → Calls Try.prog 51 #[.slice A k ca, .slice (some ⟨gb, 0, none⟩) k cq, .bool x] W fun e w' => e = .returned (.int .i64 t) ∧ Below W.heap.size W w') := fun x t W ht hl2 => ht ▸ oldest_c _ _ _ _ k l (best k l) x W (by omega) (HP.out.below hl2.old) hl2.bls
          clear hbl
          simp only [List.length_map, List.length_range]
          go_wp2_with fail
          go_loopw [6] (fun mn wx => (mn = .int .i64 (cnt k (best k l)) ∧ L2 W0 wx (.slice (some ⟨gb, 0, none⟩) k cq) ((List.range k).map (best k l))) ∨ (k - 1 < cnt k (best k l) ∧ mn = .int .i64 ((k : Int) - 1) ∧ L2 W0 wx (.slice (some ⟨gb, 0, none⟩) k cq) ((List.range k).map (holds k l)))) (fun mn _ => (intOf mn).toNat)
          case atStart => exact .inl ⟨rfl, HQ.out⟩
          case round =>
            clear HQ
            have hcle : cnt k (best k l) ≤ k := cnt_le _ _
            rcases hrel with ⟨rfl, hq⟩ | ⟨hc, rfl, hq⟩
            · have HQ := Lib.hid hq
              clear hq
              by_cases hc : k - 1 < cnt k (best k l)
              · have hck : cnt k (best k l) = k := by omega
                rw [hck]
                cases ho : old l (best k l) false k with
                | some a =>
                  have hd : dropAt k l (best k l) = a := by unfold dropAt; rw [ho]
                  have HS := Lib.hid (set_drop hc hd)
                  have ha : a < k := (old_some ho).1
                  have hak : (a : Int) < k := by omega
                  have C1 := Lib.hid (fun W h => CO.out false a W (by rw [ho]; rfl) h)

                  clear ho hd CO hck hc hcle
                  go_wp2_with (first | (go_at_call 14; refine (HRm.out _ HQ.out.old).mono ?_; rintro e W' ⟨rfl, rfl⟩) | (go_at_call 51; (with_reducible refine (C1.out _ HQ.out).mono ?_); rintro e W ⟨rfl, hb⟩; replace HQ := Lib.hid (HQ.out.grow hb); have z1 := HQ.out.cell ha; have z2 := HQ.out.frozen (by simp) a; clear hb C1) | fail)
                  go_roundw
                  case rel => exact .inr ⟨by omega, rfl, by rw [← HS.out]; exact HQ.out.put (by simp) a false⟩
                  case measure => simp [intOf]; omega
                | none =>
                  cases ho2 : old l (best k l) true k with
                  | none =>
                    exfalso
                    have hb0 := cnt_full hck (show 0 < k by omega)
                    have h1 := old_none ho 0 (by omega) hb0
                    have h2 := old_none ho2 0 (by omega) hb0
                    cases hx : (l 0).lat <;> simp_all
                  | some a =>
                    have hd : dropAt k l (best k l) = a := by unfold dropAt; rw [ho, ho2]; rfl
                    have HS := Lib.hid (set_drop hc hd)
                    have ha : a < k := (old_some ho2).1
                    have hak : (a : Int) < k := by omega
                    have C1 := Lib.hid (fun W h => CO.out false (-1) W (by rw [ho]; rfl) h)
                    have C2 := Lib.hid (fun W h => CO.out true a W (by rw [ho2]; rfl) h)

                    clear ho ho2 hd CO hck hc hcle
                    go_wp2_with (first | (go_at_call 14; refine (HRm.out _ HQ.out.old).mono ?_; rintro e W' ⟨rfl, rfl⟩) | (go_at_call 51; (with_reducible refine (C1.out _ HQ.out).mono ?_); rintro e W ⟨rfl, hb⟩; replace HQ := Lib.hid (HQ.out.grow hb); have z1 := HQ.out.cell ha; have z2 := HQ.out.frozen (by simp) a; clear hb C1) | (go_at_call 51; (with_reducible refine (C2.out _ HQ.out).mono ?_); rintro e W ⟨rfl, hb⟩; replace HQ := Lib.hid (HQ.out.grow hb); have z1 := HQ.out.cell ha; have z2 := HQ.out.frozen (by simp) a; clear hb C2) | fail)
                    go_roundw
                    case rel => exact .inr ⟨by omega, rfl, by rw [← HS.out]; exact HQ.out.put (by simp) a false⟩
                    case measure => simp [intOf]; omega
              · rw [map_full hc] at HQ
                have hc2 : (cnt k (best k l) : Int) ≤ (k : Int) - 1 := by omega
                generalize cnt k (best k l) = C at *
                clear CO
                have hz : Rw 4 1 bf_ wr w.heap.size (.slice (some ⟨gb, 0, none⟩) k cq) ((List.range k).map (holds k l)) ∧ Below w.heap.size w wr := ⟨HQ.out.row.base_le HR.out.2.size, HR.out.2.trans (HQ.out.old.mono HR.out.2.size)⟩
                rw [← HE.out] at hz
                have HZ := Lib.hid hz
                clear hz
                go_wp2_with (first | (go_at_call 14; refine (HRm.out _ HQ.out.old).mono ?_; rintro e W' ⟨rfl, rfl⟩) | fail)
                go_ret
                exact ⟨_, rfl, HZ.out⟩
            · have HQ := Lib.hid hq
              clear hq CO hc hcle
              have hz : Rw 4 1 bf_ wr w.heap.size (.slice (some ⟨gb, 0, none⟩) k cq) ((List.range k).map (holds k l)) ∧ Below w.heap.size w wr := ⟨HQ.out.row.base_le HR.out.2.size, HR.out.2.trans (HQ.out.old.mono HR.out.2.size)⟩
              rw [← HE.out] at hz
              have HZ := Lib.hid hz
              clear hz
              go_wp2_with (first | (go_at_call 14; refine (HRm.out _ HQ.out.old).mono ?_; rintro e W' ⟨rfl, rfl⟩) | fail)
              go_ret
              exact ⟨_, rfl, HZ.out⟩
end Sq
end Go.Proofs.Ytlhapipgmadbeaa
