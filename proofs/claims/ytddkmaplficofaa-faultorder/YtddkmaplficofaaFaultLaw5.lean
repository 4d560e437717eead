/- The law on orders. -/
import Derived.Test.YtddkmaplficofaaFaultLaw4
import Derived.Test.YtddkmaplficofaaOrdKit
namespace Go.Proofs.Ytddkmaplficofaa
namespace Fw
open Go.RowKit Fa Lk
open Sp (R)

theorem ord_7 : Lk.orderedB (Lk.opsOf Try.f8 7) [(1, false), (2, false), (3, false), (5, false), (6, false), (7, false), (0, true), (4, true), (8, true), (9, false)] = true := by kernel_rfl

abbrev fz (z : Int) : List Value := [.int .i64 z]
theorem fz_len (z : Int) : (fz z).length = 1 := rfl
theorem fz_one (z : Int) : ∀ u ∈ fz z, u.oneCell' = true := by
  intro u hu
  obtain rfl : u = .int .i64 z := by simpa using hu
  rfl
abbrev Zs (W : World) (base : Nat) (v : Value) (l : List Int) : Prop := Rw 3 1 fz W base v l
theorem Zs.form {W : World} {base : Nat} {v : Value} {l : List Int} (h : Zs W base v l) : ∃ A c, v = .slice A l.length c ∧ Lk.IntsAt W .i64 A l := by
  obtain ⟨A, c, e, _, hel⟩ := Rw.form (f := fz) (sz := 1) fz_len h
  refine ⟨A, c, e, fun i hi => ?_⟩
  obtain ⟨g, e2, _, _, h3⟩ := hel i _ (List.getElem?_eq_getElem hi)
  refine ⟨g, 0, e2, ?_⟩
  have := h3 0 _ rfl
  rw [List.getD_eq_getElem?_getD, List.getElem?_eq_getElem hi]
  simpa using this
/-- append of numbers, whatever, as one operation. -/
theorem app_zs {Q : Exit → Act → World → Prop} {K : Act → World → Prop} {a : Act} {w : World} {o : Oper} (s x : Operand) (ho : o.op = .call { callee := .builtin .append, args := #[s, x], argTypes := #[22, 22] })
    {base : Nat} {v : Value} {l : List Int} (hs : a.eval s = v) (hown : Zs w base v l) {A : Option Addr} {m c : Nat} {l2 : List Int} (hx : a.eval x = .slice A m c) (h2 : l2.length = m) (hz : A = none → m = 0 ∧ c = 0)
    (hA : ∀ ad, A = some ad → ∀ (j : Nat) (z : Int), l2[j]? = some z → w.cell? (ad.add j) = some (.int .i64 z)) (hm : l.length + m ≤ 1000000) (hbase : base ≤ w.heap.size)
    (h : ∀ v' w', Zs w' base v' (l ++ l2) → Below base w w' → K (a.put o.dst v') w') : o.wp Try.prog a w K Q := by
  refine wp_app_many fz_len s x 22 ho Try.underlying22 _ 8 (info_parts info_i1) rfl (by decide) fz_one (by decide) hs hown hx h2 hz ?_ hm hbase h
  intro ad e j u hu
  have hl : ∀ (l : List Int), (l.flatMap fz) = l.map (Value.int .i64) := fun l => by
    induction l with
    | nil => rfl
    | cons a l ih => rw [List.flatMap_cons, ih]; rfl
  rw [hl, List.getElem?_map] at hu
  obtain ⟨z, hz2, rfl⟩ := Option.map_eq_some_iff.1 hu
  exact hA ad e j z hz2

/-- The second part of numbers that came in, as it is cut off. -/
theorem part_from {W : World} {ad : Addr} {l : List Int} {n cp k : Nat} (hA : Lk.IntsAt W .i64 (some ad) l) (hl : l.length = n) (hc : n ≤ cp) (hk : k ≤ n) : ∀ a, (if cp = k then some ad else some (ad.add k)) = some a → ∀ (j : Nat) (z : Int), (l.drop k)[j]? = some z → W.cell? (a.add j) = some (.int .i64 z) := by
  intro a ha j z hj
  rw [List.getElem?_drop] at hj
  have hlt : k + j < l.length := (List.getElem?_eq_some_iff.1 hj).1
  obtain ⟨b, off, e, hcell⟩ := hA (k + j) hlt
  injection e with e
  subst e
  rw [if_neg (by omega)] at ha
  injection ha with ha
  subst ha
  rw [Addr.add_mid, Addr.add_mid, Nat.add_assoc, hcell, List.getD_eq_getElem?_getD, hj]
  rfl
theorem part_to {W : World} {ad : Addr} {l : List Int} {k : Nat} (hA : Lk.IntsAt W .i64 (some ad) l) : ∀ a, some ad = some a → ∀ (j : Nat) (z : Int), (l.take k)[j]? = some z → W.cell? (a.add j) = some (.int .i64 z) := by
  intro a ha j z hj
  injection ha with ha
  subst ha
  rw [List.getElem?_take] at hj
  split at hj
  · have hlt : j < l.length := (List.getElem?_eq_some_iff.1 hj).1
    obtain ⟨b, off, e, hcell⟩ := hA j hlt
    injection e with e
    subst e
    rw [Addr.add_mid, hcell, List.getD_eq_getElem?_getD, hj]
    rfl
  · cases hj
theorem made_z (W : World) : Zs (W.alloc (.cells #[] 3)) W.heap.size (.slice (some ⟨W.heap.size, 0, none⟩) 0 0) [] := World.ownsRow_made W #[] 0 (Nat.le_refl _) (Nat.zero_le _) (by simp)

/-- One number put behind the others. -/
theorem app_z {ops : Array Oper} {Q : Exit → Act → World → Prop} {a : Act} {w : World} {rest : List Oper} {o : Oper} (hw : Region.wanted o (yielded ops a.tmps) = true)
    (s x : Operand) (ho : o.op = .call { callee := .builtin .append, args := #[s, x], argTypes := #[22, 22] })
    (base : Nat) (v : Value) (l : List Int) (hs : a.eval s = v) (hown : Zs w base v l) (g c : Nat) (b : Int) (hx : a.eval x = .slice (some ⟨g, 0, none⟩) 1 c) (hA : w.rangeAt g 0 (fz b))
    (hm : l.length ≤ 1000000) (hbase : base ≤ w.heap.size)
    (h : ∀ v' w', Zs w' base v' (l ++ [b]) → Below base w w' → wpList Try.prog ops Q rest (a.put o.dst v') w') : wpList Try.prog ops Q (o :: rest) a w :=
  app_one hw s x 22 ho Try.underlying22 _ 8 (info_parts info_i1) rfl (by decide) fz_len fz_one (by decide) base v l hs hown g c b hx hA hm hbase h
theorem range_z (w : World) (n : Int) : (w.alloc (.cells #[.int .i64 n] 3)).rangeAt w.heap.size 0 (fz n) := fun j v hv => by
  rw [Nat.zero_add]
  exact (Joins.cell_of_block (heap_alloc_last w _) j).trans (by simpa using hv)
theorem back_step {l : List Int} {j : Nat} {x : Int} (h : l[j]? = some x) : (l.drop j).reverse = (l.drop (j + 1)).reverse ++ [x] := by
  have hj : j < l.length := (List.getElem?_eq_some_iff.1 h).1
  rw [List.drop_eq_getElem_cons hj, List.reverse_cons]
  have : l[j] = x := (List.getElem?_eq_some_iff.1 h).2
  rw [this]
/-- raised, of at most a hundred faults that are counted so. -/
theorem raised_v {A : Option Addr} {l : List Int} {n cp : Nat} {P : List R} (hl : l.length = n) (hn : n ≤ 100) (hP : Fa.raised l = P) {w : World} (hA : Lk.IntsAt w .i64 A l) :
    Calls Try.prog 20 #[.slice A n cp] w fun e w' => ∃ A' m c', e = .returned (.slice A' m c') ∧ Lst w' w.heap.size A' m c' P ∧ Below w.heap.size w w' := by
  have := raised_c A l n cp hl (by omega) w hA
  rwa [List.take_of_length_le (by omega), hP] at this
theorem same_l {A B : Option Addr} {P : List R} {n m ca cb b1 b2 : Nat} {w : World} (hA : Lst w b1 A n ca P) (hB : Lst w b2 B m cb P) (hn : P.length ≤ 1000) :
    Calls Try.prog 12 #[.slice A n ca, .slice B m cb] w fun e w' => e = .returned (.bool true) ∧ Below w.heap.size w w' := by
  have := same_c A B P P n m ca cb hA.len hB.len (by have := hA.len; omega) w hA.rcs hB.rcs
  rwa [decide_eq_true (rfl : P = P)] at this

set_option maxRecDepth 100000 in
set_option maxHeartbeats 8000000 in
theorem FaultOrder_walk (A : Option Addr) (l : List Int) (cp : Nat) (hcp : l.length ≤ cp) (hmx : cp ≤ maxLen) (hz : A = none → cp = 0) (c : Int) (hc : -9223372036854775808 ≤ c ∧ c ≤ 9223372036854775807) (w : World) (hA : Lk.IntsAt w .i64 A l) :
    Calls Try.prog 8 #[.slice A l.length cp, .int .i64 c] w fun e w' => e = .returned (.bool true) ∧ Below w.heap.size w w' := by
  have HC := Lib.hid (awake_c w)
  have HA := Lib.hid hA
  obtain ⟨n, hl⟩ : ∃ n, l.length = n := ⟨_, rfl⟩
  rw [hl] at hcp ⊢
  have HL := Lib.hid hl
  unfold maxLen at hmx
  obtain ⟨P, hP⟩ : ∃ P, Fa.raised l = P := ⟨_, rfl⟩
  have HP := Lib.hid hP
  have HPl : Hid (n ≤ 100 → P.length ≤ 1000) := fun h => by rw [← hP]; have := (good_raised l).len; omega
  clear hA hl hP
  by_cases h100 : 100 < n
  · have d1 : (100 : Int) < n := by omega
    clear hz
    go_enter Try.func8, Try.ntmps8
    go_wp2_with (first
      | (go_at_call 9; refine HC.out.mono ?_; rintro e W ⟨rfl, hb1⟩; replace HC := Lib.hid hb1; clear hb1) | fail)
    go_ret
    exact ⟨rfl, HC.out⟩
  · have d1 : decide ((100 : Int) < n) = false := decide_eq_false (by omega)
    have d2 : ¬ 100 < n := h100
    have hn100 : n ≤ 100 := by omega
    have hpl := HPl.out hn100
    clear HPl
    -- where it is cut
    by_cases hneg : c < 0
    · obtain ⟨d, hd⟩ : ∃ d, -(c + 1) = d := ⟨_, rfl⟩
      have d4 : 0 ≤ d := by omega
      have d5 : IntKind.i64.wrap (c + 1) = c + 1 := by rw [IntKind.wrap_i64]; omega
      have d6 : IntKind.i64.wrap (-(c + 1)) = d := by rw [IntKind.wrap_i64]; omega
      obtain ⟨k, hk⟩ : ∃ k : Nat, d % ((n : Int) + 1) = k := ⟨(d % ((n : Int) + 1)).toNat, by rw [Int.toNat_of_nonneg (Int.emod_nonneg _ (by omega))]⟩
      have hkn : k ≤ n := by have := Int.emod_lt_of_pos (d) (show (0 : Int) < (n : Int) + 1 by omega); omega
      have hk1 : (k : Int) ≤ n := by omega
      have hk2 : (k : Int) ≤ cp := by omega
      cases A with
      | none =>
        obtain rfl : cp = 0 := hz rfl
        obtain rfl : n = 0 := by omega
        obtain rfl : k = 0 := by omega
        obtain rfl := List.eq_nil_of_length_eq_zero HL.out
        clear hz hk hkn hk1 hk2 hcp hmx h100 d1 d2 hn100
        have hn100 : 0 ≤ 100 := by decide
        go_enter Try.func8, Try.ntmps8
        go_wp2_with fail
        refine HC.out.mono ?_
        rintro e W ⟨rfl, hb1⟩
        have HB := Lib.hid hb1
        clear hb1 HC
        go_wp2_with fail
        refine wp_region_noPanic (Lk.wp_region_ordered ord_7 (fun _ => True) (by kernel_rfl) (by kernel_rfl) (fun _ _ _ _ _ h => h) trivial ?_)
        have HM := Lib.hid (made_z W)
        have HTP : Hid (Fa.raised ([] ++ [] : List Int) = P) := HP.out
        have HTL : Hid (([] ++ [] : List Int).length = 0) := rfl
        iterate 6 (refine Lk.ord_take ?_ rfl rfl ?_ ?_; rotate_left; (focus (intro w' hS; (try dsimp only at hS); go_simp; try with_reducible rfl)); simp only [Act.put, List.setIfInBounds_toArray, List.set_cons_zero, List.set_cons_succ])
        refine Lk.ord_step rfl rfl (fun K hK => ?_)
        go_simp
        refine hK.out _ _ trivial ?_
        clear hK K
        try simp only [Act.put, List.setIfInBounds_toArray, List.set_cons_zero, List.set_cons_succ]
        refine Lk.ord_step rfl rfl (fun K hK => ?_)
        refine app_zs _ _ rfl (base := W.heap.size) rfl HM.out (l2 := []) rfl rfl (fun _ => ⟨rfl, rfl⟩) (fun a ha => by cases ha) (by simp) (by simp [World.drew]) ?_
        intro v1 W1 hz1 hb1
        have HZ1 := Lib.hid hz1
        have HB1 : Hid (Below W.heap.size W W1) := ((Below.refl _ W).alloc (Nat.le_refl _) (.cells #[] 3)).drew.trans hb1
        clear hz1 hb1 HM
        refine hK.out _ _ trivial ?_
        clear hK K
        try simp only [Act.put, List.setIfInBounds_toArray, List.set_cons_zero, List.set_cons_succ]
        refine Lk.ord_step rfl rfl (fun K hK => ?_)
        refine app_zs _ _ rfl (base := W.heap.size) rfl HZ1.out (l2 := []) rfl rfl (fun _ => ⟨rfl, rfl⟩) (fun a ha => by cases ha) (by simp) HB1.out.size ?_
        intro v2 W2 hz2 hb2
        rw [List.nil_append] at hz2
        have HZ2 := Lib.hid hz2
        replace HB1 : Hid (Below W.heap.size W W2) := HB1.out.trans hb2
        clear hz2 hb2 HZ1
        refine hK.out _ _ trivial ?_
        clear hK K
        try simp only [Act.put, List.setIfInBounds_toArray, List.set_cons_zero, List.set_cons_succ]
        refine Lk.ord_take ?_ rfl rfl ?_ ?_
        rotate_left
        focus (intro w' hS; (try dsimp only at hS); go_simp; try with_reducible rfl)
        simp only [Act.put, List.setIfInBounds_toArray, List.set_cons_zero, List.set_cons_succ]
        refine Lk.ord_nil (NoPanic.normal ?_)
        replace HB := Lib.hid (HB.out.trans (HB1.out.mono HB.out.size))
        obtain ⟨At, ct, rfl, hit⟩ := HZ2.out.form
        rw [HTL.out]
        have HT := Lib.hid hit
        clear hit HZ2 HB1
        go_wp2_with fail
        go_loopw [8, 9] (fun v i wr => v = .slice none 0 0 ∧ i = .int .i64 (-1) ∧ W2 = wr) (fun _ i _ => (intOf i + 1).toNat)
        case atStart => exact ⟨rfl, by go_num, rfl⟩
        case round =>
          obtain ⟨rfl, rfl, rfl⟩ := hrel
          have HIb : Hid (Lk.IntsAt W2 .i64 none ([] : List Int)) := fun i hi => absurd hi (Nat.not_lt_zero i)
          have HPb : Hid (Fa.raised ([] : List Int) = P) := HP
          have HLb : Hid (([] : List Int).length = 0) := rfl
          have C1 := Lib.hid (raised_v (cp := 0) HL.out hn100 HP.out (HA.out.below HB.out))
          go_wp2_with fail
          refine C1.out.mono ?_
          rintro e W3 ⟨A3, m3, c3, rfl, h3, hb3⟩
          have H3 := Lib.hid h3
          replace HB := Lib.hid (HB.out.trans (hb3.mono HB.out.size))
          replace HT := Lib.hid (HT.out.below hb3)
          replace HIb := Lib.hid (HIb.out.below hb3)
          clear h3 hb3 C1
          have C2 := Lib.hid (raised_v (cp := ct) HTL.out hn100 HTP.out HT.out)
          go_wp2_with fail
          refine C2.out.mono ?_
          rintro e W4 ⟨A4, m4, c4, rfl, h4, hb4⟩
          have H4 := Lib.hid h4
          replace H3 := Lib.hid (H3.out.below hb4)
          replace HB := Lib.hid (HB.out.trans (hb4.mono HB.out.size))
          replace HIb := Lib.hid (HIb.out.below hb4)
          clear h4 hb4 C2 HT
          go_wp2_with fail
          refine (same_l H3.out H4.out hpl).mono ?_
          rintro e W5 ⟨rfl, hb5⟩
          replace HB := Lib.hid (HB.out.trans (hb5.mono HB.out.size))
          replace HIb := Lib.hid (HIb.out.below hb5)
          clear hb5 H3 H4
          have C3 := Lib.hid (raised_v (cp := 0) HL.out hn100 HP.out (HA.out.below HB.out))
          go_wp2_with fail
          refine C3.out.mono ?_
          rintro e W6 ⟨A6, m6, c6, rfl, h6, hb6⟩
          have H6 := Lib.hid h6
          replace HB := Lib.hid (HB.out.trans (hb6.mono HB.out.size))
          replace HIb := Lib.hid (HIb.out.below hb6)
          clear h6 hb6 C3
          have C4 := Lib.hid (raised_v (cp := 0) HLb.out hn100 HPb.out HIb.out)
          go_wp2_with fail
          refine C4.out.mono ?_
          rintro e W7 ⟨A7, m7, c7, rfl, h7, hb7⟩
          have H7 := Lib.hid h7
          replace H6 := Lib.hid (H6.out.below hb7)
          replace HB := Lib.hid (HB.out.trans (hb7.mono HB.out.size))
          clear h7 hb7 C4 HIb
          go_wp2_with fail
          refine (same_l H6.out H7.out hpl).mono ?_
          rintro e W8 ⟨rfl, hb8⟩
          replace HB := Lib.hid (HB.out.trans (hb8.mono HB.out.size))
          clear hb8 H6 H7
          go_wp2_with fail
          go_ret
          exact ⟨rfl, HB.out⟩
      | some ad =>
        clear hz
        go_enter Try.func8, Try.ntmps8
        go_wp2_with fail
        refine HC.out.mono ?_
        rintro e W ⟨rfl, hb1⟩
        have HB := Lib.hid hb1
        have hfrom := part_from (cp := cp) (k := k) (HA.out.below hb1) HL.out hcp hkn
        have hto := part_to (k := k) (HA.out.below hb1)
        have HFrom := Lib.hid hfrom
        have HTo := Lib.hid hto
        clear hb1 HC hfrom hto
        go_wp2_with fail
        refine wp_region_noPanic (Lk.wp_region_ordered ord_7 (fun _ => True) (by kernel_rfl) (by kernel_rfl) (fun _ _ _ _ _ h => h) trivial ?_)
        have HM := Lib.hid (made_z W)
        have HTP : Hid (Fa.raised (l.drop k ++ l.take k) = P) := by rw [← raised_turned]; exact HP.out
        have HTL : Hid ((l.drop k ++ l.take k).length = n) := by show _ = _; rw [List.length_append, List.length_drop, List.length_take, HL.out]; omega
        iterate 6 (refine Lk.ord_take ?_ rfl rfl ?_ ?_; rotate_left; (focus (intro w' hS; (try dsimp only at hS); go_simp; try with_reducible rfl)); simp only [Act.put, List.setIfInBounds_toArray, List.set_cons_zero, List.set_cons_succ])
        refine Lk.ord_step rfl rfl (fun K hK => ?_)
        go_simp
        refine hK.out _ _ trivial ?_
        clear hK K
        try simp only [Act.put, List.setIfInBounds_toArray, List.set_cons_zero, List.set_cons_succ]
        refine Lk.ord_step rfl rfl (fun K hK => ?_)
        refine app_zs _ _ rfl (base := W.heap.size) rfl HM.out (l2 := l.drop k) rfl (by rw [List.length_drop, HL.out]) (fun h => by split at h <;> cases h) (fun a ha j z hj => ?_) (by simp; omega) (by simp [World.drew]) ?_
        · have h1 := HFrom.out a ha j z hj
          exact (World.cell?_of_block (w := W) (a := a.add j) (Below.heap_alloc _ _ _ (World.block_lt_of_cell? _ _ h1))).trans h1
        intro v1 W1 hz1 hb1
        have HZ1 := Lib.hid hz1
        have HB1 : Hid (Below W.heap.size W W1) := ((Below.refl _ W).alloc (Nat.le_refl _) (.cells #[] 3)).drew.trans hb1
        clear hz1 hb1 HM
        refine hK.out _ _ trivial ?_
        clear hK K
        try simp only [Act.put, List.setIfInBounds_toArray, List.set_cons_zero, List.set_cons_succ]
        refine Lk.ord_step rfl rfl (fun K hK => ?_)
        refine app_zs _ _ rfl (base := W.heap.size) rfl HZ1.out (l2 := l.take k) rfl (by rw [List.length_take, HL.out]; omega) (fun h => by cases h) (fun a ha j z hj => ?_) (by have := HL.out; simp; omega) HB1.out.size ?_
        · have h1 := HTo.out a ha j z hj
          exact (HB1.out.cell (p := a.add j) (World.block_lt_of_cell? _ _ h1)).trans h1
        intro v2 W2 hz2 hb2
        rw [List.nil_append] at hz2
        have HZ2 := Lib.hid hz2
        replace HB1 : Hid (Below W.heap.size W W2) := HB1.out.trans hb2
        clear hz2 hb2 HZ1
        refine hK.out _ _ trivial ?_
        clear hK K
        try simp only [Act.put, List.setIfInBounds_toArray, List.set_cons_zero, List.set_cons_succ]
        refine Lk.ord_take ?_ rfl rfl ?_ ?_
        rotate_left
        focus (intro w' hS; (try dsimp only at hS); go_simp; try with_reducible rfl)
        simp only [Act.put, List.setIfInBounds_toArray, List.set_cons_zero, List.set_cons_succ]
        refine Lk.ord_nil (NoPanic.normal ?_)
        replace HB := Lib.hid (HB.out.trans (HB1.out.mono HB.out.size))
        obtain ⟨At, ct, rfl, hit⟩ := HZ2.out.form
        rw [HTL.out]
        have HT := Lib.hid hit
        have HBk : Hid (Zs W2 W2.heap.size (.slice none 0 0) (l.drop n).reverse) := by
          have : l.drop n = [] := List.drop_of_length_le (by rw [HL.out]; exact Nat.le_refl _)
          rw [this]
          exact Rw.nil _ _ _ _ _
        clear hit HZ2 HB1 HFrom HTo hk hkn hk1 hk2
        generalize (if cp = k then some ad else some (ad.add k)) = az
        go_wp2_with fail
        go_loopw [8, 9] (fun v i wr => ∃ j : Nat, j ≤ n ∧ i = .int .i64 ((j : Int) - 1) ∧ Zs wr W2.heap.size v (l.drop j).reverse ∧ Below W2.heap.size W2 wr) (fun _ i _ => (intOf i + 1).toNat)
        case atStart => exact ⟨n, Nat.le_refl _, by go_num, HBk.out, Below.refl _ _⟩
        case round =>
          clear HBk
          obtain ⟨j, hj, rfl, hzj, hbj⟩ := hrel
          have HZj := Lib.hid hzj
          have HBj := Lib.hid hbj
          clear hzj hbj
          by_cases hj0 : j = 0
          · have e0 : (j : Int) - 1 = -1 := by omega
            rw [e0]
            subst hj0
            obtain ⟨Ab, cb, rfl, hib⟩ := HZj.out.form
            have hlb : (l.drop 0).reverse.length = n := by have := HL.out; simp; omega
            rw [hlb]
            have HIb := Lib.hid hib
            have HPb : Hid (Fa.raised (l.drop 0).reverse = P) := by rw [List.drop_zero, ← raised_back]; exact HP.out
            have HLb := Lib.hid hlb
            replace HT := Lib.hid (HT.out.below HBj.out)
            replace HB := Lib.hid (HB.out.trans (HBj.out.mono HB.out.size))
            clear hib hlb HZj HBj e0
            have C1 := Lib.hid (raised_v (cp := cp) HL.out hn100 HP.out (HA.out.below HB.out))
            go_wp2_with fail
            refine C1.out.mono ?_
            rintro e W3 ⟨A3, m3, c3, rfl, h3, hb3⟩
            have H3 := Lib.hid h3
            replace HB := Lib.hid (HB.out.trans (hb3.mono HB.out.size))
            replace HT := Lib.hid (HT.out.below hb3)
            replace HIb := Lib.hid (HIb.out.below hb3)
            clear h3 hb3 C1
            have C2 := Lib.hid (raised_v (cp := ct) HTL.out hn100 HTP.out HT.out)
            go_wp2_with fail
            refine C2.out.mono ?_
            rintro e W4 ⟨A4, m4, c4, rfl, h4, hb4⟩
            have H4 := Lib.hid h4
            replace H3 := Lib.hid (H3.out.below hb4)
            replace HB := Lib.hid (HB.out.trans (hb4.mono HB.out.size))
            replace HIb := Lib.hid (HIb.out.below hb4)
            clear h4 hb4 C2 HT
            go_wp2_with fail
            refine (same_l H3.out H4.out hpl).mono ?_
            rintro e W5 ⟨rfl, hb5⟩
            replace HB := Lib.hid (HB.out.trans (hb5.mono HB.out.size))
            replace HIb := Lib.hid (HIb.out.below hb5)
            clear hb5 H3 H4
            have C3 := Lib.hid (raised_v (cp := cp) HL.out hn100 HP.out (HA.out.below HB.out))
            go_wp2_with fail
            refine C3.out.mono ?_
            rintro e W6 ⟨A6, m6, c6, rfl, h6, hb6⟩
            have H6 := Lib.hid h6
            replace HB := Lib.hid (HB.out.trans (hb6.mono HB.out.size))
            replace HIb := Lib.hid (HIb.out.below hb6)
            clear h6 hb6 C3
            have C4 := Lib.hid (raised_v (cp := cb) HLb.out hn100 HPb.out HIb.out)
            go_wp2_with fail
            refine C4.out.mono ?_
            rintro e W7 ⟨A7, m7, c7, rfl, h7, hb7⟩
            have H7 := Lib.hid h7
            replace H6 := Lib.hid (H6.out.below hb7)
            replace HB := Lib.hid (HB.out.trans (hb7.mono HB.out.size))
            clear h7 hb7 C4 HIb
            go_wp2_with fail
            refine (same_l H6.out H7.out hpl).mono ?_
            rintro e W8 ⟨rfl, hb8⟩
            replace HB := Lib.hid (HB.out.trans (hb8.mono HB.out.size))
            clear hb8 H6 H7
            go_wp2_with fail
            go_ret
            exact ⟨rfl, HB.out⟩
          · obtain ⟨j', rfl⟩ : ∃ j', j = j' + 1 := ⟨j - 1, by omega⟩
            have e0 : ((j' + 1 : Nat) : Int) - 1 = (j' : Int) := by omega
            rw [e0]
            obtain ⟨x, hx⟩ : ∃ x, l[j']? = some x := ⟨l[j']'(by rw [HL.out]; omega), List.getElem?_eq_getElem _⟩
            obtain ⟨g, o, e1, hc0⟩ := (HA.out.below (HB.out.trans (HBj.out.mono HB.out.size))) j' (by rw [HL.out]; omega)
            obtain rfl : ad = ⟨g, o, none⟩ := by injection e1
            have hx2 : l.getD j' 0 = x := by rw [List.getD_eq_getElem?_getD, hx]; rfl
            rw [hx2] at hc0
            have HS := Lib.hid (back_step hx)
            have hbl : (l.drop (j' + 1)).reverse.length ≤ 1000 := by have := HL.out; simp; omega
            have hjn : (j' : Int) < n := by omega
            have hbs := HBj.out.size
            obtain ⟨b, hb⟩ : ∃ b, (l.drop (j' + 1)).reverse = b := ⟨_, rfl⟩
            rw [hb] at HZj HS hbl
            clear hx hx2 hb hj0 e0
            go_wp2_with (first | (at_builtin; refine app_z rfl _ _ rfl W2.heap.size _ b rfl (HZj.out.alloc _) wr.heap.size 1 x rfl (range_z wr x) (by omega) (by simp; omega) ?_) | fail)
            intro v5 W5 h5 hb5
            have HZ5 := Lib.hid h5
            replace HBj := Lib.hid (((HBj.out.alloc HBj.out.size (.cells #[.int .i64 x] 3))).trans hb5)
            clear h5 hb5 HZj hc0
            go_wp2_with fail
            go_roundw
            case rel => exact ⟨j', by omega, by go_num, by rw [HS.out]; exact HZ5.out, HBj.out⟩
            case measure => (simp [intOf]; try omega)
    · have d3 : decide (c < 0) = false := decide_eq_false hneg
      have d4 : 0 ≤ c := by omega
      obtain ⟨k, hk⟩ : ∃ k : Nat, c % ((n : Int) + 1) = k := ⟨(c % ((n : Int) + 1)).toNat, by rw [Int.toNat_of_nonneg (Int.emod_nonneg _ (by omega))]⟩
      have hkn : k ≤ n := by have := Int.emod_lt_of_pos (c) (show (0 : Int) < (n : Int) + 1 by omega); omega
      have hk1 : (k : Int) ≤ n := by omega
      have hk2 : (k : Int) ≤ cp := by omega
      cases A with
      | none =>
        obtain rfl : cp = 0 := hz rfl
        obtain rfl : n = 0 := by omega
        obtain rfl : k = 0 := by omega
        obtain rfl := List.eq_nil_of_length_eq_zero HL.out
        clear hz hk hkn hk1 hk2 hcp hmx h100 d1 d2 hn100
        have hn100 : 0 ≤ 100 := by decide
        go_enter Try.func8, Try.ntmps8
        go_wp2_with fail
        refine HC.out.mono ?_
        rintro e W ⟨rfl, hb1⟩
        have HB := Lib.hid hb1
        clear hb1 HC
        go_wp2_with fail
        refine wp_region_noPanic (Lk.wp_region_ordered ord_7 (fun _ => True) (by kernel_rfl) (by kernel_rfl) (fun _ _ _ _ _ h => h) trivial ?_)
        have HM := Lib.hid (made_z W)
        have HTP : Hid (Fa.raised ([] ++ [] : List Int) = P) := HP.out
        have HTL : Hid (([] ++ [] : List Int).length = 0) := rfl
        iterate 6 (refine Lk.ord_take ?_ rfl rfl ?_ ?_; rotate_left; (focus (intro w' hS; (try dsimp only at hS); go_simp; try with_reducible rfl)); simp only [Act.put, List.setIfInBounds_toArray, List.set_cons_zero, List.set_cons_succ])
        refine Lk.ord_step rfl rfl (fun K hK => ?_)
        go_simp
        refine hK.out _ _ trivial ?_
        clear hK K
        try simp only [Act.put, List.setIfInBounds_toArray, List.set_cons_zero, List.set_cons_succ]
        refine Lk.ord_step rfl rfl (fun K hK => ?_)
        refine app_zs _ _ rfl (base := W.heap.size) rfl HM.out (l2 := []) rfl rfl (fun _ => ⟨rfl, rfl⟩) (fun a ha => by cases ha) (by simp) (by simp [World.drew]) ?_
        intro v1 W1 hz1 hb1
        have HZ1 := Lib.hid hz1
        have HB1 : Hid (Below W.heap.size W W1) := ((Below.refl _ W).alloc (Nat.le_refl _) (.cells #[] 3)).drew.trans hb1
        clear hz1 hb1 HM
        refine hK.out _ _ trivial ?_
        clear hK K
        try simp only [Act.put, List.setIfInBounds_toArray, List.set_cons_zero, List.set_cons_succ]
        refine Lk.ord_step rfl rfl (fun K hK => ?_)
        refine app_zs _ _ rfl (base := W.heap.size) rfl HZ1.out (l2 := []) rfl rfl (fun _ => ⟨rfl, rfl⟩) (fun a ha => by cases ha) (by simp) HB1.out.size ?_
        intro v2 W2 hz2 hb2
        rw [List.nil_append] at hz2
        have HZ2 := Lib.hid hz2
        replace HB1 : Hid (Below W.heap.size W W2) := HB1.out.trans hb2
        clear hz2 hb2 HZ1
        refine hK.out _ _ trivial ?_
        clear hK K
        try simp only [Act.put, List.setIfInBounds_toArray, List.set_cons_zero, List.set_cons_succ]
        refine Lk.ord_take ?_ rfl rfl ?_ ?_
        rotate_left
        focus (intro w' hS; (try dsimp only at hS); go_simp; try with_reducible rfl)
        simp only [Act.put, List.setIfInBounds_toArray, List.set_cons_zero, List.set_cons_succ]
        refine Lk.ord_nil (NoPanic.normal ?_)
        replace HB := Lib.hid (HB.out.trans (HB1.out.mono HB.out.size))
        obtain ⟨At, ct, rfl, hit⟩ := HZ2.out.form
        rw [HTL.out]
        have HT := Lib.hid hit
        clear hit HZ2 HB1
        go_wp2_with fail
        go_loopw [8, 9] (fun v i wr => v = .slice none 0 0 ∧ i = .int .i64 (-1) ∧ W2 = wr) (fun _ i _ => (intOf i + 1).toNat)
        case atStart => exact ⟨rfl, by go_num, rfl⟩
        case round =>
          obtain ⟨rfl, rfl, rfl⟩ := hrel
          have HIb : Hid (Lk.IntsAt W2 .i64 none ([] : List Int)) := fun i hi => absurd hi (Nat.not_lt_zero i)
          have HPb : Hid (Fa.raised ([] : List Int) = P) := HP
          have HLb : Hid (([] : List Int).length = 0) := rfl
          have C1 := Lib.hid (raised_v (cp := 0) HL.out hn100 HP.out (HA.out.below HB.out))
          go_wp2_with fail
          refine C1.out.mono ?_
          rintro e W3 ⟨A3, m3, c3, rfl, h3, hb3⟩
          have H3 := Lib.hid h3
          replace HB := Lib.hid (HB.out.trans (hb3.mono HB.out.size))
          replace HT := Lib.hid (HT.out.below hb3)
          replace HIb := Lib.hid (HIb.out.below hb3)
          clear h3 hb3 C1
          have C2 := Lib.hid (raised_v (cp := ct) HTL.out hn100 HTP.out HT.out)
          go_wp2_with fail
          refine C2.out.mono ?_
          rintro e W4 ⟨A4, m4, c4, rfl, h4, hb4⟩
          have H4 := Lib.hid h4
          replace H3 := Lib.hid (H3.out.below hb4)
          replace HB := Lib.hid (HB.out.trans (hb4.mono HB.out.size))
          replace HIb := Lib.hid (HIb.out.below hb4)
          clear h4 hb4 C2 HT
          go_wp2_with fail
          refine (same_l H3.out H4.out hpl).mono ?_
          rintro e W5 ⟨rfl, hb5⟩
          replace HB := Lib.hid (HB.out.trans (hb5.mono HB.out.size))
          replace HIb := Lib.hid (HIb.out.below hb5)
          clear hb5 H3 H4
          have C3 := Lib.hid (raised_v (cp := 0) HL.out hn100 HP.out (HA.out.below HB.out))
          go_wp2_with fail
          refine C3.out.mono ?_
          rintro e W6 ⟨A6, m6, c6, rfl, h6, hb6⟩
          have H6 := Lib.hid h6
          replace HB := Lib.hid (HB.out.trans (hb6.mono HB.out.size))
          replace HIb := Lib.hid (HIb.out.below hb6)
          clear h6 hb6 C3
          have C4 := Lib.hid (raised_v (cp := 0) HLb.out hn100 HPb.out HIb.out)
          go_wp2_with fail
          refine C4.out.mono ?_
          rintro e W7 ⟨A7, m7, c7, rfl, h7, hb7⟩
          have H7 := Lib.hid h7
          replace H6 := Lib.hid (H6.out.below hb7)
          replace HB := Lib.hid (HB.out.trans (hb7.mono HB.out.size))
          clear h7 hb7 C4 HIb
          go_wp2_with fail
          refine (same_l H6.out H7.out hpl).mono ?_
          rintro e W8 ⟨rfl, hb8⟩
          replace HB := Lib.hid (HB.out.trans (hb8.mono HB.out.size))
          clear hb8 H6 H7
          go_wp2_with fail
          go_ret
          exact ⟨rfl, HB.out⟩
      | some ad =>
        clear hz
        go_enter Try.func8, Try.ntmps8
        go_wp2_with fail
        refine HC.out.mono ?_
        rintro e W ⟨rfl, hb1⟩
        have HB := Lib.hid hb1
        have hfrom := part_from (cp := cp) (k := k) (HA.out.below hb1) HL.out hcp hkn
        have hto := part_to (k := k) (HA.out.below hb1)
        have HFrom := Lib.hid hfrom
        have HTo := Lib.hid hto
        clear hb1 HC hfrom hto
        go_wp2_with fail
        refine wp_region_noPanic (Lk.wp_region_ordered ord_7 (fun _ => True) (by kernel_rfl) (by kernel_rfl) (fun _ _ _ _ _ h => h) trivial ?_)
        have HM := Lib.hid (made_z W)
        have HTP : Hid (Fa.raised (l.drop k ++ l.take k) = P) := by rw [← raised_turned]; exact HP.out
        have HTL : Hid ((l.drop k ++ l.take k).length = n) := by show _ = _; rw [List.length_append, List.length_drop, List.length_take, HL.out]; omega
        iterate 6 (refine Lk.ord_take ?_ rfl rfl ?_ ?_; rotate_left; (focus (intro w' hS; (try dsimp only at hS); go_simp; try with_reducible rfl)); simp only [Act.put, List.setIfInBounds_toArray, List.set_cons_zero, List.set_cons_succ])
        refine Lk.ord_step rfl rfl (fun K hK => ?_)
        go_simp
        refine hK.out _ _ trivial ?_
        clear hK K
        try simp only [Act.put, List.setIfInBounds_toArray, List.set_cons_zero, List.set_cons_succ]
        refine Lk.ord_step rfl rfl (fun K hK => ?_)
        refine app_zs _ _ rfl (base := W.heap.size) rfl HM.out (l2 := l.drop k) rfl (by rw [List.length_drop, HL.out]) (fun h => by split at h <;> cases h) (fun a ha j z hj => ?_) (by simp; omega) (by simp [World.drew]) ?_
        · have h1 := HFrom.out a ha j z hj
          exact (World.cell?_of_block (w := W) (a := a.add j) (Below.heap_alloc _ _ _ (World.block_lt_of_cell? _ _ h1))).trans h1
        intro v1 W1 hz1 hb1
        have HZ1 := Lib.hid hz1
        have HB1 : Hid (Below W.heap.size W W1) := ((Below.refl _ W).alloc (Nat.le_refl _) (.cells #[] 3)).drew.trans hb1
        clear hz1 hb1 HM
        refine hK.out _ _ trivial ?_
        clear hK K
        try simp only [Act.put, List.setIfInBounds_toArray, List.set_cons_zero, List.set_cons_succ]
        refine Lk.ord_step rfl rfl (fun K hK => ?_)
        refine app_zs _ _ rfl (base := W.heap.size) rfl HZ1.out (l2 := l.take k) rfl (by rw [List.length_take, HL.out]; omega) (fun h => by cases h) (fun a ha j z hj => ?_) (by have := HL.out; simp; omega) HB1.out.size ?_
        · have h1 := HTo.out a ha j z hj
          exact (HB1.out.cell (p := a.add j) (World.block_lt_of_cell? _ _ h1)).trans h1
        intro v2 W2 hz2 hb2
        rw [List.nil_append] at hz2
        have HZ2 := Lib.hid hz2
        replace HB1 : Hid (Below W.heap.size W W2) := HB1.out.trans hb2
        clear hz2 hb2 HZ1
        refine hK.out _ _ trivial ?_
        clear hK K
        try simp only [Act.put, List.setIfInBounds_toArray, List.set_cons_zero, List.set_cons_succ]
        refine Lk.ord_take ?_ rfl rfl ?_ ?_
        rotate_left
        focus (intro w' hS; (try dsimp only at hS); go_simp; try with_reducible rfl)
        simp only [Act.put, List.setIfInBounds_toArray, List.set_cons_zero, List.set_cons_succ]
        refine Lk.ord_nil (NoPanic.normal ?_)
        replace HB := Lib.hid (HB.out.trans (HB1.out.mono HB.out.size))
        obtain ⟨At, ct, rfl, hit⟩ := HZ2.out.form
        rw [HTL.out]
        have HT := Lib.hid hit
        have HBk : Hid (Zs W2 W2.heap.size (.slice none 0 0) (l.drop n).reverse) := by
          have : l.drop n = [] := List.drop_of_length_le (by rw [HL.out]; exact Nat.le_refl _)
          rw [this]
          exact Rw.nil _ _ _ _ _
        clear hit HZ2 HB1 HFrom HTo hk hkn hk1 hk2
        generalize (if cp = k then some ad else some (ad.add k)) = az
        go_wp2_with fail
        go_loopw [8, 9] (fun v i wr => ∃ j : Nat, j ≤ n ∧ i = .int .i64 ((j : Int) - 1) ∧ Zs wr W2.heap.size v (l.drop j).reverse ∧ Below W2.heap.size W2 wr) (fun _ i _ => (intOf i + 1).toNat)
        case atStart => exact ⟨n, Nat.le_refl _, by go_num, HBk.out, Below.refl _ _⟩
        case round =>
          clear HBk
          obtain ⟨j, hj, rfl, hzj, hbj⟩ := hrel
          have HZj := Lib.hid hzj
          have HBj := Lib.hid hbj
          clear hzj hbj
          by_cases hj0 : j = 0
          · have e0 : (j : Int) - 1 = -1 := by omega
            rw [e0]
            subst hj0
            obtain ⟨Ab, cb, rfl, hib⟩ := HZj.out.form
            have hlb : (l.drop 0).reverse.length = n := by have := HL.out; simp; omega
            rw [hlb]
            have HIb := Lib.hid hib
            have HPb : Hid (Fa.raised (l.drop 0).reverse = P) := by rw [List.drop_zero, ← raised_back]; exact HP.out
            have HLb := Lib.hid hlb
            replace HT := Lib.hid (HT.out.below HBj.out)
            replace HB := Lib.hid (HB.out.trans (HBj.out.mono HB.out.size))
            clear hib hlb HZj HBj e0
            have C1 := Lib.hid (raised_v (cp := cp) HL.out hn100 HP.out (HA.out.below HB.out))
            go_wp2_with fail
            refine C1.out.mono ?_
            rintro e W3 ⟨A3, m3, c3, rfl, h3, hb3⟩
            have H3 := Lib.hid h3
            replace HB := Lib.hid (HB.out.trans (hb3.mono HB.out.size))
            replace HT := Lib.hid (HT.out.below hb3)
            replace HIb := Lib.hid (HIb.out.below hb3)
            clear h3 hb3 C1
            have C2 := Lib.hid (raised_v (cp := ct) HTL.out hn100 HTP.out HT.out)
            go_wp2_with fail
            refine C2.out.mono ?_
            rintro e W4 ⟨A4, m4, c4, rfl, h4, hb4⟩
            have H4 := Lib.hid h4
            replace H3 := Lib.hid (H3.out.below hb4)
            replace HB := Lib.hid (HB.out.trans (hb4.mono HB.out.size))
            replace HIb := Lib.hid (HIb.out.below hb4)
            clear h4 hb4 C2 HT
            go_wp2_with fail
            refine (same_l H3.out H4.out hpl).mono ?_
            rintro e W5 ⟨rfl, hb5⟩
            replace HB := Lib.hid (HB.out.trans (hb5.mono HB.out.size))
            replace HIb := Lib.hid (HIb.out.below hb5)
            clear hb5 H3 H4
            have C3 := Lib.hid (raised_v (cp := cp) HL.out hn100 HP.out (HA.out.below HB.out))
            go_wp2_with fail
            refine C3.out.mono ?_
            rintro e W6 ⟨A6, m6, c6, rfl, h6, hb6⟩
            have H6 := Lib.hid h6
            replace HB := Lib.hid (HB.out.trans (hb6.mono HB.out.size))
            replace HIb := Lib.hid (HIb.out.below hb6)
            clear h6 hb6 C3
            have C4 := Lib.hid (raised_v (cp := cb) HLb.out hn100 HPb.out HIb.out)
            go_wp2_with fail
            refine C4.out.mono ?_
            rintro e W7 ⟨A7, m7, c7, rfl, h7, hb7⟩
            have H7 := Lib.hid h7
            replace H6 := Lib.hid (H6.out.below hb7)
            replace HB := Lib.hid (HB.out.trans (hb7.mono HB.out.size))
            clear h7 hb7 C4 HIb
            go_wp2_with fail
            refine (same_l H6.out H7.out hpl).mono ?_
            rintro e W8 ⟨rfl, hb8⟩
            replace HB := Lib.hid (HB.out.trans (hb8.mono HB.out.size))
            clear hb8 H6 H7
            go_wp2_with fail
            go_ret
            exact ⟨rfl, HB.out⟩
          · obtain ⟨j', rfl⟩ : ∃ j', j = j' + 1 := ⟨j - 1, by omega⟩
            have e0 : ((j' + 1 : Nat) : Int) - 1 = (j' : Int) := by omega
            rw [e0]
            obtain ⟨x, hx⟩ : ∃ x, l[j']? = some x := ⟨l[j']'(by rw [HL.out]; omega), List.getElem?_eq_getElem _⟩
            obtain ⟨g, o, e1, hc0⟩ := (HA.out.below (HB.out.trans (HBj.out.mono HB.out.size))) j' (by rw [HL.out]; omega)
            obtain rfl : ad = ⟨g, o, none⟩ := by injection e1
            have hx2 : l.getD j' 0 = x := by rw [List.getD_eq_getElem?_getD, hx]; rfl
            rw [hx2] at hc0
            have HS := Lib.hid (back_step hx)
            have hbl : (l.drop (j' + 1)).reverse.length ≤ 1000 := by have := HL.out; simp; omega
            have hjn : (j' : Int) < n := by omega
            have hbs := HBj.out.size
            obtain ⟨b, hb⟩ : ∃ b, (l.drop (j' + 1)).reverse = b := ⟨_, rfl⟩
            rw [hb] at HZj HS hbl
            clear hx hx2 hb hj0 e0
            go_wp2_with (first | (at_builtin; refine app_z rfl _ _ rfl W2.heap.size _ b rfl (HZj.out.alloc _) wr.heap.size 1 x rfl (range_z wr x) (by omega) (by simp; omega) ?_) | fail)
            intro v5 W5 h5 hb5
            have HZ5 := Lib.hid h5
            replace HBj := Lib.hid (((HBj.out.alloc HBj.out.size (.cells #[.int .i64 x] 3))).trans hb5)
            clear h5 hb5 HZj hc0
            go_wp2_with fail
            go_roundw
            case rel => exact ⟨j', by omega, by go_num, by rw [HS.out]; exact HZ5.out, HBj.out⟩
            case measure => (simp [intOf]; try omega)
end Fw
end Go.Proofs.Ytddkmaplficofaa
