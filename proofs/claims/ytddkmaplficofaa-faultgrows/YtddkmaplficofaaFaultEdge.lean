/- fault.Edge: the places of faults that come, by a range over a function. -/
import Derived.Test.YtddkmaplficofaaFaultSeq
namespace Go.Proofs.Ytddkmaplficofaa
namespace Fw
open Go.RowKit Go.Shelf Fa Lk

/-- Bools that lie in a slice. -/
def Bls (W : World) (A : Option Addr) (L : List Bool) : Prop := ∀ (i : Nat) (b : Bool), L[i]? = some b → ∃ g o, A = some ⟨g, o, none⟩ ∧ g < W.heap.size ∧ W.cell? ⟨g, o + i, none⟩ = some (.bool b)
theorem Bls.below {W W' : World} {A : Option Addr} {L : List Bool} (h : Bls W A L) (hb : Below W.heap.size W W') : Bls W' A L := fun i b hi => by
  obtain ⟨g, o, e, hg, hr⟩ := h i b hi
  exact ⟨g, o, e, Nat.lt_of_lt_of_le hg hb.size, (hb.cell (p := ⟨g, o + i, none⟩) hg).trans hr⟩

set_option maxHeartbeats 1600000 in
/-- What Edge asks of a place. -/
theorem edge1_c (i : Nat) (b : Bool) (B : Nat) (A : Option Addr) (n cp : Nat) (L : List Bool) (hn : L.length = n) (w : World) (hB : BoxV w B 34 #[.slice A n cp]) (hA : Bls w A L) :
    Calls Try.prog 28 #[.int .i64 i, .bool b, .pointer (some ⟨B, 0, none⟩)] w fun e w' => e = .returned (.bool (b && !L.getD i false)) ∧ w = w' := by
  have c0 := hB.cell 0
  simp only [List.getElem?_toArray, List.getElem?_cons_zero] at c0
  clear hB
  cases b with
  | false =>
    clear hA
    go_enter Try.func28, Try.ntmps28
    go_wp2_with fail
    go_ret
    exact ⟨rfl, rfl⟩
  | true =>
    by_cases hlt : i < n
    · obtain ⟨x, hx⟩ : ∃ x, L[i]? = some x := ⟨L[i]'(by omega), List.getElem?_eq_getElem _⟩
      obtain ⟨g, o, rfl, _, hc⟩ := hA i x hx
      have HX : Hid (L.getD i false = x) := by show _ = _; rw [List.getD_eq_getElem?_getD, hx]; rfl
      have d : decide ((n : Int) ≤ (i : Int)) = false := decide_eq_false (by omega)
      have d2 : (i : Int) < n := by omega
      clear hA hx
      go_enter Try.func28, Try.ntmps28
      go_wp2_with fail
      go_ret
      exact ⟨ret_b (by rw [HX.out]; simp; intro h; omega), rfl⟩
    · have HX : Hid (L.getD i false = false) := by show _ = _; rw [List.getD_eq_getElem?_getD, List.getElem?_eq_none (by omega)]; rfl
      have d : decide ((n : Int) ≤ (i : Int)) = true := decide_eq_true (by omega)
      clear hA
      go_enter Try.func28, Try.ntmps28
      go_wp2_with fail
      go_ret
      exact ⟨ret_b (by rw [HX.out]; simp), rfl⟩
abbrev ev (B : Nat) : Value := .func (.func 28) #[] #[.pointer (some ⟨B, 0, none⟩)]
theorem whereb_c (A : Option Addr) (n cp : Nat) (B : Nat) (w : World) :
    Calls Try.prog 27 #[.slice A n cp, ev B] w fun e w' => e = .returned (.func (.func 34) #[] #[.pointer (some ⟨w.heap.size, 0, none⟩), .pointer (some ⟨w.heap.size + 1, 0, none⟩)]) ∧ (w.alloc (.cells #[.slice A n cp] 34)).alloc (.cells #[ev B] 51) = w' := by
  go_enter Try.func27, Try.ntmps27
  go_wp2
  go_ret
  exact ⟨rfl, rfl⟩

/-- The boxes of a walk through bools, and both lists below n₀. -/
structure EdgeBox (n₀ B1 B2 Bw : Nat) (W : World) (A : Option Addr) (n cp : Nat) (L : List Bool) (A' : Option Addr) (n' cp' : Nat) (L' : List Bool) : Prop where
  b1 : BoxV W B1 34 #[.slice A n cp]
  b2 : BoxV W B2 51 #[ev Bw]
  bw : BoxV W Bw 34 #[.slice A' n' cp']
  le : n₀ ≤ W.heap.size
  now : ∀ (i : Nat) (b : Bool), L[i]? = some b → ∃ g o, A = some ⟨g, o, none⟩ ∧ g < n₀ ∧ W.cell? ⟨g, o + i, none⟩ = some (.bool b)
  was : ∀ (i : Nat) (b : Bool), L'[i]? = some b → ∃ g o, A' = some ⟨g, o, none⟩ ∧ g < n₀ ∧ W.cell? ⟨g, o + i, none⟩ = some (.bool b)
theorem EdgeBox.kl {n₀ B1 B2 Bw : Nat} {W W' : World} {A A' : Option Addr} {n cp n' cp' : Nat} {L L' : List Bool} (h : EdgeBox n₀ B1 B2 Bw W A n cp L A' n' cp' L') (k : Kl n₀ [B1, B2, Bw] W W') : EdgeBox n₀ B1 B2 Bw W' A n cp L A' n' cp' L' :=
  ⟨(k.2 B1 (by simp)).trans h.b1, (k.2 B2 (by simp)).trans h.b2, (k.2 Bw (by simp)).trans h.bw, Nat.le_trans h.le k.1.size, fun i b hi => by
    obtain ⟨g, o, e, hg, hr⟩ := h.now i b hi
    exact ⟨g, o, e, hg, (k.1.cell (p := ⟨g, o + i, none⟩) hg).trans hr⟩, fun i b hi => by
    obtain ⟨g, o, e, hg, hr⟩ := h.was i b hi
    exact ⟨g, o, e, hg, (k.1.cell (p := ⟨g, o + i, none⟩) hg).trans hr⟩⟩
theorem EdgeBox.bls {n₀ B1 B2 Bw : Nat} {W : World} {A A' : Option Addr} {n cp n' cp' : Nat} {L L' : List Bool} (h : EdgeBox n₀ B1 B2 Bw W A n cp L A' n' cp' L') : Bls W A' L' := fun i b hi => by
  obtain ⟨g, o, e, hg, hr⟩ := h.was i b hi
  exact ⟨g, o, e, Nat.lt_of_lt_of_le hg h.le, hr⟩

attribute [local go_sem] Oper.semAt_some
set_option maxRecDepth 100000 in
set_option maxHeartbeats 4000000 in
theorem edge_in (d l n₀ B1 B2 Bw : Nat) (A : Option Addr) (n cp : Nat) (L : List Bool) (A' : Option Addr) (n' cp' : Nat) (L' : List Bool) (hn : L.length = n) (hn' : L'.length = n') (hl : n ≤ 1000) (J Jx : List Nat → World → Prop) (W : World)
    (hY : ∀ pre x W1, J pre W1 → pre.length < n → YieldAt Fence.wide (d - 1) Try.prog l (encN x) W1 fun e W' =>
      (e = .returned (.bool true) ∧ J (pre ++ [x]) W' ∧ Kl n₀ [B1, B2, Bw] W1 W') ∨ (e = .returned (.bool false) ∧ Jx (pre ++ [x]) W'))
    (hT : EdgeBox n₀ B1 B2 Bw W A n cp L A' n' cp' L') (h0 : J [] W) :
    CallsIn Fence.wide d Try.prog 34 #[.func (.yield l) #[] #[], .pointer (some ⟨B1, 0, none⟩), .pointer (some ⟨B2, 0, none⟩)] W fun e W' => (∃ v, e = .returned v) ∧
      ((∃ zs, zs = ups (edgeB L' L) n ∧ J zs W') ∨ (∃ pre, True ∧ Jx pre W')) := by
  have HY := Lib.hid hY
  have HT := Lib.hid hT
  have HN := Lib.hid hn
  have HN' := Lib.hid hn'
  have cx := hT.b1.cell 0
  simp only [List.getElem?_toArray, List.getElem?_cons_zero] at cx
  clear hY hT hn hn'
  refine callsIn_of_wp Try.func34 rfl trivial ?_ rfl
  simp only [Try.ntmps34, List.size_toArray, List.length_cons, List.length_nil, Nat.reduceAdd, Nat.reduceSub, Array.replicate_succ, Array.replicate_zero, List.push_toArray, List.append_toArray, List.nil_append, List.cons_append]
  gi_wp2
  gi_loopw [8] (fun i wr => ∃ m : Nat, m ≤ n ∧ i = .int .i64 m ∧ J (ups (edgeB L' L) m) wr ∧ Kl n₀ [B1, B2, Bw] W wr) (fun i _ => n - (intOf i).toNat)
  case atStart => exact ⟨0, Nat.zero_le _, rfl, h0, Kl.refl _ _ _⟩
  case round =>
    obtain ⟨m, hm, rfl, hJs, hKl⟩ := hrel
    clear cx
    have HT2 := Lib.hid (HT.out.kl hKl)
    have HKl := Lib.hid hKl
    have HJs := Lib.hid hJs
    clear hKl hJs h0
    by_cases hlt : m < n
    · have hlt2 : (m : Int) < n := by omega
      obtain ⟨b, hb⟩ : ∃ b, L[m]? = some b := ⟨L[m]'(by rw [HN.out]; exact hlt), List.getElem?_eq_getElem _⟩
      obtain ⟨g, o, rfl, hg, hrg⟩ := HT2.out.now m b hb
      have HLen : Hid ((ups (edgeB L' L) m).length < n) := Nat.lt_of_le_of_lt (ups_len _ _) hlt
      have HQ : Hid (edgeB L' L m = (b && !L'.getD m false)) := by show _ = _; unfold edgeB; rw [List.getD_eq_getElem?_getD (l := L), hb]; rfl
      clear hb
      have f2 : wr.cell? ⟨B2, 0, none⟩ = some (ev Bw) := by rw [HT2.out.b2.cell 0]; rfl
      have C : Hid (Calls Try.prog 28 #[.int .i64 m, .bool b, .pointer (some ⟨Bw, 0, none⟩)] wr fun e w' => e = .returned (.bool (b && !L'.getD m false)) ∧ wr = w') := edge1_c m b Bw A' n' cp' L' HN'.out wr HT2.out.bw HT2.out.bls
      cases hq : (b && !L'.getD m false) with
      | true =>
        rw [hq] at C HQ
        have HS : Hid (ups (edgeB L' L) (m + 1) = ups (edgeB L' L) m ++ [m]) := ups_yes HQ.out
        clear hq HQ
        obtain ⟨fn, tmps, assign, body, hy, hR⟩ := HY.out (ups (edgeB L' L) m) m wr HJs.out HLen.out
        simp only [encN] at hy
        have HRd := Lib.hid hR
        clear hR
        gi_wp2_with fail
        refine ⟨trivial, fun e => (by cases e), (callsIn_wide.2 C.out).mono ?_⟩
        rintro e W2 ⟨rfl, rfl⟩
        clear C
        gi_wp2_with fail
        refine ⟨fun e => (by cases e), HRd.out.mono ?_⟩
        rintro e W3 (⟨rfl, hJ3, hk3⟩ | ⟨rfl, hJx3⟩)
        · have HK4 := Lib.hid (HKl.out.trans hk3)
          have HJ4 := Lib.hid hJ3
          clear hk3 hJ3 hy hrg f2
          gi_wp2
          go_roundw
          case rel => exact ⟨m + 1, by omega, by go_num, by rw [HS.out]; exact HJ4.out, HK4.out⟩
          case measure => simp [intOf]; omega
        · have HJ4 := Lib.hid hJx3
          clear hJx3 hy hrg f2
          gi_wp2
          refine bodyPost_ret (results_none rfl _ _ _) rfl ?_
          exact ⟨⟨_, rfl⟩, .inr ⟨_, trivial, HJ4.out⟩⟩
      | false =>
        rw [hq] at C HQ
        have HS : Hid (ups (edgeB L' L) (m + 1) = ups (edgeB L' L) m) := ups_no HQ.out
        clear hq HQ
        gi_wp2_with fail
        refine ⟨trivial, fun e => (by cases e), (callsIn_wide.2 C.out).mono ?_⟩
        rintro e W2 ⟨rfl, rfl⟩
        clear C
        have hfn : ∀ f, Fence.wide.fn f := fun _ => trivial
        gi_wp2
        go_roundw
        case rel => exact ⟨m + 1, by omega, by go_num, by rw [HS.out]; exact HJs.out, HKl.out⟩
        case measure => simp [intOf]; omega
    · obtain rfl : m = n := by omega
      gi_wp2
      go_end0
      exact ⟨⟨_, rfl⟩, .inl ⟨_, rfl, HJs.out⟩⟩

abbrev fi (n : Nat) : List Value := [.int .i64 n]
abbrev Ints (W : World) (base : Nat) (v : Value) (l : List Nat) : Prop := Rw 3 1 fi W base v l
theorem fi_len (n : Nat) : (fi n).length = 1 := rfl
theorem fi_one (n : Nat) : ∀ u ∈ fi n, u.oneCell' = true := by
  intro u hu
  obtain rfl : u = .int .i64 n := by simpa using hu
  rfl
theorem info_i1 : (Try.prog.info? 3).map (fun i => (i.zero, i.size, i.bytes)) = some (some (.int .i64 0), 1, 8) := by kernel_rfl

set_option maxRecDepth 100000 in
set_option maxHeartbeats 8000000 in
/-- **Edge**. -/
theorem edge_c (Aw An : Option Addr) (nw cw nn cn : Nat) (was now : List Bool) (hw : was.length = nw) (hn : now.length = nn) (hl : nn ≤ 1000) (w : World) (hW : Bls w Aw was) (hA : Bls w An now) :
    Calls Try.prog 16 #[.slice Aw nw cw, .slice An nn cn] w fun e w' => ∃ v, e = .returned v ∧ Ints w' w.heap.size v (edges was now) ∧ Below w.heap.size w w' := by
  have hfn : ∀ f, Fence.wide.fn f := fun _ => trivial
  refine (callsIn_wide (n := 9)).1 ?_
  refine callsIn_of_wp_marks Try.func16 rfl trivial ?_ rfl
  simp only [Try.ntmps16, List.size_toArray, List.length_cons, List.length_nil, Nat.reduceAdd, Nat.reduceSub, Array.replicate_succ, Array.replicate_zero, List.push_toArray, List.append_toArray, List.nil_append, List.cons_append]
  gi_wp2_with fail
  refine (callsIn_wide.2 (whereb_c An nn cn w.heap.size _)).mono ?_
  rintro e w' ⟨rfl, rfl⟩
  gi_wp2_with fail
  have b3 := BoxV.new (((w.alloc (.cells #[.slice Aw nw cw] 34)).alloc (.cells #[.slice none 0 0] 22)).alloc (.cells #[.slice An nn cn] 34)) 51 #[ev w.heap.size]
  have b2 := (BoxV.new ((w.alloc (.cells #[.slice Aw nw cw] 34)).alloc (.cells #[.slice none 0 0] 22)) 34 #[.slice An nn cn]).alloc (.cells #[ev w.heap.size] 51)
  have b1 := ((BoxV.new (w.alloc (.cells #[.slice Aw nw cw] 34)) 22 #[.slice none 0 0]).alloc (.cells #[.slice An nn cn] 34)).alloc (.cells #[ev w.heap.size] 51)
  have b0 := (((BoxV.new w 34 #[.slice Aw nw cw]).alloc (.cells #[.slice none 0 0] 22)).alloc (.cells #[.slice An nn cn] 34)).alloc (.cells #[ev w.heap.size] 51)
  have hB0 := ((((Below.refl w.heap.size w).alloc (Nat.le_refl _) (.cells #[.slice Aw nw cw] 34)).alloc (by simp) (.cells #[.slice none 0 0] 22)).alloc (by simp; omega) (.cells #[.slice An nn cn] 34)).alloc (by simp; omega) (.cells #[ev w.heap.size] 51)
  have hsz : ((((w.alloc (.cells #[.slice Aw nw cw] 34)).alloc (.cells #[.slice none 0 0] 22)).alloc (.cells #[.slice An nn cn] 34)).alloc (.cells #[ev w.heap.size] 51)).heap.size = w.heap.size + 4 := by simp
  simp only [World.size_alloc] at b3 b2 b1
  generalize (((w.alloc (.cells #[.slice Aw nw cw] 34)).alloc (.cells #[.slice none 0 0] 22)).alloc (.cells #[.slice An nn cn] 34)).alloc (.cells #[ev w.heap.size] 51) = W0 at b3 b2 b1 b0 hB0 hsz ⊢
  have hT : EdgeBox w.heap.size (w.heap.size + 1 + 1) (w.heap.size + 1 + 1 + 1) w.heap.size W0 An nn cn now Aw nw cw was :=
    ⟨b2, b3, b0, by omega, fun i b hi => by
      obtain ⟨g, o, e, hg, hr⟩ := hA i b hi
      exact ⟨g, o, e, hg, (hB0.cell (p := ⟨g, o + i, none⟩) hg).trans hr⟩, fun i b hi => by
      obtain ⟨g, o, e, hg, hr⟩ := hW i b hi
      exact ⟨g, o, e, hg, (hB0.cell (p := ⟨g, o + i, none⟩) hg).trans hr⟩⟩
  have hb : Boxed W0 (w.heap.size + 1) 22 (.slice none 0 0) := b1
  have HN := Lib.hid hn
  have HNw := Lib.hid hw
  have HLW : Hid (∀ b ∈ [w.heap.size + 1 + 1, w.heap.size + 1 + 1 + 1, w.heap.size], b < w.heap.size + 4 ∧ b ≠ w.heap.size + 1) := by
    intro b hb
    simp only [List.mem_cons, List.not_mem_nil, or_false] at hb
    omega
  clear hW hA hn hw b0 b1 b2 b3
  have hseq : SeqStopsK Fence.wide 8 Try.prog 34 #[.pointer (some ⟨w.heap.size + 1 + 1, 0, none⟩), .pointer (some ⟨w.heap.size + 1 + 1 + 1, 0, none⟩)] encN (Kl w.heap.size [w.heap.size + 1 + 1, w.heap.size + 1 + 1 + 1, w.heap.size]) (fun zs => zs = ups (edgeB was now) nn) (fun _ => True) nn W0 := fun l J Jx W hW _ _ hY h0 =>
    edge_in 8 l w.heap.size (w.heap.size + 1 + 1) (w.heap.size + 1 + 1 + 1) w.heap.size An nn cn now Aw nw cw was HN.out HNw.out hl J Jx W hY (hT.kl ⟨hW.mono (by omega), fun b hb => hW.block b (by have := HLW.out b hb; omega)⟩) h0
  refine rangeU (by omega) (gf := 34) (lb := #[.pointer (some ⟨w.heap.size + 1 + 1, 0, none⟩), .pointer (some ⟨w.heap.size + 1 + 1 + 1, 0, none⟩)]) rfl (enters_of Try.func34 (by kernel_rfl) rfl)
    hseq Kl.trans (fun W => Kl.refl _ _ W) (Kl.putObj (by omega) (by intro b hb; have := HLW.out b hb; omega)) (fun _ => rfl)
    (fun pre W => (∃ v, Boxed W (w.heap.size + 1) 22 v ∧ W.ownsRow (w.heap.size + 4) 3 1 v pre.length (pre.flatMap fi) ∧ True) ∧ (Below w.heap.size w W ∧ w.heap.size + 4 ≤ W.heap.size))
    (fun _ _ _ => False)
    (OwnFrom.and (Own.from (holdsRow_own (w.heap.size + 4) (w.heap.size + 1) 22 3 1 (fun pre : List Nat => pre.length) (fun pre => pre.flatMap fi) (fun _ _ => True)) _) (OwnFrom.and (ownFrom_below (Nat.le_refl _) (by omega)) (Lk.ownFrom_size _ _)))
    (fun _ _ _ _ _ hs _ _ => hs)
    ⟨⟨_, hb, World.ownsRow_nil _ _ _ _, trivial⟩, hB0, by omega⟩
    10 6 (fun x => .int .i64 x) ?assign ?body ?done ?stop
  case assign =>
    rintro l x W K hK
    have HK := Lib.hid hK
    clear hK
    simp only [encN, frameU] at HK ⊢
    gi_wp2
    exact HK.out
  case body =>
    rintro l pre x W ⟨⟨v, hv, hrow, _⟩, hB1, hsW⟩ hlt
    have c0 := hv.cell
    have HV := Lib.hid hv
    have HRow := Lib.hid hrow
    have HB1 := Lib.hid hB1
    clear hv hrow hB1 hb hT hseq
    obtain ⟨i0, hi, hz0, hz1, hz2⟩ := info_parts info_i1
    simp only [frameU, List.setIfInBounds_toArray, List.set_cons_succ, List.set_cons_zero]
    have hfr : ∀ g, (Fence.wide.inRound l).fn g := fun _ => trivial
    gi_wp2_with (first
      | (refine wpListIn_append_own _ rfl _ _ 22 rfl (w.heap.size + 4) 3 i0 _ 1 8 Try.underlying22 hi hz0 hz1 hz2 rfl (by omega) v pre.length (pre.flatMap fi) rfl (HRow.out.alloc _) ⟨W.heap.size, 0, none⟩ 1 1 (fi x) rfl rfl ?c1 (fi_one x) ?c2 ?c3 ?c4 ?_)
      | fail)
    case c1 =>
      intro j u hu
      rw [Addr.add_mid, Nat.zero_add]
      exact (Joins.cell_of_block (heap_alloc_last W _) j).trans (by simpa using hu)
    case c2 => unfold maxLen; omega
    case c3 => omega
    case c4 => simp; omega
    intro v' w1 hown hgrow _
    obtain ⟨g', cap', rfl⟩ := ownsRow_succ hown
    have hown2 : Rw 3 1 fi w1 (w.heap.size + 4) (.slice (some ⟨g', 0, none⟩) (pre.length + 1) cap') (pre ++ [x]) := by
      show w1.ownsRow (w.heap.size + 4) 3 1 _ (pre ++ [x]).length ((pre ++ [x]).flatMap fi)
      rw [List.flatMap_append, List.length_append]
      simpa using hown
    have HA := Lib.hid (Boxed.appended (n₀ := w.heap.size + 1) HV.out (by decide) (Rw.base_le (f := fi) (l := pre) HRow.out (by omega)) (by omega) (Nat.le_refl _) (Rw.base_le hown2 (by omega)) hgrow)
    have HO := Lib.hid (hown2.kept (grownBy_setCell' w1 (w.heap.size + 1) (.slice (some ⟨g', 0, none⟩) (pre.length + 1) cap')) (.inr (HA.out.1.not_row (by decide) hown2).symm))
    have hk : ∀ b, b < w.heap.size + 4 → w1.heap[b]? = W.heap[b]? := fun b hb => by
      refine (hgrow.block b (by simp; omega) fun e => ?_).trans (Below.heap_alloc _ _ _ (by omega))
      have := World.ownsRow.lt HRow.out b e.symm
      omega
    have HK := Lib.hid hk
    have HB2 := Lib.hid ((HB1.out.trans (HA.out.2.2.2.2.mono (by omega))))
    have c1 := HA.out.1.cell
    have c2 := HA.out.1.frozen
    have hs1 := HB2.out.size
    clear hown hgrow hown2 hk c0
    gi_wp2_with fail
    refine ⟨HA.out.2.2.2.1.from _, ⟨HA.out.2.2.2.2.mono (by omega), fun b hb => ?_⟩, ⟨_, HA.out.2.1, HO.out, trivial⟩, HB2.out, by have := HA.out.2.2.2.2.size; omega⟩
    have := HLW.out b hb
    exact (Below.heap_setCell _ _ _ _ (by simp; omega)).trans (HK.out b this.1)
  case done =>
    rintro D zs W hD rfl ⟨⟨v, hv, hrow, _⟩, hB1, hsW⟩ hK
    have c0 := hv.cell
    have HE : Hid (Ints W w.heap.size v (edges was now)) := by
      have := Rw.base_le (f := fi) (l := ups (edgeB was now) nn) hrow (base' := w.heap.size) (by omega)
      unfold edges
      rw [HN.out]
      exact this
    have HB1 := Lib.hid hB1
    clear hv hrow hB1 hb hT hseq
    gi_wp2
    refine ⟨by simp, .inl ⟨_, _, rfl, run_takeDeferred hK, ?_⟩⟩
    refine ⟨_, results_tmp rfl _ _ _, ?_⟩
    refine ⟨v, rfl, ?_, HB1.out.trans (belowK_b (w := w) (Nat.le_refl _) W D _ _ (by omega) hK rfl rfl)⟩
    exact ownsRow_putObj HE.out _ hK rfl
  case stop =>
    rintro D c pre W _ _ h _
    exact h.elim
end Fw
end Go.Proofs.Ytddkmaplficofaa
