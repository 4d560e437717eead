/- Way: the holders, frame by frame, by a range over a function; a list that append makes. -/
import Derived.Test.YtgpgdmebojmobaaArbiterNext
import Derived.Test.YtgpgdmebojmobaaZsKit
namespace Go.Proofs.Ytgpgdmebojmobaa
namespace Aw
open Go.RowKit Go.Shelf Lk Zk

attribute [local go_sem] Oper.semAt_some

/-- Frames of two that are well or not, as they came in; and bools. -/
def Prs (W : World) (A : Option Addr) (L : List (Bool × Bool)) : Prop := ∀ i p, L[i]? = some p → ∃ g o, A = some ⟨g, o, none⟩ ∧ g < W.heap.size ∧ W.rangeAt g (o + i * 2) (wc p).toList
theorem Prs.below {W W' : World} {A : Option Addr} {L : List (Bool × Bool)} (h : Prs W A L) (hb : Below W.heap.size W W') : Prs W' A L := fun i p hi => by
  obtain ⟨g, o, e, hg, hr⟩ := h i p hi
  exact ⟨g, o, e, Nat.lt_of_lt_of_le hg hb.size, fun j v hv => (hb.cell (p := ⟨g, o + i * 2 + j, none⟩) hg).trans (hr j v hv)⟩
def Bls (W : World) (A : Option Addr) (L : List Bool) : Prop := ∀ (i : Nat) (b : Bool), L[i]? = some b → ∃ g o, A = some ⟨g, o, none⟩ ∧ g < W.heap.size ∧ W.cell? ⟨g, o + i, none⟩ = some (.bool b)
theorem Bls.below {W W' : World} {A : Option Addr} {L : List Bool} (h : Bls W A L) (hb : Below W.heap.size W W') : Bls W' A L := fun i b hi => by
  obtain ⟨g, o, e, hg, hr⟩ := h i b hi
  exact ⟨g, o, e, Nat.lt_of_lt_of_le hg hb.size, (hb.cell (p := ⟨g, o + i, none⟩) hg).trans hr⟩
theorem prs_cells {W : World} {g o : Nat} {p : Bool × Bool} (h : W.rangeAt g o (wc p).toList) : W.cell? ⟨g, o, none⟩ = some (.bool p.1) ∧ W.cell? ⟨g, o + 1, none⟩ = some (.bool p.2) :=
  ⟨h 0 _ rfl, h 1 _ rfl⟩

theorem holders_c (h : Int) (A : Option Addr) (n cp : Nat) (B : Option Addr) (m cq : Nat) (w : World) :
    Calls Try.prog 14 #[.int .i64 h, .slice A n cp, .slice B m cq] w fun e w' => e = .returned (.func (.func 16) #[] #[.pointer (some ⟨w.heap.size, 0, none⟩), .pointer (some ⟨w.heap.size + 1, 0, none⟩), .pointer (some ⟨w.heap.size + 2, 0, none⟩)]) ∧
      ((w.alloc (.cells #[.int .i64 h] 3)).alloc (.cells #[.slice A n cp] 26)).alloc (.cells #[.slice B m cq] 27) = w' := by
  go_enter Try.func14, Try.ntmps14
  go_wp2
  go_ret
  exact ⟨rfl, rfl⟩

/-- The boxes of a walk through frames, and what is so in each, below n₀. -/
structure WayBox (n₀ B1 B2 B3 : Nat) (W : World) (h : Int) (A : Option Addr) (n cp : Nat) (L : List (Bool × Bool)) (B : Option Addr) (m cq : Nat) (R : List Bool) : Prop where
  b1 : BoxV W B1 3 #[.int .i64 h]
  b2 : BoxV W B2 26 #[.slice A n cp]
  b3 : BoxV W B3 27 #[.slice B m cq]
  le : n₀ ≤ W.heap.size
  ws : ∀ i p, L[i]? = some p → ∃ g o, A = some ⟨g, o, none⟩ ∧ g < n₀ ∧ W.rangeAt g (o + i * 2) (wc p).toList
  rs : ∀ (i : Nat) (b : Bool), R[i]? = some b → ∃ g o, B = some ⟨g, o, none⟩ ∧ g < n₀ ∧ W.cell? ⟨g, o + i, none⟩ = some (.bool b)
theorem WayBox.kl {n₀ B1 B2 B3 : Nat} {W W' : World} {h : Int} {A B : Option Addr} {n cp m cq : Nat} {L : List (Bool × Bool)} {R : List Bool} (x : WayBox n₀ B1 B2 B3 W h A n cp L B m cq R) (k : Kl n₀ [B1, B2, B3] W W') : WayBox n₀ B1 B2 B3 W' h A n cp L B m cq R :=
  ⟨(k.2 B1 (by simp)).trans x.b1, (k.2 B2 (by simp)).trans x.b2, (k.2 B3 (by simp)).trans x.b3, Nat.le_trans x.le k.1.size, fun i p hi => by
    obtain ⟨g, o, e, hg, hr⟩ := x.ws i p hi
    exact ⟨g, o, e, hg, fun j v hv => (k.1.cell (p := ⟨g, o + i * 2 + j, none⟩) hg).trans (hr j v hv)⟩, fun i b hi => by
    obtain ⟨g, o, e, hg, hr⟩ := x.rs i b hi
    exact ⟨g, o, e, hg, (k.1.cell (p := ⟨g, o + i, none⟩) hg).trans hr⟩⟩

set_option maxRecDepth 100000 in
set_option maxHeartbeats 8000000 in
theorem holders_in (d l n₀ B1 B2 B3 : Nat) (h : Int) (A : Option Addr) (n cp : Nat) (L : List (Bool × Bool)) (B : Option Addr) (nr cq : Nat) (R : List Bool) (hn : L.length = n) (hr : R.length = nr) (hl : n ≤ 1000) (J Jx : List Int → World → Prop) (W : World)
    (hJ : AbidesFrom W.heap.size J)
    (hY : ∀ pre x W1, J pre W1 → pre.length < n → YieldAt Fence.wide (d - 1) Try.prog l (encZ x) W1 fun e W' =>
      (e = .returned (.bool true) ∧ J (pre ++ [x]) W' ∧ Kl n₀ [B1, B2, B3] W1 W') ∨ (e = .returned (.bool false) ∧ Jx (pre ++ [x]) W'))
    (hT : WayBox n₀ B1 B2 B3 W h A n cp L B nr cq R) (h0 : J [] W) :
    CallsIn Fence.wide d Try.prog 16 #[.func (.yield l) #[] #[], .pointer (some ⟨B1, 0, none⟩), .pointer (some ⟨B2, 0, none⟩), .pointer (some ⟨B3, 0, none⟩)] W fun e W' => (∃ v, e = .returned v) ∧
      ((∃ zs, zs = Av.way h L R n ∧ J zs W') ∨ (∃ pre, True ∧ Jx pre W')) := by
  have HJ := Lib.hid hJ
  have HY := Lib.hid hY
  have HT := Lib.hid hT
  have HN := Lib.hid hn
  have HNr := Lib.hid hr
  have cx := hT.b1.cell 0
  have cy := hT.b2.cell 0
  simp only [List.getElem?_toArray, List.getElem?_cons_zero] at cx cy
  clear hJ hY hT hn hr
  refine callsIn_of_wp Try.func16 rfl trivial ?_ rfl
  simp only [Try.ntmps16, List.size_toArray, List.length_cons, List.length_nil, Nat.reduceAdd, Nat.reduceSub, Array.replicate_succ, Array.replicate_zero, List.push_toArray, List.append_toArray, List.nil_append, List.cons_append]
  gi_wp2
  gi_loopw [5, 12] (fun q i wr => ∃ m : Nat, m ≤ n ∧ i = .int .i64 m ∧ q = .int .i64 (Av.hold h L R m) ∧ J (Av.way h L R m) wr ∧ Kl n₀ [B1, B2, B3] W wr) (fun _ i _ => n - (intOf i).toNat)
  case atStart => exact ⟨0, Nat.zero_le _, rfl, rfl, h0, Kl.refl _ _ _⟩
  case round =>
    obtain ⟨m, hm, rfl, rfl, hJs, hKl⟩ := hrel
    clear cx cy
    have HT2 := Lib.hid (HT.out.kl hKl)
    have HKl := Lib.hid hKl
    have HJs := Lib.hid hJs
    clear hKl hJs h0
    by_cases hlt : m < n
    · have hlt2 : (m : Int) < n := by omega
      obtain ⟨⟨a, b⟩, hp⟩ : ∃ p, L[m]? = some p := ⟨L[m]'(by rw [HN.out]; exact hlt), List.getElem?_eq_getElem _⟩
      obtain ⟨g, o, rfl, hg, hrg⟩ := HT2.out.ws m (a, b) hp
      have HLen : Hid ((Av.way h L R m).length < n) := Lib.hid (by rw [Av.way_len]; exact hlt)
      obtain ⟨rv, hrv⟩ : ∃ rv, R.getD m false = rv := ⟨_, rfl⟩
      obtain ⟨q, hq⟩ : ∃ q, Av.hold h L R m = q := ⟨_, rfl⟩
      obtain ⟨u, hu⟩ : ∃ u, Av.nx q a b rv = u := ⟨_, rfl⟩
      have hH : Av.hold h L R (m + 1) = u := by
        have e1 : L.getD m (false, false) = (a, b) := by rw [List.getD_eq_getElem?_getD, hp]; rfl
        rw [Av.hold, e1, hrv, hq]; exact hu
      have HH := Lib.hid hH
      have HS : Hid (Av.way h L R (m + 1) = Av.way h L R m ++ [u]) := Lib.hid (by rw [Av.way, hH])
      have C : Hid (∀ W, Calls Try.prog 9 #[.int .i64 q, .bool a, .bool b, .bool rv] W fun e w' => e = .returned (.int .i64 u) ∧ Below W.heap.size W w') := Lib.hid (fun W => next_v hu W)
      have HRg := Lib.hid hrg
      rw [hq]
      have f3 : ∀ o, (wr.alloc o).cell? ⟨B3, 0, none⟩ = some (.slice B nr cq) := fun o => by rw [(HT2.out.b3.alloc o).cell 0]; rfl
      have lw : ∀ b ∈ [B1, B2, B3], b < wr.heap.size := by
        intro b hb
        simp only [List.mem_cons, List.not_mem_nil, or_false] at hb
        rcases hb with rfl | rfl | rfl
        · exact HT2.out.b1.lt
        · exact HT2.out.b2.lt
        · exact HT2.out.b3.lt
      have HLW := Lib.hid lw
      have hfn : ∀ f, Fence.wide.fn f := fun _ => trivial
      clear hp hrg hu hH lw hq
      have tail : ∀ W2, Below (wr.alloc (.cells (wc (a, b)) 30)).heap.size (wr.alloc (.cells (wc (a, b)) 30)) W2 → J (Av.way h L R m) W2 ∧ Kl n₀ [B1, B2, B3] W W2 := fun W2 hb2 => by
        have hbw : Below wr.heap.size wr W2 := ((Below.refl _ _).alloc (Nat.le_refl _) _).trans (hb2.mono (by simp))
        exact ⟨abide HJ.out HJs.out hbw, HKl.out.grow hbw HT2.out.le HLW.out⟩
      have TL := Lib.hid tail
      clear tail
      by_cases hmr : m < nr
      · have hmr2 : (m : Int) < nr := by omega
        obtain ⟨x, hx⟩ : ∃ x, R[m]? = some x := ⟨R[m]'(by rw [HNr.out]; exact hmr), List.getElem?_eq_getElem _⟩
        obtain rfl : x = rv := by rw [← hrv, List.getD_eq_getElem?_getD, hx]; rfl
        obtain ⟨g2, o2, rfl, hg2, hx2⟩ := HT2.out.rs m x hx
        have f4 : ∀ o, (wr.alloc o).cell? ⟨g2, o2 + m, none⟩ = some (.bool x) := fun o => ((Below.refl wr.heap.size wr).alloc (Nat.le_refl _) o).cell (p := ⟨g2, o2 + m, none⟩) (Nat.lt_of_lt_of_le hg2 HT2.out.le) |>.trans hx2
        clear hx hx2 hrv
        gi_wp2_with (first | (refine ldpIn rfl _ rfl _ _ _ rfl HRg.out ?_) | fail)
        refine ⟨fun e => (by cases e), (callsIn_wide.2 (C.out _)).mono ?_⟩
        rintro e W2 ⟨rfl, hb2⟩
        obtain ⟨hj2, hk2⟩ := TL.out W2 hb2
        have HK2 := Lib.hid hk2
        obtain ⟨fn, tmps, assign, body, hy, hR⟩ := HY.out (Av.way h L R m) u W2 hj2 HLen.out
        have HRd := Lib.hid hR
        clear hR hb2 hj2 hk2 C f3 f4
        gi_wp2_with fail
        refine ⟨fun e => (by cases e), HRd.out.mono ?_⟩
        rintro e W3 (⟨rfl, hJ3, hk3⟩ | ⟨rfl, hJx3⟩)
        · have HK4 := Lib.hid (HK2.out.trans hk3)
          have HJ4 := Lib.hid hJ3
          clear hk3 hJ3 hy
          gi_wp2
          go_roundw
          case rel => exact ⟨m + 1, by omega, by go_num, by rw [HH.out], by rw [HS.out]; exact HJ4.out, HK4.out⟩
          case measure => simp [intOf]; omega
        · have HJ4 := Lib.hid hJx3
          clear hJx3 hy
          gi_wp2
          refine bodyPost_ret (results_none rfl _ _ _) rfl ?_
          exact ⟨⟨_, rfl⟩, .inr ⟨_, trivial, HJ4.out⟩⟩
      · have hmr2 : decide ((m : Int) < nr) = false := decide_eq_false (by omega)
        obtain rfl : false = rv := by rw [← hrv, List.getD_eq_getElem?_getD, List.getElem?_eq_none (by rw [HNr.out]; omega)]; rfl
        clear hrv
        gi_wp2_with (first | (refine ldpIn rfl _ rfl _ _ _ rfl HRg.out ?_) | fail)
        refine ⟨fun e => (by cases e), (callsIn_wide.2 (C.out _)).mono ?_⟩
        rintro e W2 ⟨rfl, hb2⟩
        obtain ⟨hj2, hk2⟩ := TL.out W2 hb2
        have HK2 := Lib.hid hk2
        obtain ⟨fn, tmps, assign, body, hy, hR⟩ := HY.out (Av.way h L R m) u W2 hj2 HLen.out
        have HRd := Lib.hid hR
        clear hR hb2 hj2 hk2 C f3
        gi_wp2_with fail
        refine ⟨fun e => (by cases e), HRd.out.mono ?_⟩
        rintro e W3 (⟨rfl, hJ3, hk3⟩ | ⟨rfl, hJx3⟩)
        · have HK4 := Lib.hid (HK2.out.trans hk3)
          have HJ4 := Lib.hid hJ3
          clear hk3 hJ3 hy
          gi_wp2
          go_roundw
          case rel => exact ⟨m + 1, by omega, by go_num, by rw [HH.out], by rw [HS.out]; exact HJ4.out, HK4.out⟩
          case measure => simp [intOf]; omega
        · have HJ4 := Lib.hid hJx3
          clear hJx3 hy
          gi_wp2
          refine bodyPost_ret (results_none rfl _ _ _) rfl ?_
          exact ⟨⟨_, rfl⟩, .inr ⟨_, trivial, HJ4.out⟩⟩
    · obtain rfl : m = n := by omega
      gi_wp2
      go_end0
      exact ⟨⟨_, rfl⟩, .inl ⟨_, rfl, HJs.out⟩⟩
theorem info_i1 : (Try.prog.info? 3).map (fun i => (i.zero, i.size, i.bytes)) = some (some (.int .i64 0), 1, 8) := by kernel_rfl

set_option maxRecDepth 100000 in
set_option maxHeartbeats 8000000 in
/-- **Way**. -/
theorem way_c (h : Int) (A B : Option Addr) (n cp nr cq : Nat) (L : List (Bool × Bool)) (R : List Bool) (hn : L.length = n) (hr : R.length = nr) (hl : n ≤ 1000) (w : World) (hA : Prs w A L) (hB : Bls w B R) :
    Calls Try.prog 11 #[.int .i64 h, .slice A n cp, .slice B nr cq] w fun e w' => ∃ v, e = .returned v ∧ Zs w' w.heap.size v (Av.way h L R n) ∧ Below w.heap.size w w' := by
  have hfn : ∀ f, Fence.wide.fn f := fun _ => trivial
  have HN := Lib.hid hn
  have HNr := Lib.hid hr
  have HA := Lib.hid hA
  have HB := Lib.hid hB
  clear hn hr hA hB
  refine (callsIn_wide (n := 9)).1 ?_
  refine callsIn_of_wp_marks Try.func11 rfl trivial ?_ rfl
  simp only [Try.ntmps11, List.size_toArray, List.length_cons, List.length_nil, Nat.reduceAdd, Nat.reduceSub, Array.replicate_succ, Array.replicate_zero, List.push_toArray, List.append_toArray, List.nil_append, List.cons_append]
  obtain ⟨i0, hi, hz0, hz1, hz2⟩ := info_parts info_i1
  gi_wp2_with (first
    | (gi_at_make; refine wpListIn_make_own _ rfl _ _ 28 rfl w.heap.size 3 i0 _ 1 Try.underlying28 hi hz0 hz1 .i64 .i64 n n rfl rfl rfl (by rw [hz2]; omega) (by unfold maxLen; omega) (Nat.le_refl _) ?_; intro w1 hown hgrow)
    | fail)
  refine (callsIn_wide.2 (holders_c h A n cp B nr cq _)).mono ?_
  rintro e w' ⟨rfl, rfl⟩
  gi_wp2_with fail
  have hlw := hown.lt _ rfl
  have hb1 : Below w.heap.size w w1 := (Below.refl _ _).grown hgrow (Nat.le_refl _) (fun k e => by cases e)
  have b3 := BoxV.new (((w1.alloc (.cells #[.slice (some ⟨w.heap.size, 0, none⟩) 0 n] 28)).alloc (.cells #[.int .i64 h] 3)).alloc (.cells #[.slice A n cp] 26)) 27 #[.slice B nr cq]
  have b2 := (BoxV.new ((w1.alloc (.cells #[.slice (some ⟨w.heap.size, 0, none⟩) 0 n] 28)).alloc (.cells #[.int .i64 h] 3)) 26 #[.slice A n cp]).alloc (.cells #[.slice B nr cq] 27)
  have b1 := ((BoxV.new (w1.alloc (.cells #[.slice (some ⟨w.heap.size, 0, none⟩) 0 n] 28)) 3 #[.int .i64 h]).alloc (.cells #[.slice A n cp] 26)).alloc (.cells #[.slice B nr cq] 27)
  have b0 := (((BoxV.new w1 28 #[.slice (some ⟨w.heap.size, 0, none⟩) 0 n]).alloc (.cells #[.int .i64 h] 3)).alloc (.cells #[.slice A n cp] 26)).alloc (.cells #[.slice B nr cq] 27)
  have ho := (((hown.alloc (.cells #[.slice (some ⟨w.heap.size, 0, none⟩) 0 n] 28)).alloc (.cells #[.int .i64 h] 3)).alloc (.cells #[.slice A n cp] 26)).alloc (.cells #[.slice B nr cq] 27)
  have hB0 := (((hb1.alloc hb1.size (.cells #[.slice (some ⟨w.heap.size, 0, none⟩) 0 n] 28)).alloc (by have := hb1.size; simp; omega) (.cells #[.int .i64 h] 3)).alloc (by have := hb1.size; simp; omega) (.cells #[.slice A n cp] 26)).alloc (by have := hb1.size; simp; omega) (.cells #[.slice B nr cq] 27)
  have hsz : ((((w1.alloc (.cells #[.slice (some ⟨w.heap.size, 0, none⟩) 0 n] 28)).alloc (.cells #[.int .i64 h] 3)).alloc (.cells #[.slice A n cp] 26)).alloc (.cells #[.slice B nr cq] 27)).heap.size = w1.heap.size + 4 := by simp
  simp only [World.size_alloc] at b3 b2 b1
  generalize (((w1.alloc (.cells #[.slice (some ⟨w.heap.size, 0, none⟩) 0 n] 28)).alloc (.cells #[.int .i64 h] 3)).alloc (.cells #[.slice A n cp] 26)).alloc (.cells #[.slice B nr cq] 27) = W0 at b3 b2 b1 b0 ho hB0 hsz ⊢
  simp only [Nat.add_assoc, Nat.reduceAdd] at b3 b2 b1 ⊢
  generalize hNb : w1.heap.size = N at *
  have hMN : w.heap.size < N := hlw.2
  clear hlw hgrow hown hb1
  have hT : WayBox w.heap.size (N + 1) (N + 2) (N + 3) W0 h A n cp L B nr cq R :=
    ⟨b1, b2, b3, hB0.size, fun i p hi => by
      obtain ⟨g, o, e, hg, hr⟩ := HA.out i p hi
      exact ⟨g, o, e, hg, fun j v hv => (hB0.cell (p := ⟨g, o + i * 2 + j, none⟩) hg).trans (hr j v hv)⟩, fun i b hi => by
      obtain ⟨g, o, e, hg, hr⟩ := HB.out i b hi
      exact ⟨g, o, e, hg, (hB0.cell (p := ⟨g, o + i, none⟩) hg).trans hr⟩⟩
  have HT := Lib.hid hT
  have HLW : Hid (∀ b ∈ [N + 1, N + 2, N + 3], b < N + 4 ∧ N < b) := Lib.hid (fun b hb => by
    simp only [List.mem_cons, List.not_mem_nil, or_false] at hb
    omega)
  have hseq : SeqStopsK Fence.wide 8 Try.prog 16 #[.pointer (some ⟨N + 1, 0, none⟩), .pointer (some ⟨N + 2, 0, none⟩), .pointer (some ⟨N + 3, 0, none⟩)] encZ (Kl w.heap.size [N + 1, N + 2, N + 3]) (fun zs => zs = Av.way h L R n) (fun _ => True) n W0 := fun l J Jx W hW hJ _ hY h0 =>
    holders_in 8 l w.heap.size (N + 1) (N + 2) (N + 3) h A n cp L B nr cq R HN.out HNr.out hl J Jx W hJ hY (HT.out.kl ⟨hW.mono (by omega), fun b hb => hW.block b (by have := HLW.out b hb; omega)⟩) h0
  clear hT b1 b2 b3
  refine rangeU (by omega) (gf := 16) (lb := #[.pointer (some ⟨N + 1, 0, none⟩), .pointer (some ⟨N + 2, 0, none⟩), .pointer (some ⟨N + 3, 0, none⟩)]) rfl (enters_of Try.func16 (by kernel_rfl) rfl)
    hseq Kl.trans (fun W => Kl.refl _ _ W) (Kl.putObj (by omega) (by intro b hb; have := HLW.out b hb; omega)) (fun _ => rfl)
    (fun pre W => (∃ v, Boxed W N 28 v ∧ W.ownsRow w.heap.size 3 1 v pre.length (pre.flatMap fz) ∧ v = .slice (some ⟨w.heap.size, 0, none⟩) pre.length n) ∧ (Below w.heap.size w W ∧ N + 4 ≤ W.heap.size))
    (fun _ _ _ => False)
    (OwnFrom.and (Own.from (holdsRow_own w.heap.size N 28 3 1 (fun pre : List Int => pre.length) (fun pre => pre.flatMap fz) (fun pre v => v = .slice (some ⟨w.heap.size, 0, none⟩) pre.length n)) _) (OwnFrom.and (ownFrom_below (Nat.le_refl _) (by omega)) (Lk.ownFrom_size _ _)))
    (fun _ _ _ _ _ hs _ _ => hs)
    ⟨⟨_, b0, ho, rfl⟩, hB0, by omega⟩
    16 8 (fun x => .int .i64 x) ?assign ?body ?done ?stop
  case assign =>
    rintro l x W K hK
    have HK := Lib.hid hK
    clear hK
    simp only [encZ, frameU] at HK ⊢
    gi_wp2
    exact HK.out
  case body =>
    rintro l pre x W ⟨⟨_, hv, hrow, rfl⟩, hB1, hsW⟩ hlt
    have c0 := hv.cell
    have HV := Lib.hid hv
    have HRow := Lib.hid hrow
    have HB1 := Lib.hid hB1
    clear hv hrow hB1 b0 ho hseq
    simp only [frameU, List.setIfInBounds_toArray, List.set_cons_succ, List.set_cons_zero]
    have hfr : ∀ g, (Fence.wide.inRound l).fn g := fun _ => trivial
    gi_wp2_with (first
      | (gi_at_builtin; refine wpListIn_append_fits _ rfl _ _ 28 rfl w.heap.size 3 i0 1 Try.underlying28 hi hz1 w.heap.size pre.length n (pre.flatMap fz) rfl (HRow.out.alloc _) ⟨W.heap.size, 0, none⟩ 1 1 (fz x) rfl rfl ?c1 (fz_one x) (by omega) ?_)
      | fail)
    case c1 =>
      intro j u hu
      rw [Addr.add_mid, Nat.zero_add]
      exact (Joins.cell_of_block (heap_alloc_last W _) j).trans (by simpa using hu)
    intro w2 hown hgrow
    have hown2 : w2.ownsRow w.heap.size 3 1 (.slice (some ⟨w.heap.size, 0, none⟩) (pre ++ [x]).length n) (pre ++ [x]).length ((pre ++ [x]).flatMap fz) := by
      rw [List.flatMap_append, List.length_append]
      simpa using hown
    have hs0 := HB1.out.size
    have HA := Lib.hid (Boxed.appended (n₀ := w.heap.size) (v' := .slice (some ⟨w.heap.size, 0, none⟩) (pre ++ [x]).length n) HV.out (by decide) HRow.out hs0 (by omega) hown2 hgrow)
    have HK : Hid (∀ b, b < N + 4 → N < b → w2.heap[b]? = W.heap[b]?) := Lib.hid (fun b hb hNb => by
      refine (hgrow.block b (by simp; omega) fun e => ?_).trans (Below.heap_alloc _ _ _ (by omega))
      obtain rfl : b = w.heap.size := by simpa using e
      omega)
    have HB2 := Lib.hid (HB1.out.trans HA.out.2.2.2.2)
    have c1 := HA.out.1.cell
    have c2 := HA.out.1.frozen
    have hs1 := HA.out.2.2.2.2.size
    have hs2 := HA.out.2.2.2.1.from
    have HS := Lib.hid HA.out.2.2.2.1
    rw [show (pre ++ [x]).length = pre.length + 1 by simp] at HA HB2 HS
    clear hown hgrow hown2 c0 hs2
    have hsz2 : W.heap.size ≤ w2.heap.size := by simpa [World.setCell] using hs1
    clear hs1
    gi_wp2_with fail
    refine ⟨HS.out.from _, ⟨HA.out.2.2.2.2, fun b hb => ?_⟩, ⟨_, HA.out.2.1, ?_, ?_⟩, HB2.out, ?_⟩
    · have := HLW.out b hb
      exact (Below.heap_setCell _ _ _ _ (by simp; omega)).trans (HK.out b this.1 this.2)
    · have := HA.out.2.2.1
      simpa using this
    · simp
    · have := HA.out.2.2.2.2.size
      omega
  case done =>
    rintro D zs W hD rfl ⟨⟨_, hv, hrow, rfl⟩, hB1, hsW⟩ hK
    have c0 := hv.cell
    have HE : Hid (Zs W w.heap.size (.slice (some ⟨w.heap.size, 0, none⟩) (Av.way h L R n).length n) (Av.way h L R n)) := Lib.hid hrow
    have HB1 := Lib.hid hB1
    clear hv hrow hB1 b0 ho hseq
    gi_wp2
    refine ⟨by simp, .inl ⟨_, _, rfl, run_takeDeferred hK, ?_⟩⟩
    refine ⟨_, results_tmp rfl _ _ _, ?_⟩
    refine ⟨_, rfl, ?_, HB1.out.trans (belowK_b (w := w) (Nat.le_refl _) W D _ _ (by omega) hK rfl rfl)⟩
    exact ownsRow_putObj HE.out _ hK rfl
  case stop =>
    rintro D c pre W _ _ h _
    exact h.elim
end Aw
end Go.Proofs.Ytgpgdmebojmobaa
