/- The document's own counts of faults: Find, Raise, Edge; whether two lists of numbers are the same. -/
import Derived.Test.YtddkmaplficofaaFaultRaise
import Derived.Test.YtddkmaplficofaaFaultEdge
namespace Go.Proofs.Ytddkmaplficofaa
namespace Fw
open Go.RowKit Fa Lk
open Sp (R)

/-- A list that is read alone: nil where it is empty. -/
structure Rd (W : World) (A : Option Addr) (n cp : Nat) (L : List R) : Prop where
  rcs : Rcs W A L
  len : L.length = n
  nil : n = 0 → A = none ∧ cp = 0
theorem Rd.below {W W' : World} {A : Option Addr} {n cp : Nat} {L : List R} (h : Rd W A n cp L) (hb : Below W.heap.size W W') : Rd W' A n cp L := ⟨h.rcs.below hb, h.len, h.nil⟩
theorem Lst.rd {W : World} {base n cp : Nat} {A : Option Addr} {L : List R} (h : Lst W base A n cp L) : Rd W A n cp L := ⟨h.rcs, h.len, h.nil⟩
theorem Rd.none (W : World) : Rd W none 0 0 [] := (Lst.none W 0).rd

theorem find_drop {c : Int} {L : List R} {k : Nat} {s : R} (hs : L[k]? = some s) : find c (L.drop k) = if s.code = c then some s else find c (L.drop (k + 1)) := by
  have hk : k < L.length := (List.getElem?_eq_some_iff.1 hs).1
  rw [List.drop_eq_getElem_cons hk]
  have : L[k] = s := (List.getElem?_eq_some_iff.1 hs).2
  rw [this]
  rfl

set_option maxRecDepth 100000 in
set_option maxHeartbeats 4000000 in
theorem rfind_c (A : Option Addr) (n cp : Nat) (L : List R) (c : Int) (hL : L.length = n) (hn : n ≤ 1000) (w : World) (hA : Rcs w A L) :
    Calls Try.prog 14 #[.slice A n cp, .int .i64 c] w fun e w' => e = .returned (.tuple #[.agg (rcs (got c L)), .bool (has c L)]) ∧ Below w.heap.size w w' := by
  have hb : Below w.heap.size w (w.alloc (.cells (rcs zero) 30)) := (Below.refl _ _).alloc (Nat.le_refl _) _
  have HA := Lib.hid (hA.below hb)
  have HB := Lib.hid hb
  have HL := Lib.hid hL
  have hz := heap_alloc_last w (.cells (rcs zero) 30)
  have HZ := Lib.hid hz
  have HT := Lib.hid (there_b hz)
  have HG : Hid (∀ r, find c L = some r → got c L = r ∧ has c L = true) := fun r h => by unfold got has; rw [h]; exact ⟨rfl, rfl⟩
  have HN : Hid (find c L = none → got c L = zero ∧ has c L = false) := fun h => by unfold got has; rw [h]; exact ⟨rfl, rfl⟩
  obtain ⟨x, hx⟩ : ∃ x, got c L = x := ⟨_, rfl⟩
  obtain ⟨y, hy⟩ : ∃ y, has c L = y := ⟨_, rfl⟩
  rw [hx, hy] at HG HN ⊢
  clear hA hL hz hb hx hy
  go_enter Try.func14, Try.ntmps14
  go_wp2_with fail
  go_loopw [6] (fun i wr => ∃ k : Nat, k ≤ n ∧ i = .int .i64 k ∧ find c L = find c (L.drop k) ∧ w.alloc (.cells (rcs zero) 30) = wr) (fun i _ => n - (intOf i).toNat)
  case atStart => exact ⟨0, Nat.zero_le _, rfl, rfl, rfl⟩
  case round =>
    obtain ⟨k, hk, rfl, hf, rfl⟩ := hrel
    have HF := Lib.hid hf
    clear hf
    by_cases hlt : k < n
    · obtain ⟨s, hs⟩ : ∃ s, L[k]? = some s := ⟨L[k]'(by rw [HL.out]; exact hlt), List.getElem?_eq_getElem _⟩
      obtain ⟨g, o, rfl, _, hr⟩ := HA.out k s hs
      have HR := Lib.hid hr
      obtain ⟨s0, _, _⟩ := rc_cells hr
      have hkn : (k : Int) < n := by omega
      have HD := Lib.hid (find_drop (c := c) hs)
      clear hr hs HA
      by_cases hc : s.code = c
      · have hd : (s.code == c) = true := by simp [hc]
        have HE : Hid (find c L = some s) := by show _ = _; rw [HF.out, HD.out, if_pos hc]
        clear hc
        obtain ⟨rfl, rfl⟩ := HG.out s HE.out
        go_wp2_with (first | (refine ldrm rfl _ rfl _ _ x rfl HR.out ?_) | (refine stm rfl _ _ rfl w.heap.size 0 x rfl rfl HT.out ?_) | fail)
        have HP := Lib.hid (stored_b x HZ.out)
        refine bodyPost_ret (res2 rfl _ _ _ _ rfl HP.out) rfl ?_
        exact ⟨rfl, below_cells HB.out (Nat.le_refl _) _ _⟩
      · have hd : (s.code == c) = false := by simp [hc]
        have HE : Hid (find c L = find c (L.drop (k + 1))) := by show _ = _; rw [HF.out, HD.out, if_neg hc]
        clear hc
        go_wp2_with fail
        go_roundw
        case rel => exact ⟨k + 1, by omega, by go_num, HE.out, by first | rfl | trivial⟩
        case measure => simp [intOf]; omega
    · obtain rfl : k = n := by omega
      obtain ⟨rfl, rfl⟩ := HN.out (by rw [HF.out, List.drop_of_length_le (by rw [HL.out]; exact Nat.le_refl _)]; rfl)
      go_wp2_with (first | (refine stm rfl _ _ rfl w.heap.size 0 zero rfl rfl HT.out ?_) | fail)
      have HP := Lib.hid (stored_b zero HZ.out)
      refine bodyPost_ret (res2 rfl _ _ _ _ rfl HP.out) rfl ?_
      exact ⟨rfl, below_cells HB.out (Nat.le_refl _) _ _⟩

/-- What a loop over records carries: those that append made, all that lay. -/
structure Lo (w W : World) (v : Value) (l : List R) : Prop where
  row : Row W w.heap.size v l
  old : Below w.heap.size w W
theorem Lo.alloc {w W : World} {v : Value} {l : List R} (h : Lo w W v l) (o : Obj) : Lo w (W.alloc o) v l := ⟨h.row.alloc o, h.old.alloc h.old.size o⟩
theorem Lo.app {w W W' : World} {v v' : Value} {l l' : List R} (h : Lo w W v l) (hr : Row W' w.heap.size v' l') (hb : Below w.heap.size W W') : Lo w W' v' l' := ⟨hr, h.old.trans hb⟩
theorem fold_len (c : Int) (r : R) : ∀ (l : List R) (x : List R × Bool), (l.foldl (Fa.step c r) x).1.length ≤ x.1.length + 2 * l.length
  | [], x => by simp
  | s :: l, x => by
    have h1 := fold_len c r l (Fa.step c r x s)
    have h2 := step_len c r x s
    rw [List.foldl_cons, List.length_cons]
    omega
theorem fold_next {c : Int} {r s : R} {L : List R} {k : Nat} (h : L[k]? = some s) : (L.take (k + 1)).foldl (Fa.step c r) ([], false) = Fa.step c r ((L.take k).foldl (Fa.step c r) ([], false)) s := by
  rw [List.take_add_one, h]
  simp [List.foldl_append]

set_option maxRecDepth 100000 in
set_option maxHeartbeats 8000000 in
theorem rraise_ok (A : Option Addr) (n cp : Nat) (L : List R) (c : Int) (hL : L.length = n) (hn : n ≤ 1000) (hf : Few L) (hu : Rising L) (hc : 1 ≤ c ∧ c ≤ 255) (w : World) (hA : Rcs w A L) :
    Calls Try.prog 11 #[.slice A n cp, .int .i64 c] w fun e w' => ∃ v, e = .returned (.tuple #[v, .int .i64 0]) ∧ Row w' w.heap.size v (put c L) ∧ Below w.heap.size w w' := by
  have H1 := Lib.hid (rfind_c A n cp L c hL hn w hA)
  have HL := Lib.hid hL
  have HA := Lib.hid hA
  obtain ⟨h1, h2⟩ := hc
  have d1 : decide (c < 1) = false := decide_eq_false (by omega)
  have d2 : decide (255 < c) = false := decide_eq_false (by omega)
  -- what is laid
  obtain ⟨r, hr⟩ : ∃ r, bump ((find c L).getD ⟨c, 0, false⟩) = r := ⟨_, rfl⟩
  have HE : Hid (ends r (L.foldl (Fa.step c r) ([], false)) = put c L) := by
    have := step_put (c := c) L [] hu
    rw [hr, List.nil_append] at this
    exact this
  have hcase : (∃ rt : Int, ∃ rl : Bool, got c L = ⟨c, rt, rl⟩ ∧ has c L = true ∧ 0 ≤ rt ∧ rt ≤ 65535 ∧ r = ⟨c, min (rt + 1) 65535, rl || decide (3 ≤ min (rt + 1) 65535)⟩) ∨ (has c L = false ∧ r = ⟨c, 1, false⟩) := by
    cases hx : find c L with
    | none =>
      right
      rw [hx] at hr
      refine ⟨by unfold has; rw [hx]; rfl, ?_⟩
      rw [← hr, Option.getD_none, bump_one]
    | some s =>
      left
      obtain ⟨e1, e2⟩ := find_code hx
      obtain ⟨sk, st, sl⟩ := s
      have := hf _ e2
      simp only at e1 this
      subst e1
      rw [hx] at hr
      refine ⟨st, sl, by unfold got; rw [hx]; rfl, by unfold has; rw [hx]; rfl, this.1, this.2, ?_⟩
      rw [← hr, Option.getD_some]
      unfold bump
      have e : min st 65534 + 1 = min (st + 1) 65535 := by omega
      simp only [e]
  have HF : Hid ((fun k => (L.take k).foldl (Fa.step c r) ([], false)) 0 = ([], false) ∧ (∀ (k : Nat) (s : R), L[k]? = some s → (fun k => (L.take k).foldl (Fa.step c r) ([], false)) (k + 1) = Fa.step c r ((fun k => (L.take k).foldl (Fa.step c r) ([], false)) k) s) ∧ ends r ((fun k => (L.take k).foldl (Fa.step c r) ([], false)) n) = put c L ∧ ∀ k : Nat, ((fun k => (L.take k).foldl (Fa.step c r) ([], false)) k).1.length ≤ 2 * k) :=
    ⟨rfl, fun k s h => fold_next h, by simp only [← hL, List.take_length]; exact HE.out, fun k => by
      have h1 := fold_len c r (L.take k) ([], false)
      have h2 : (L.take k).length ≤ k := by rw [List.length_take]; omega
      simp only [List.length_nil] at h1 ⊢
      omega⟩
  generalize (fun k => (L.take k).foldl (Fa.step c r) ([], false)) = fo at HF
  clear HE hr hA hL hu hf
  rcases hcase with hcase | hcase
  · obtain ⟨rt, rl, hg, hh, hr1, hr2, rfl⟩ := hcase
    obtain ⟨x, hx⟩ : ∃ x, min (rt + 1) 65535 = x := ⟨_, rfl⟩
    rw [hg, hh] at H1
    rw [hx] at HF
    have hm : min (rt + 1) 65535 = x := hx
    clear hx hg hh
    cases rl with
    | true =>
      simp only [Bool.true_or] at HF
      go_enter Try.func11, Try.ntmps11
      go_wp2_with fail
      refine H1.out.mono ?_
      rintro e W1 ⟨rfl, hb1⟩
      have HA1 := Lib.hid ((HA.out.below hb1).below ((Below.refl _ _).alloc (Nat.le_refl _) (.cells (rcs (⟨c, x, true⟩ : R)) 30)))
      have HB1 := Lib.hid (hb1.trans (((Below.refl _ _).alloc (Nat.le_refl _) (.cells (rcs (⟨c, x, true⟩ : R)) 30)).mono hb1.size))
      have HR1 := Lib.hid (heap_alloc_last W1 (.cells (rcs (⟨c, x, true⟩ : R)) 30))
      clear hb1 H1 HA
      go_wp2_with fail
      obtain ⟨W2, hW2⟩ : ∃ W2, W1.alloc (.cells (rcs (⟨c, x, true⟩ : R)) 30) = W2 := ⟨_, rfl⟩
      rw [hW2] at HA1 HB1 HR1
      change Code.wp _ _ _ _ (W1.alloc (.cells (rcs (⟨c, x, true⟩ : R)) 30))
      rw [hW2]
      clear hW2
      obtain ⟨b, hb⟩ : ∃ b, W1.heap.size = b := ⟨_, rfl⟩
      rw [hb] at HR1 ⊢
      clear hb
      have hbl : b < W2.heap.size := (Array.getElem?_eq_some_iff.1 HR1.out).1
      have HQ : Hid (Lo W2 W2 (.slice none 0 0) (fo 0).1) := by rw [HF.out.1]; exact ⟨Rw.nil _ _ _ _ _, Below.refl _ _⟩
      have HQ0 : Hid ((fo 0).2 = false) := by rw [HF.out.1]; rfl
      go_loopw [8, 9, 10] (fun o d i wr => ∃ k : Nat, k ≤ n ∧ i = .int .i64 k ∧ d = .bool (fo k).2 ∧ Lo W2 wr o (fo k).1) (fun _ _ i _ => n - (intOf i).toNat)
      case atStart => exact ⟨0, Nat.zero_le _, rfl, by rw [HQ0.out], HQ.out⟩
      case round =>
        clear HQ HQ0
        obtain ⟨k, hk, rfl, rfl, hq⟩ := hrel
        have HQ := Lib.hid hq
        clear hq
        have hlen := HF.out.2.2.2 k
        have c1 := (HQ.out.old.cell (p := ⟨b, 0, none⟩) hbl).trans (Joins.cell_of_block HR1.out 0)
        have c2 := (HQ.out.old.cell (p := ⟨b, 1, none⟩) hbl).trans (Joins.cell_of_block HR1.out 1)
        have c3 := (HQ.out.old.cell (p := ⟨b, 2, none⟩) hbl).trans (Joins.cell_of_block HR1.out 2)
        have HRb : Hid (∀ W, Below W2.heap.size W2 W → W.rangeAt b 0 (rcs (⟨c, x, true⟩ : R)).toList) := fun W hW j v hv => by
          rw [Nat.zero_add]
          exact (hW.cell (p := ⟨b, j, none⟩) hbl).trans ((Joins.cell_of_block HR1.out j).trans (by simpa using hv))
        simp only [List.getElem?_toArray, List.getElem?_cons_zero, List.getElem?_cons_succ] at c1 c2 c3
        have hbase := HQ.out.old.size
        by_cases hlt : k < n
        · obtain ⟨s, hs⟩ : ∃ s, L[k]? = some s := ⟨L[k]'(by rw [HL.out]; exact hlt), List.getElem?_eq_getElem _⟩
          have HS := Lib.hid (HF.out.2.1 k s hs)
          obtain ⟨g, o, rfl, hgl, hrg⟩ := HA1.out k s hs
          have HRs : Hid (∀ W, Below W2.heap.size W2 W → W.rangeAt g (o + k * 3) (rcs s).toList) := fun W hW j v hv => (hW.cell (p := ⟨g, o + k * 3 + j, none⟩) hgl).trans (hrg j v hv)
          have s1 := (HRs.out _ HQ.out.old) 0 _ rfl
          rw [Nat.add_zero] at s1
          have hkn : (k : Int) < n := by omega
          clear hrg hs
          obtain ⟨l, hl⟩ : ∃ l, (fo k).1 = l := ⟨_, rfl⟩
          obtain ⟨d, hd⟩ : ∃ d, (fo k).2 = d := ⟨_, rfl⟩
          have hfk : fo k = (l, d) := by rw [← hl, ← hd]
          rw [hfk] at HS
          rw [hl] at HQ hlen
          rw [hd]
          clear hl hd hfk
          cases d with
          | false =>
            by_cases h4 : c ≤ s.code
            · go_wp2_with (first | (refine ldrm rfl _ rfl b 0 (⟨c, x, true⟩ : R) rfl (HRb.out _ HQ.out.old) ?_) | (at_builtin; refine app_r rfl _ _ rfl W2.heap.size _ l rfl (HQ.out.row.alloc _) wr.heap.size 1 (⟨c, x, true⟩ : R) rfl (range_r wr (⟨c, x, true⟩ : R)) (by omega) (by simp; omega) ?_) | fail)
              intro v4 W4 h5 hb5
              replace HQ := Lib.hid ((HQ.out.alloc (.cells (rcs (⟨c, x, true⟩ : R)) 30)).app h5 hb5)
              have s2 := (HRs.out _ HQ.out.old) 0 _ rfl
              rw [Nat.add_zero] at s2
              have hbase2 := HQ.out.old.size
              clear h5 hb5 s1 c1 c2 c3
              by_cases h5 : s.code = c
              · have h6 : (s.code == c) = true := by simp [h5]
                have HN : Hid (fo (k + 1) = (l ++ [(⟨c, x, true⟩ : R)], true)) := by show _ = _; rw [HS.out]; simp [Fa.step, h5]
                clear HS h5
                go_wp2_with fail
                go_roundw
                case rel => exact ⟨k + 1, by omega, by go_num, by rw [HN.out], by rw [HN.out]; exact HQ.out⟩
                case measure => simp [intOf]; omega
              · have h6 : (s.code == c) = false := by simp [h5]
                have HN : Hid (fo (k + 1) = (l ++ [(⟨c, x, true⟩ : R)] ++ [s], true)) := by show _ = _; rw [HS.out]; simp [Fa.step, h4, h5]
                have hl2 : (l ++ [(⟨c, x, true⟩ : R)]).length ≤ 2 * k + 1 := by simp; omega
                obtain ⟨l2, hl3⟩ : ∃ l2, l ++ [(⟨c, x, true⟩ : R)] = l2 := ⟨_, rfl⟩
                rw [hl3] at HQ HN hl2
                clear HS h5 hl3
                go_wp2_with (first | (refine ldrm rfl _ rfl g (o + k * 3) s rfl (HRs.out _ HQ.out.old) ?_) | (at_builtin; refine app_r rfl _ _ rfl W2.heap.size _ l2 rfl (HQ.out.row.alloc _) W4.heap.size 1 s rfl (range_r W4 s) (by omega) (by simp; omega) ?_) | fail)
                intro v5 W5 h7 hb7
                replace HQ := Lib.hid ((HQ.out.alloc (.cells (rcs s) 30)).app h7 hb7)
                clear h7 hb7
                go_wp2_with fail
                go_roundw
                case rel => exact ⟨k + 1, by omega, by go_num, by rw [HN.out], by rw [HN.out]; exact HQ.out⟩
                case measure => simp [intOf]; omega
            · have h6 : (s.code == c) = false := by simp; omega
              have h7 : decide (c ≤ s.code) = false := decide_eq_false h4
              have HN : Hid (fo (k + 1) = (l ++ [s], false)) := by
                have h8 : ¬ s.code = c := by omega
                show _ = _
                rw [HS.out]
                simp [Fa.step, h4, h8]
              clear HS h4
              go_wp2_with (first | (refine ldrm rfl _ rfl g (o + k * 3) s rfl (HRs.out _ HQ.out.old) ?_) | (at_builtin; refine app_r rfl _ _ rfl W2.heap.size _ l rfl (HQ.out.row.alloc _) wr.heap.size 1 s rfl (range_r wr s) (by omega) (by simp; omega) ?_) | fail)
              intro v5 W5 h8 hb8
              replace HQ := Lib.hid ((HQ.out.alloc (.cells (rcs s) 30)).app h8 hb8)
              clear h8 hb8
              go_wp2_with fail
              go_roundw
              case rel => exact ⟨k + 1, by omega, by go_num, by rw [HN.out], by rw [HN.out]; exact HQ.out⟩
              case measure => simp [intOf]; omega
          | true =>
            by_cases h5 : s.code = c
            · have h6 : (s.code == c) = true := by simp [h5]
              have HN : Hid (fo (k + 1) = (l, true)) := by show _ = _; rw [HS.out]; simp [Fa.step, h5]
              clear HS h5
              go_wp2_with fail
              go_roundw
              case rel => exact ⟨k + 1, by omega, by go_num, by rw [HN.out], by rw [HN.out]; exact HQ.out⟩
              case measure => simp [intOf]; omega
            · have h6 : (s.code == c) = false := by simp [h5]
              have HN : Hid (fo (k + 1) = (l ++ [s], true)) := by show _ = _; rw [HS.out]; simp [Fa.step, h5]
              clear HS h5
              go_wp2_with (first | (refine ldrm rfl _ rfl g (o + k * 3) s rfl (HRs.out _ HQ.out.old) ?_) | (at_builtin; refine app_r rfl _ _ rfl W2.heap.size _ l rfl (HQ.out.row.alloc _) wr.heap.size 1 s rfl (range_r wr s) (by omega) (by simp; omega) ?_) | fail)
              intro v5 W5 h8 hb8
              replace HQ := Lib.hid ((HQ.out.alloc (.cells (rcs s) 30)).app h8 hb8)
              clear h8 hb8
              go_wp2_with fail
              go_roundw
              case rel => exact ⟨k + 1, by omega, by go_num, by rw [HN.out], by rw [HN.out]; exact HQ.out⟩
              case measure => simp [intOf]; omega
        · obtain rfl : k = n := by omega
          have HEn := Lib.hid HF.out.2.2.1
          obtain ⟨l, hl⟩ : ∃ l, (fo k).1 = l := ⟨_, rfl⟩
          obtain ⟨d, hd⟩ : ∃ d, (fo k).2 = d := ⟨_, rfl⟩
          have hfk : fo k = (l, d) := by rw [← hl, ← hd]
          rw [hfk] at HEn
          rw [hl] at HQ hlen
          rw [hd]
          clear hl hd hfk
          have hbw : w.heap.size ≤ W2.heap.size := HB1.out.size
          cases d with
          | true =>
            have e : ends (⟨c, x, true⟩ : R) (l, true) = l := by simp [ends]
            rw [e] at HEn
            go_wp2_with fail
            go_ret2
            exact ⟨_, rfl, by rw [← HEn.out]; exact HQ.out.row.base_le hbw, HB1.out.trans (HQ.out.old.mono hbw)⟩
          | false =>
            have e : ends (⟨c, x, true⟩ : R) (l, false) = l ++ [(⟨c, x, true⟩ : R)] := by simp [ends]
            rw [e] at HEn
            go_wp2_with (first | (refine ldrm rfl _ rfl b 0 (⟨c, x, true⟩ : R) rfl (HRb.out _ HQ.out.old) ?_) | (at_builtin; refine app_r rfl _ _ rfl W2.heap.size _ l rfl (HQ.out.row.alloc _) wr.heap.size 1 (⟨c, x, true⟩ : R) rfl (range_r wr (⟨c, x, true⟩ : R)) (by omega) (by simp; omega) ?_) | fail)
            intro v4 W4 h5 hb5
            replace HQ := Lib.hid ((HQ.out.alloc (.cells (rcs (⟨c, x, true⟩ : R)) 30)).app h5 hb5)
            clear h5 hb5
            go_wp2_with fail
            go_ret2
            exact ⟨_, rfl, by rw [← HEn.out]; exact HQ.out.row.base_le hbw, HB1.out.trans (HQ.out.old.mono hbw)⟩
    | false =>
      obtain ⟨d3, hd3⟩ : ∃ d3, decide (3 ≤ x) = d3 := ⟨_, rfl⟩
      rw [hd3] at HF
      simp only [Bool.false_or] at HF
      go_enter Try.func11, Try.ntmps11
      go_wp2_with fail
      refine H1.out.mono ?_
      rintro e W1 ⟨rfl, hb1⟩
      have HA1 := Lib.hid ((HA.out.below hb1).below ((Below.refl _ _).alloc (Nat.le_refl _) (.cells (rcs (⟨c, x, d3⟩ : R)) 30)))
      have HB1 := Lib.hid (hb1.trans (((Below.refl _ _).alloc (Nat.le_refl _) (.cells (rcs (⟨c, x, d3⟩ : R)) 30)).mono hb1.size))
      have HR1 := Lib.hid (heap_alloc_last W1 (.cells (rcs (⟨c, x, d3⟩ : R)) 30))
      clear hb1 H1 HA
      go_wp2_with fail
      obtain ⟨W2, hW2⟩ : ∃ W2, W1.alloc (.cells (rcs (⟨c, x, d3⟩ : R)) 30) = W2 := ⟨_, rfl⟩
      rw [hW2] at HA1 HB1 HR1
      change Code.wp _ _ _ _ (W1.alloc (.cells (rcs (⟨c, x, d3⟩ : R)) 30))
      rw [hW2]
      clear hW2
      obtain ⟨b, hb⟩ : ∃ b, W1.heap.size = b := ⟨_, rfl⟩
      rw [hb] at HR1 ⊢
      clear hb
      have hbl : b < W2.heap.size := (Array.getElem?_eq_some_iff.1 HR1.out).1
      have HQ : Hid (Lo W2 W2 (.slice none 0 0) (fo 0).1) := by rw [HF.out.1]; exact ⟨Rw.nil _ _ _ _ _, Below.refl _ _⟩
      have HQ0 : Hid ((fo 0).2 = false) := by rw [HF.out.1]; rfl
      go_loopw [8, 9, 10] (fun o d i wr => ∃ k : Nat, k ≤ n ∧ i = .int .i64 k ∧ d = .bool (fo k).2 ∧ Lo W2 wr o (fo k).1) (fun _ _ i _ => n - (intOf i).toNat)
      case atStart => exact ⟨0, Nat.zero_le _, rfl, by rw [HQ0.out], HQ.out⟩
      case round =>
        clear HQ HQ0
        obtain ⟨k, hk, rfl, rfl, hq⟩ := hrel
        have HQ := Lib.hid hq
        clear hq
        have hlen := HF.out.2.2.2 k
        have c1 := (HQ.out.old.cell (p := ⟨b, 0, none⟩) hbl).trans (Joins.cell_of_block HR1.out 0)
        have c2 := (HQ.out.old.cell (p := ⟨b, 1, none⟩) hbl).trans (Joins.cell_of_block HR1.out 1)
        have c3 := (HQ.out.old.cell (p := ⟨b, 2, none⟩) hbl).trans (Joins.cell_of_block HR1.out 2)
        have HRb : Hid (∀ W, Below W2.heap.size W2 W → W.rangeAt b 0 (rcs (⟨c, x, d3⟩ : R)).toList) := fun W hW j v hv => by
          rw [Nat.zero_add]
          exact (hW.cell (p := ⟨b, j, none⟩) hbl).trans ((Joins.cell_of_block HR1.out j).trans (by simpa using hv))
        simp only [List.getElem?_toArray, List.getElem?_cons_zero, List.getElem?_cons_succ] at c1 c2 c3
        have hbase := HQ.out.old.size
        by_cases hlt : k < n
        · obtain ⟨s, hs⟩ : ∃ s, L[k]? = some s := ⟨L[k]'(by rw [HL.out]; exact hlt), List.getElem?_eq_getElem _⟩
          have HS := Lib.hid (HF.out.2.1 k s hs)
          obtain ⟨g, o, rfl, hgl, hrg⟩ := HA1.out k s hs
          have HRs : Hid (∀ W, Below W2.heap.size W2 W → W.rangeAt g (o + k * 3) (rcs s).toList) := fun W hW j v hv => (hW.cell (p := ⟨g, o + k * 3 + j, none⟩) hgl).trans (hrg j v hv)
          have s1 := (HRs.out _ HQ.out.old) 0 _ rfl
          rw [Nat.add_zero] at s1
          have hkn : (k : Int) < n := by omega
          clear hrg hs
          obtain ⟨l, hl⟩ : ∃ l, (fo k).1 = l := ⟨_, rfl⟩
          obtain ⟨d, hd⟩ : ∃ d, (fo k).2 = d := ⟨_, rfl⟩
          have hfk : fo k = (l, d) := by rw [← hl, ← hd]
          rw [hfk] at HS
          rw [hl] at HQ hlen
          rw [hd]
          clear hl hd hfk
          cases d with
          | false =>
            by_cases h4 : c ≤ s.code
            · go_wp2_with (first | (refine ldrm rfl _ rfl b 0 (⟨c, x, d3⟩ : R) rfl (HRb.out _ HQ.out.old) ?_) | (at_builtin; refine app_r rfl _ _ rfl W2.heap.size _ l rfl (HQ.out.row.alloc _) wr.heap.size 1 (⟨c, x, d3⟩ : R) rfl (range_r wr (⟨c, x, d3⟩ : R)) (by omega) (by simp; omega) ?_) | fail)
              intro v4 W4 h5 hb5
              replace HQ := Lib.hid ((HQ.out.alloc (.cells (rcs (⟨c, x, d3⟩ : R)) 30)).app h5 hb5)
              have s2 := (HRs.out _ HQ.out.old) 0 _ rfl
              rw [Nat.add_zero] at s2
              have hbase2 := HQ.out.old.size
              clear h5 hb5 s1 c1 c2 c3
              by_cases h5 : s.code = c
              · have h6 : (s.code == c) = true := by simp [h5]
                have HN : Hid (fo (k + 1) = (l ++ [(⟨c, x, d3⟩ : R)], true)) := by show _ = _; rw [HS.out]; simp [Fa.step, h5]
                clear HS h5
                go_wp2_with fail
                go_roundw
                case rel => exact ⟨k + 1, by omega, by go_num, by rw [HN.out], by rw [HN.out]; exact HQ.out⟩
                case measure => simp [intOf]; omega
              · have h6 : (s.code == c) = false := by simp [h5]
                have HN : Hid (fo (k + 1) = (l ++ [(⟨c, x, d3⟩ : R)] ++ [s], true)) := by show _ = _; rw [HS.out]; simp [Fa.step, h4, h5]
                have hl2 : (l ++ [(⟨c, x, d3⟩ : R)]).length ≤ 2 * k + 1 := by simp; omega
                obtain ⟨l2, hl3⟩ : ∃ l2, l ++ [(⟨c, x, d3⟩ : R)] = l2 := ⟨_, rfl⟩
                rw [hl3] at HQ HN hl2
                clear HS h5 hl3
                go_wp2_with (first | (refine ldrm rfl _ rfl g (o + k * 3) s rfl (HRs.out _ HQ.out.old) ?_) | (at_builtin; refine app_r rfl _ _ rfl W2.heap.size _ l2 rfl (HQ.out.row.alloc _) W4.heap.size 1 s rfl (range_r W4 s) (by omega) (by simp; omega) ?_) | fail)
                intro v5 W5 h7 hb7
                replace HQ := Lib.hid ((HQ.out.alloc (.cells (rcs s) 30)).app h7 hb7)
                clear h7 hb7
                go_wp2_with fail
                go_roundw
                case rel => exact ⟨k + 1, by omega, by go_num, by rw [HN.out], by rw [HN.out]; exact HQ.out⟩
                case measure => simp [intOf]; omega
            · have h6 : (s.code == c) = false := by simp; omega
              have h7 : decide (c ≤ s.code) = false := decide_eq_false h4
              have HN : Hid (fo (k + 1) = (l ++ [s], false)) := by
                have h8 : ¬ s.code = c := by omega
                show _ = _
                rw [HS.out]
                simp [Fa.step, h4, h8]
              clear HS h4
              go_wp2_with (first | (refine ldrm rfl _ rfl g (o + k * 3) s rfl (HRs.out _ HQ.out.old) ?_) | (at_builtin; refine app_r rfl _ _ rfl W2.heap.size _ l rfl (HQ.out.row.alloc _) wr.heap.size 1 s rfl (range_r wr s) (by omega) (by simp; omega) ?_) | fail)
              intro v5 W5 h8 hb8
              replace HQ := Lib.hid ((HQ.out.alloc (.cells (rcs s) 30)).app h8 hb8)
              clear h8 hb8
              go_wp2_with fail
              go_roundw
              case rel => exact ⟨k + 1, by omega, by go_num, by rw [HN.out], by rw [HN.out]; exact HQ.out⟩
              case measure => simp [intOf]; omega
          | true =>
            by_cases h5 : s.code = c
            · have h6 : (s.code == c) = true := by simp [h5]
              have HN : Hid (fo (k + 1) = (l, true)) := by show _ = _; rw [HS.out]; simp [Fa.step, h5]
              clear HS h5
              go_wp2_with fail
              go_roundw
              case rel => exact ⟨k + 1, by omega, by go_num, by rw [HN.out], by rw [HN.out]; exact HQ.out⟩
              case measure => simp [intOf]; omega
            · have h6 : (s.code == c) = false := by simp [h5]
              have HN : Hid (fo (k + 1) = (l ++ [s], true)) := by show _ = _; rw [HS.out]; simp [Fa.step, h5]
              clear HS h5
              go_wp2_with (first | (refine ldrm rfl _ rfl g (o + k * 3) s rfl (HRs.out _ HQ.out.old) ?_) | (at_builtin; refine app_r rfl _ _ rfl W2.heap.size _ l rfl (HQ.out.row.alloc _) wr.heap.size 1 s rfl (range_r wr s) (by omega) (by simp; omega) ?_) | fail)
              intro v5 W5 h8 hb8
              replace HQ := Lib.hid ((HQ.out.alloc (.cells (rcs s) 30)).app h8 hb8)
              clear h8 hb8
              go_wp2_with fail
              go_roundw
              case rel => exact ⟨k + 1, by omega, by go_num, by rw [HN.out], by rw [HN.out]; exact HQ.out⟩
              case measure => simp [intOf]; omega
        · obtain rfl : k = n := by omega
          have HEn := Lib.hid HF.out.2.2.1
          obtain ⟨l, hl⟩ : ∃ l, (fo k).1 = l := ⟨_, rfl⟩
          obtain ⟨d, hd⟩ : ∃ d, (fo k).2 = d := ⟨_, rfl⟩
          have hfk : fo k = (l, d) := by rw [← hl, ← hd]
          rw [hfk] at HEn
          rw [hl] at HQ hlen
          rw [hd]
          clear hl hd hfk
          have hbw : w.heap.size ≤ W2.heap.size := HB1.out.size
          cases d with
          | true =>
            have e : ends (⟨c, x, d3⟩ : R) (l, true) = l := by simp [ends]
            rw [e] at HEn
            go_wp2_with fail
            go_ret2
            exact ⟨_, rfl, by rw [← HEn.out]; exact HQ.out.row.base_le hbw, HB1.out.trans (HQ.out.old.mono hbw)⟩
          | false =>
            have e : ends (⟨c, x, d3⟩ : R) (l, false) = l ++ [(⟨c, x, d3⟩ : R)] := by simp [ends]
            rw [e] at HEn
            go_wp2_with (first | (refine ldrm rfl _ rfl b 0 (⟨c, x, d3⟩ : R) rfl (HRb.out _ HQ.out.old) ?_) | (at_builtin; refine app_r rfl _ _ rfl W2.heap.size _ l rfl (HQ.out.row.alloc _) wr.heap.size 1 (⟨c, x, d3⟩ : R) rfl (range_r wr (⟨c, x, d3⟩ : R)) (by omega) (by simp; omega) ?_) | fail)
            intro v4 W4 h5 hb5
            replace HQ := Lib.hid ((HQ.out.alloc (.cells (rcs (⟨c, x, d3⟩ : R)) 30)).app h5 hb5)
            clear h5 hb5
            go_wp2_with fail
            go_ret2
            exact ⟨_, rfl, by rw [← HEn.out]; exact HQ.out.row.base_le hbw, HB1.out.trans (HQ.out.old.mono hbw)⟩
  · obtain ⟨hh, rfl⟩ := hcase
    rw [hh] at H1
    obtain ⟨x0, hx0⟩ : ∃ x0, got c L = x0 := ⟨_, rfl⟩
    rw [hx0] at H1
    clear hh hx0
    go_enter Try.func11, Try.ntmps11
    go_wp2_with fail
    refine H1.out.mono ?_
    rintro e W1 ⟨rfl, hb1⟩
    have HA1 := Lib.hid ((HA.out.below hb1).below ((Below.refl _ _).alloc (Nat.le_refl _) (.cells (rcs (⟨c, 1, false⟩ : R)) 30)))
    have HB1 := Lib.hid (hb1.trans (((Below.refl _ _).alloc (Nat.le_refl _) (.cells (rcs (⟨c, 1, false⟩ : R)) 30)).mono hb1.size))
    have HR1 := Lib.hid (heap_alloc_last W1 (.cells (rcs (⟨c, 1, false⟩ : R)) 30))
    clear hb1 H1 HA
    go_wp2_with fail
    obtain ⟨W2, hW2⟩ : ∃ W2, W1.alloc (.cells (rcs (⟨c, 1, false⟩ : R)) 30) = W2 := ⟨_, rfl⟩
    rw [hW2] at HA1 HB1 HR1
    change Code.wp _ _ _ _ (W1.alloc (.cells (rcs (⟨c, 1, false⟩ : R)) 30))
    rw [hW2]
    clear hW2
    obtain ⟨b, hb⟩ : ∃ b, W1.heap.size = b := ⟨_, rfl⟩
    rw [hb] at HR1 ⊢
    clear hb
    have hbl : b < W2.heap.size := (Array.getElem?_eq_some_iff.1 HR1.out).1
    have HQ : Hid (Lo W2 W2 (.slice none 0 0) (fo 0).1) := by rw [HF.out.1]; exact ⟨Rw.nil _ _ _ _ _, Below.refl _ _⟩
    have HQ0 : Hid ((fo 0).2 = false) := by rw [HF.out.1]; rfl
    go_loopw [8, 9, 10] (fun o d i wr => ∃ k : Nat, k ≤ n ∧ i = .int .i64 k ∧ d = .bool (fo k).2 ∧ Lo W2 wr o (fo k).1) (fun _ _ i _ => n - (intOf i).toNat)
    case atStart => exact ⟨0, Nat.zero_le _, rfl, by rw [HQ0.out], HQ.out⟩
    case round =>
      clear HQ HQ0
      obtain ⟨k, hk, rfl, rfl, hq⟩ := hrel
      have HQ := Lib.hid hq
      clear hq
      have hlen := HF.out.2.2.2 k
      have c1 := (HQ.out.old.cell (p := ⟨b, 0, none⟩) hbl).trans (Joins.cell_of_block HR1.out 0)
      have c2 := (HQ.out.old.cell (p := ⟨b, 1, none⟩) hbl).trans (Joins.cell_of_block HR1.out 1)
      have c3 := (HQ.out.old.cell (p := ⟨b, 2, none⟩) hbl).trans (Joins.cell_of_block HR1.out 2)
      have HRb : Hid (∀ W, Below W2.heap.size W2 W → W.rangeAt b 0 (rcs (⟨c, 1, false⟩ : R)).toList) := fun W hW j v hv => by
        rw [Nat.zero_add]
        exact (hW.cell (p := ⟨b, j, none⟩) hbl).trans ((Joins.cell_of_block HR1.out j).trans (by simpa using hv))
      simp only [List.getElem?_toArray, List.getElem?_cons_zero, List.getElem?_cons_succ] at c1 c2 c3
      have hbase := HQ.out.old.size
      by_cases hlt : k < n
      · obtain ⟨s, hs⟩ : ∃ s, L[k]? = some s := ⟨L[k]'(by rw [HL.out]; exact hlt), List.getElem?_eq_getElem _⟩
        have HS := Lib.hid (HF.out.2.1 k s hs)
        obtain ⟨g, o, rfl, hgl, hrg⟩ := HA1.out k s hs
        have HRs : Hid (∀ W, Below W2.heap.size W2 W → W.rangeAt g (o + k * 3) (rcs s).toList) := fun W hW j v hv => (hW.cell (p := ⟨g, o + k * 3 + j, none⟩) hgl).trans (hrg j v hv)
        have s1 := (HRs.out _ HQ.out.old) 0 _ rfl
        rw [Nat.add_zero] at s1
        have hkn : (k : Int) < n := by omega
        clear hrg hs
        obtain ⟨l, hl⟩ : ∃ l, (fo k).1 = l := ⟨_, rfl⟩
        obtain ⟨d, hd⟩ : ∃ d, (fo k).2 = d := ⟨_, rfl⟩
        have hfk : fo k = (l, d) := by rw [← hl, ← hd]
        rw [hfk] at HS
        rw [hl] at HQ hlen
        rw [hd]
        clear hl hd hfk
        cases d with
        | false =>
          by_cases h4 : c ≤ s.code
          · go_wp2_with (first | (refine ldrm rfl _ rfl b 0 (⟨c, 1, false⟩ : R) rfl (HRb.out _ HQ.out.old) ?_) | (at_builtin; refine app_r rfl _ _ rfl W2.heap.size _ l rfl (HQ.out.row.alloc _) wr.heap.size 1 (⟨c, 1, false⟩ : R) rfl (range_r wr (⟨c, 1, false⟩ : R)) (by omega) (by simp; omega) ?_) | fail)
            intro v4 W4 h5 hb5
            replace HQ := Lib.hid ((HQ.out.alloc (.cells (rcs (⟨c, 1, false⟩ : R)) 30)).app h5 hb5)
            have s2 := (HRs.out _ HQ.out.old) 0 _ rfl
            rw [Nat.add_zero] at s2
            have hbase2 := HQ.out.old.size
            clear h5 hb5 s1 c1 c2 c3
            by_cases h5 : s.code = c
            · have h6 : (s.code == c) = true := by simp [h5]
              have HN : Hid (fo (k + 1) = (l ++ [(⟨c, 1, false⟩ : R)], true)) := by show _ = _; rw [HS.out]; simp [Fa.step, h5]
              clear HS h5
              go_wp2_with fail
              go_roundw
              case rel => exact ⟨k + 1, by omega, by go_num, by rw [HN.out], by rw [HN.out]; exact HQ.out⟩
              case measure => simp [intOf]; omega
            · have h6 : (s.code == c) = false := by simp [h5]
              have HN : Hid (fo (k + 1) = (l ++ [(⟨c, 1, false⟩ : R)] ++ [s], true)) := by show _ = _; rw [HS.out]; simp [Fa.step, h4, h5]
              have hl2 : (l ++ [(⟨c, 1, false⟩ : R)]).length ≤ 2 * k + 1 := by simp; omega
              obtain ⟨l2, hl3⟩ : ∃ l2, l ++ [(⟨c, 1, false⟩ : R)] = l2 := ⟨_, rfl⟩
              rw [hl3] at HQ HN hl2
              clear HS h5 hl3
              go_wp2_with (first | (refine ldrm rfl _ rfl g (o + k * 3) s rfl (HRs.out _ HQ.out.old) ?_) | (at_builtin; refine app_r rfl _ _ rfl W2.heap.size _ l2 rfl (HQ.out.row.alloc _) W4.heap.size 1 s rfl (range_r W4 s) (by omega) (by simp; omega) ?_) | fail)
              intro v5 W5 h7 hb7
              replace HQ := Lib.hid ((HQ.out.alloc (.cells (rcs s) 30)).app h7 hb7)
              clear h7 hb7
              go_wp2_with fail
              go_roundw
              case rel => exact ⟨k + 1, by omega, by go_num, by rw [HN.out], by rw [HN.out]; exact HQ.out⟩
              case measure => simp [intOf]; omega
          · have h6 : (s.code == c) = false := by simp; omega
            have h7 : decide (c ≤ s.code) = false := decide_eq_false h4
            have HN : Hid (fo (k + 1) = (l ++ [s], false)) := by
              have h8 : ¬ s.code = c := by omega
              show _ = _
              rw [HS.out]
              simp [Fa.step, h4, h8]
            clear HS h4
            go_wp2_with (first | (refine ldrm rfl _ rfl g (o + k * 3) s rfl (HRs.out _ HQ.out.old) ?_) | (at_builtin; refine app_r rfl _ _ rfl W2.heap.size _ l rfl (HQ.out.row.alloc _) wr.heap.size 1 s rfl (range_r wr s) (by omega) (by simp; omega) ?_) | fail)
            intro v5 W5 h8 hb8
            replace HQ := Lib.hid ((HQ.out.alloc (.cells (rcs s) 30)).app h8 hb8)
            clear h8 hb8
            go_wp2_with fail
            go_roundw
            case rel => exact ⟨k + 1, by omega, by go_num, by rw [HN.out], by rw [HN.out]; exact HQ.out⟩
            case measure => simp [intOf]; omega
        | true =>
          by_cases h5 : s.code = c
          · have h6 : (s.code == c) = true := by simp [h5]
            have HN : Hid (fo (k + 1) = (l, true)) := by show _ = _; rw [HS.out]; simp [Fa.step, h5]
            clear HS h5
            go_wp2_with fail
            go_roundw
            case rel => exact ⟨k + 1, by omega, by go_num, by rw [HN.out], by rw [HN.out]; exact HQ.out⟩
            case measure => simp [intOf]; omega
          · have h6 : (s.code == c) = false := by simp [h5]
            have HN : Hid (fo (k + 1) = (l ++ [s], true)) := by show _ = _; rw [HS.out]; simp [Fa.step, h5]
            clear HS h5
            go_wp2_with (first | (refine ldrm rfl _ rfl g (o + k * 3) s rfl (HRs.out _ HQ.out.old) ?_) | (at_builtin; refine app_r rfl _ _ rfl W2.heap.size _ l rfl (HQ.out.row.alloc _) wr.heap.size 1 s rfl (range_r wr s) (by omega) (by simp; omega) ?_) | fail)
            intro v5 W5 h8 hb8
            replace HQ := Lib.hid ((HQ.out.alloc (.cells (rcs s) 30)).app h8 hb8)
            clear h8 hb8
            go_wp2_with fail
            go_roundw
            case rel => exact ⟨k + 1, by omega, by go_num, by rw [HN.out], by rw [HN.out]; exact HQ.out⟩
            case measure => simp [intOf]; omega
      · obtain rfl : k = n := by omega
        have HEn := Lib.hid HF.out.2.2.1
        obtain ⟨l, hl⟩ : ∃ l, (fo k).1 = l := ⟨_, rfl⟩
        obtain ⟨d, hd⟩ : ∃ d, (fo k).2 = d := ⟨_, rfl⟩
        have hfk : fo k = (l, d) := by rw [← hl, ← hd]
        rw [hfk] at HEn
        rw [hl] at HQ hlen
        rw [hd]
        clear hl hd hfk
        have hbw : w.heap.size ≤ W2.heap.size := HB1.out.size
        cases d with
        | true =>
          have e : ends (⟨c, 1, false⟩ : R) (l, true) = l := by simp [ends]
          rw [e] at HEn
          go_wp2_with fail
          go_ret2
          exact ⟨_, rfl, by rw [← HEn.out]; exact HQ.out.row.base_le hbw, HB1.out.trans (HQ.out.old.mono hbw)⟩
        | false =>
          have e : ends (⟨c, 1, false⟩ : R) (l, false) = l ++ [(⟨c, 1, false⟩ : R)] := by simp [ends]
          rw [e] at HEn
          go_wp2_with (first | (refine ldrm rfl _ rfl b 0 (⟨c, 1, false⟩ : R) rfl (HRb.out _ HQ.out.old) ?_) | (at_builtin; refine app_r rfl _ _ rfl W2.heap.size _ l rfl (HQ.out.row.alloc _) wr.heap.size 1 (⟨c, 1, false⟩ : R) rfl (range_r wr (⟨c, 1, false⟩ : R)) (by omega) (by simp; omega) ?_) | fail)
          intro v4 W4 h5 hb5
          replace HQ := Lib.hid ((HQ.out.alloc (.cells (rcs (⟨c, 1, false⟩ : R)) 30)).app h5 hb5)
          clear h5 hb5
          go_wp2_with fail
          go_ret2
          exact ⟨_, rfl, by rw [← HEn.out]; exact HQ.out.row.base_le hbw, HB1.out.trans (HQ.out.old.mono hbw)⟩
end Fw
end Go.Proofs.Ytddkmaplficofaa
