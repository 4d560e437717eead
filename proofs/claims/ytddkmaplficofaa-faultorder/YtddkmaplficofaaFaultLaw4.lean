/- The law on counts that never fall. -/
import Derived.Test.YtddkmaplficofaaFaultLaw3
namespace Go.Proofs.Ytddkmaplficofaa
namespace Fw
open Go.RowKit Fa Lk
open Sp (R)

theorem grows {M : List R} {c : Int} {s : R} {n i : Nat} (hg : Fa.Good M n) (hs : M[i]? = some s) : ∃ r, (got s.code (raise M c) = r ∧ has s.code (raise M c) = true) ∧ s.cnt ≤ r.cnt ∧ (s.lat = true → r.lat = true) ∧ (s.code ≠ c → r = s) := by
  have hm := List.mem_of_getElem? hs
  have hf := find_mem hg.up hm
  unfold raise
  by_cases hc : okC c = true
  · rw [if_pos hc]
    by_cases e : s.code = c
    · have h1 : find s.code (put c M) = some (bump s) := by
        have := find_put_same (c := s.code) hg.up
        rw [hf] at this
        rw [← e]
        exact this
      refine ⟨bump s, by unfold got has; rw [h1]; exact ⟨rfl, rfl⟩, bump_more (hg.few s hm).2, bump_lat, fun h => absurd e h⟩
    · have h1 : find s.code (put c M) = some s := by rw [find_put_other e, hf]
      exact ⟨s, by unfold got has; rw [h1]; exact ⟨rfl, rfl⟩, Int.le_refl _, id, fun _ => rfl⟩
  · rw [if_neg hc]
    exact ⟨s, by unfold got has; rw [hf]; exact ⟨rfl, rfl⟩, Int.le_refl _, id, fun _ => rfl⟩

/-- append of records, whatever. -/
theorem app_rs {ops : Array Oper} {Q : Exit → Act → World → Prop} {a : Act} {w : World} {rest : List Oper} {o : Oper} (hw : Region.wanted o (yielded ops a.tmps) = true)
    (s x : Operand) (ho : o.op = .call { callee := .builtin .append, args := #[s, x], argTypes := #[24, 24] })
    (base : Nat) (v : Value) (l : List R) (hs : a.eval s = v) (hown : Row w base v l) {A : Option Addr} {m c : Nat} {l2 : List R} (hx : a.eval x = .slice A m c) (h2 : Rd w A m c l2)
    (hm : l.length + m ≤ 1000000) (hbase : base ≤ w.heap.size)
    (h : ∀ v' w', Row w' base v' (l ++ l2) → Below base w w' → wpList Try.prog ops Q rest (a.put o.dst v') w') : wpList Try.prog ops Q (o :: rest) a w := by
  refine Lk.wanted hw fun _ hK => wp_app_many rf_len s x 24 ho Try.underlying24 _ 24 info_r3 rfl (by decide) rf_one (by decide) hs hown hx h2.len ?_ ?_ hm hbase fun v' w' h1 hb => hK _ _ (h v' w' h1 hb)
  · intro e
    subst e
    have h3 := h2.rcs
    by_cases h0 : m = 0
    · exact ⟨h0, (h2.nil h0).2⟩
    · obtain ⟨g, o, e, _⟩ := h3 0 _ (List.getElem?_eq_getElem (by rw [h2.len]; omega))
      cases e
  · intro ad e j u hu
    subst e
    have hl : 0 < l2.length := by
      cases l2 with
      | nil => simp at hu
      | cons _ _ => simp
    obtain ⟨g, o, e, _, hr⟩ := h2.rcs.flat hl
    injection e with e
    subst e
    rw [Addr.add_mid]
    exact hr j u hu
/-- What append made beside an empty row is a list that may be read. -/
theorem rd_row {W : World} {base : Nat} {v : Value} {l : List R} (h : Row W base v l) : ∃ A c, v = .slice A l.length c ∧ Rcs W A l := by
  obtain ⟨A, c, e, _, hR⟩ := Row.form h
  exact ⟨A, c, e, hR⟩

set_option maxRecDepth 100000 in
set_option maxHeartbeats 8000000 in
theorem FaultGrows_walk (A : Option Addr) (l : List Int) (cp : Nat) (hn : l.length ≤ 9223372036854775807) (c : Int) (w : World) (hA : Lk.IntsAt w .i64 A l) :
    Calls Try.prog 6 #[.slice A l.length cp, .int .i64 c] w fun e w' => e = .returned (.bool true) ∧ Below w.heap.size w w' := by
  have HC := Lib.hid (awake_c w)
  have HR : Hid (∀ W, Below w.heap.size w W → _) := fun W hW => raised_c A l l.length cp rfl hn W (hA.below hW)
  have hg := good_take l 100
  obtain ⟨M, hM⟩ : ∃ M, Fa.raised (l.take 100) = M := ⟨_, rfl⟩
  rw [hM] at HR hg
  have HG := Lib.hid hg
  have HGr := Lib.hid (fun (i : Nat) (s : R) (h : M[i]? = some s) => grows (c := c) hg h)
  obtain ⟨M', hM'⟩ : ∃ M', raise M c = M' := ⟨_, rfl⟩
  have HM' := Lib.hid hM'
  have HG' : Hid (Fa.Good M' 101) := by show Fa.Good _ _; rw [← hM']; exact hg.raise c
  rw [hM'] at HGr
  obtain ⟨E, hE⟩ : ∃ E, err c = E := ⟨_, rfl⟩
  have HE := Lib.hid hE
  obtain ⟨n, hl⟩ : ∃ n, l.length = n := ⟨_, rfl⟩
  rw [hl] at hn HR ⊢
  clear hA hl hM hM' hg hE
  go_enter Try.func6, Try.ntmps6
  go_wp2_with fail
  refine HC.out.mono ?_
  rintro e W0 ⟨rfl, hb0⟩
  have HB := Lib.hid hb0
  clear hb0 HC
  go_wp2_with fail
  refine (HR.out W0 HB.out).mono ?_
  rintro e W1 ⟨A1, m, c1, rfl, h1, hb1⟩
  have HQ := Lib.hid h1
  replace HB := Lib.hid (HB.out.trans (hb1.mono HB.out.size))
  have hm : m ≤ 100 := by have := h1.len; have := HG.out.len; omega
  have HRd := Lib.hid (h1.rd.below ((Below.refl _ _).alloc (Nat.le_refl _) (.cells #[] 30)))
  have HE0 : Hid (Row (W1.alloc (.cells #[] 30)) W1.heap.size (.slice (some ⟨W1.heap.size, 0, none⟩) 0 0) []) := World.ownsRow_made W1 #[] 0 (Nat.le_refl _) (Nat.zero_le _) (by simp)
  clear h1 hb1 HR
  go_wp2_with (first | (at_builtin; refine app_rs rfl _ _ rfl W1.heap.size _ [] rfl HE0.out rfl HRd.out (by simp; omega) (by simp) ?_) | fail)
  intro v2 W2 h2 hb2
  obtain ⟨A2, c2, rfl, hr2⟩ := rd_row h2
  have hl2 := HQ.out.len
  rw [hl2]
  have HR2 := Lib.hid hr2
  have hb3 : Below W1.heap.size W1 W2 := ((Below.refl _ _).alloc (Nat.le_refl _) _).trans hb2
  replace HQ := Lib.hid (HQ.out.below hb3)
  replace HB := Lib.hid (HB.out.trans (hb3.mono HB.out.size))
  clear h2 hb2 hb3 hr2 HRd HE0 hl2
  have HRz := Lib.hid (raise_c A1 m c1 M c 100 HG.out (by omega) W2 W0.heap.size HQ.out)
  rw [HM'.out, HE.out] at HRz
  go_wp2_with fail
  refine HRz.out.mono ?_
  rintro e W3 ⟨A3, c3, rfl, h3, hb3⟩
  obtain ⟨m', hm'⟩ : ∃ m', M'.length = m' := ⟨_, rfl⟩
  rw [hm'] at h3 ⊢
  have hm1 : m' ≤ 1000 := by have := HG'.out.len; omega
  replace HQ := Lib.hid (HQ.out.below hb3)
  replace HR2 := Lib.hid (HR2.out.below hb3)
  have HP := Lib.hid h3
  replace HB := Lib.hid (HB.out.trans (hb3.mono HB.out.size))
  clear h3 hb3 HRz hm'
  go_wp2_with fail
  go_loopw [10] (fun i wr => ∃ k : Nat, k ≤ m ∧ i = .int .i64 k ∧ Below W3.heap.size W3 wr) (fun i _ => m - (intOf i).toNat)
  case atStart => exact ⟨0, Nat.zero_le _, rfl, Below.refl _ _⟩
  case round =>
    obtain ⟨k, hk, rfl, hbk⟩ := hrel
    have HBk := Lib.hid hbk
    clear hbk
    by_cases hlt : k < m
    · have hkn : (k : Int) < m := by omega
      obtain ⟨s, hs⟩ : ∃ s, M[k]? = some s := ⟨M[k]'(by rw [HQ.out.len]; exact hlt), List.getElem?_eq_getElem _⟩
      obtain ⟨r, hgt, g1, g2, g3⟩ := HGr.out k s hs
      obtain ⟨g, o, rfl, hgl, hr0⟩ := HQ.out.rcs k s hs
      have HX : Hid (∀ W, Below W3.heap.size W3 W → W.rangeAt g (o + k * 3) (rcs s).toList) := fun W hW j v hv => (hW.cell (p := ⟨g, o + k * 3 + j, none⟩) hgl).trans (hr0 j v hv)
      obtain ⟨s0, _, _⟩ := rc_cells (HX.out wr HBk.out)
      have HF := Lib.hid (find_v hgt hm1 (HP.out.below HBk.out))
      have d1 : decide (r.cnt < s.cnt) = false := decide_eq_false (by omega)
      clear hs hgt hr0 g1
      go_wp2_with fail
      refine HF.out.mono ?_
      rintro e W4 ⟨rfl, hb4⟩
      have hb5 : Below W3.heap.size W3 (W4.alloc (.cells (rcs r) 30)) := HBk.out.trans ((hb4.trans (((Below.refl _ _).alloc (Nat.le_refl _) _).mono hb4.size)).mono HBk.out.size)
      have HB5 := Lib.hid hb5
      obtain ⟨x0, x1, x2⟩ := rc_cells (HX.out _ hb5)
      have z := heap_alloc_last W4 (.cells (rcs r) 30)
      have z0 := Joins.cell_of_block z 0
      have z1 := Joins.cell_of_block z 1
      have z2 := Joins.cell_of_block z 2
      simp only [List.getElem?_toArray, List.getElem?_cons_zero, List.getElem?_cons_succ] at z0 z1 z2
      clear hb4 hb5 HF s0 z HX
      go_wp2_with fail
      obtain ⟨W5, hW5⟩ : ∃ W5, W4.alloc (.cells (rcs r) 30) = W5 := ⟨_, rfl⟩
      rw [hW5] at HB5 x0 x1 x2 z0 z1 z2
      change Code.wp _ _ _ _ (W4.alloc (.cells (rcs r) 30))
      rw [hW5]
      clear hW5
      have hE := neq_r s s
      simp only [decide_true, Bool.not_true] at hE
      by_cases hc : s.code = c
      · have d2 : (s.code != c) = false := by simp [hc]
        clear g3 hc hE
        cases hsl : s.lat with
        | false =>
          rw [hsl] at x2
          clear g2
          go_quiet (fail)
          go_wp2_with fail
          go_roundw
          case rel => exact ⟨k + 1, by omega, by go_num, below_n HB5.out _⟩
          case measure => simp [intOf]; omega
        | true =>
          rw [hsl] at x2
          rw [g2 hsl] at z2
          clear g2
          go_quiet (fail)
          go_wp2_with fail
          go_roundw
          case rel => exact ⟨k + 1, by omega, by go_num, below_n HB5.out _⟩
          case measure => simp [intOf]; omega
      · obtain rfl := g3 hc
        have d2 : (r.code != c) = true := by simp [hc]
        clear g3 hc g2
        cases hsl : r.lat with
        | false =>
          rw [hsl] at x2 z2
          simp only [rcs, hsl] at hE
          go_quiet (fail)
          go_wp2_with fail
          go_roundw
          case rel => exact ⟨k + 1, by omega, by go_num, below_n HB5.out _⟩
          case measure => simp [intOf]; omega
        | true =>
          rw [hsl] at x2 z2
          simp only [rcs, hsl] at hE
          go_quiet (fail)
          go_wp2_with fail
          go_roundw
          case rel => exact ⟨k + 1, by omega, by go_num, below_n HB5.out _⟩
          case measure => simp [intOf]; omega
    · obtain rfl : k = m := by omega
      have HS := Lib.hid (same_c _ A2 M M k k c1 c2 HQ.out.len HQ.out.len (by omega) wr (HQ.out.rcs.below HBk.out) (HR2.out.below HBk.out))
      rw [decide_eq_true (rfl : M = M)] at HS
      replace HB := Lib.hid (HB.out.trans (HBk.out.mono HB.out.size))
      clear HBk HQ HR2 HP HGr
      go_wp2_with fail
      refine HS.out.mono ?_
      rintro e W4 ⟨rfl, hb4⟩
      replace HB := Lib.hid (HB.out.trans (hb4.mono HB.out.size))
      clear hb4 HS
      have hcase : (c < 1 ∧ E = 1) ∨ (1 ≤ c ∧ 255 < c ∧ E = 1) ∨ (1 ≤ c ∧ c ≤ 255 ∧ E = 0) := by
        rw [← HE.out]
        unfold err okC
        by_cases h : 1 ≤ c ∧ c ≤ 255
        · rw [if_pos (decide_eq_true h)]; exact .inr (.inr ⟨h.1, h.2, rfl⟩)
        · rw [if_neg (by simpa using h)]; omega
      clear HE HM'
      rcases hcase with ⟨e1, rfl⟩ | ⟨e1, e2, rfl⟩ | ⟨e1, e2, rfl⟩
      · have e3 : decide (1 ≤ c) = false := decide_eq_false (by omega)
        go_wp2_with fail
        go_ret
        exact ⟨rfl, HB.out⟩
      · have e3 : decide (c ≤ 255) = false := decide_eq_false (by omega)
        go_wp2_with fail
        go_ret
        exact ⟨rfl, HB.out⟩
      · go_wp2_with fail
        go_ret
        exact ⟨rfl, HB.out⟩
end Fw
end Go.Proofs.Ytddkmaplficofaa
