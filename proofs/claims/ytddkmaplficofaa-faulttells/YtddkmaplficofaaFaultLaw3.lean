/- The laws on records behind faults: what the document says; how often a code came. -/
import Derived.Test.YtddkmaplficofaaFaultLaw1
namespace Go.Proofs.Ytddkmaplficofaa
namespace Fw
open Go.RowKit Fa Lk
open Sp (R)

theorem same_t {A B : Option Addr} {L : List R} {n ca cb : Nat} {w : World} (hA : Rd w A n ca L) (hB : Rd w B n cb L) (hn : n ≤ 1000) :
    Calls Try.prog 12 #[.slice A n ca, .slice B n cb] w fun e w' => e = .returned (.bool true) ∧ Below w.heap.size w w' := by
  have := same_c A B L L n n ca cb hA.len hB.len hn w hA.rcs hB.rcs
  rwa [decide_eq_true (rfl : L = L)] at this
theorem rfind_v {A : Option Addr} {n cp : Nat} {L : List R} {c : Int} {r : R} {b : Bool} (hg : got c L = r ∧ has c L = b) (hn : n ≤ 1000) {w : World} (h : Rd w A n cp L) :
    Calls Try.prog 14 #[.slice A n cp, .int .i64 c] w fun e w' => e = .returned (.tuple #[.agg (rcs r), .bool b]) ∧ Below w.heap.size w w' := by
  obtain ⟨rfl, rfl⟩ := hg
  exact rfind_c A n cp L c h.len hn w h.rcs

set_option maxRecDepth 100000 in
set_option maxHeartbeats 8000000 in
theorem FaultTells_walk (A : Option Addr) (l : List Int) (cp : Nat) (hn : l.length ≤ 9223372036854775807) (w : World) (hA : Lk.IntsAt w .i64 A l) :
    Calls Try.prog 3 #[.slice A l.length cp] w fun e w' => e = .returned (.bool true) ∧ Below w.heap.size w w' := by
  have HC := Lib.hid (awake_c w)
  have HA := Lib.hid hA
  obtain ⟨n, hl⟩ : ∃ n, l.length = n := ⟨_, rfl⟩
  rw [hl] at hn ⊢
  have HL := Lib.hid hl
  have HG := Lib.hid (fun k => good_take l k)
  clear hA hl
  go_enter Try.func3, Try.ntmps3
  go_wp2_with fail
  refine HC.out.mono ?_
  rintro e W0 ⟨rfl, hb0⟩
  have HB0 := Lib.hid hb0
  have HQ : Hid (Lst W0 w.heap.size none 0 0 (Fa.raised (l.take 0)) ∧ Rd W0 none 0 0 (Fa.raised (l.take 0))) := ⟨Lst.none _ _, Rd.none _⟩
  clear hb0 HC
  go_wp2_with fail
  go_loopw [4, 5, 6] (fun v u i wr => ∃ k : Nat, (k ≤ n ∧ k ≤ 100) ∧ i = .int .i64 k ∧ (∃ A1 A2 m c1 c2, v = .slice A1 m c1 ∧ u = .slice A2 m c2 ∧ Lst wr w.heap.size A1 m c1 (Fa.raised (l.take k)) ∧ Rd wr A2 m c2 (Fa.raised (l.take k))) ∧ Below w.heap.size w wr) (fun _ _ i _ => n - (intOf i).toNat)
  case atStart => exact ⟨0, ⟨Nat.zero_le _, Nat.zero_le _⟩, rfl, ⟨none, none, 0, 0, 0, rfl, rfl, HQ.out.1, HQ.out.2⟩, HB0.out⟩
  case round =>
    clear HQ HB0
    obtain ⟨k, ⟨hk, hk1⟩, rfl, ⟨A1, A2, m, c1, c2, rfl, rfl, hq1, hq2⟩, hb⟩ := hrel
    have HQ1 := Lib.hid hq1
    have HQ2 := Lib.hid hq2
    have HB := Lib.hid hb
    clear hq1 hq2 hb
    by_cases hlt : k < n
    · have hkn : (k : Int) < n := by omega
      by_cases h100 : k < 100
      · obtain ⟨x, hx⟩ : ∃ x, l[k]? = some x := ⟨l[k]'(by rw [HL.out]; exact hlt), List.getElem?_eq_getElem _⟩
        obtain ⟨g, o, rfl, hc0⟩ := HA.out k (by rw [HL.out]; exact hlt)
        have hx2 : l.getD k 0 = x := by rw [List.getD_eq_getElem?_getD, hx]; rfl
        rw [hx2] at hc0
        have hgl := World.block_lt_of_cell? _ _ hc0
        have HX : Hid (∀ W, Below w.heap.size w W → W.cell? ⟨g, o + k, none⟩ = some (.int .i64 x)) := fun W hW => (hW.cell (p := ⟨g, o + k, none⟩) hgl).trans hc0
        have HN := Lib.hid (raised_next hx)
        have h2 : (k : Int) < 100 := by omega
        have HGk := HG.out k
        have HGn := HG.out (k + 1)
        rw [HN.out] at HGn
        obtain ⟨M, hM⟩ : ∃ M, Fa.raised (l.take k) = M := ⟨_, rfl⟩
        obtain ⟨M', hM'⟩ : ∃ M', raise M x = M' := ⟨_, rfl⟩
        rw [hM] at HQ1 HQ2 HN HGk HGn
        rw [hM'] at HN HGn
        obtain ⟨E, hE⟩ : ∃ E, err x = E := ⟨_, rfl⟩
        obtain ⟨m', hm'⟩ : ∃ m', M'.length = m' := ⟨_, rfl⟩
        have hm1000 : m' ≤ 1000 := by have := HGn.len; omega
        have HC1 := Lib.hid (raise_c A1 m c1 M x k HGk (by omega) wr w.heap.size HQ1.out)
        have HC2 : Hid (∀ W, Below wr.heap.size wr W → _) := fun W hW => rraise_c A2 m c2 M x k HGk (by omega) W (HQ2.out.below hW)
        rw [hM', hm', hE] at HC1 HC2
        obtain ⟨r, hr⟩ : ∃ r, got x M' = r := ⟨_, rfl⟩
        obtain ⟨b, hb⟩ : ∃ b, has x M' = b := ⟨_, rfl⟩
        have HGT : Hid (got x M' = r ∧ has x M' = b) := ⟨hr, hb⟩
        have c0 := HX.out wr HB.out
        clear hx hx2 hM hM' hE hm' hr hb hc0 HGk HGn HA
        go_wp2_with fail
        refine HC1.out.mono ?_
        rintro e W1 ⟨A3, c3, rfl, h1, hb1⟩
        have HX1 := Lib.hid (h1.le HB.out.size)
        have HB1 := Lib.hid (HB.out.trans (hb1.mono HB.out.size))
        have HR1 := Lib.hid hb1
        have c0' := HX.out W1 HB1.out
        clear h1 hb1 HC1 HQ1 HB c0
        go_wp2_with fail
        refine (HC2.out W1 HR1.out).mono ?_
        rintro e W2 ⟨A4, c4, rfl, h2', hb2⟩
        replace HX1 := Lib.hid (HX1.out.below hb2)
        have HX2 := Lib.hid h2'
        replace HB1 := Lib.hid (HB1.out.trans (hb2.mono HB1.out.size))
        clear h2' hb2 HC2 HQ2 HR1 c0'
        go_wp2_with fail
        refine (same_t HX1.out.rd HX2.out hm1000).mono ?_
        rintro e W3 ⟨rfl, hb3⟩
        replace HX1 := Lib.hid (HX1.out.below hb3)
        replace HX2 := Lib.hid (HX2.out.below hb3)
        replace HB1 := Lib.hid (HB1.out.trans (hb3.mono HB1.out.size))
        have c0 := HX.out W3 HB1.out
        clear hb3
        go_wp2_with fail
        refine (find_v HGT.out hm1000 HX1.out).mono ?_
        rintro e W4 ⟨rfl, hb4⟩
        have hb5 : Below W3.heap.size W3 (W4.alloc (.cells (rcs r) 30)) := hb4.trans (((Below.refl _ _).alloc (Nat.le_refl _) _).mono hb4.size)
        replace HX1 := Lib.hid (HX1.out.below hb5)
        replace HX2 := Lib.hid (HX2.out.below hb5)
        replace HB1 := Lib.hid (HB1.out.trans (hb5.mono HB1.out.size))
        have HZ := Lib.hid (heap_alloc_last W4 (.cells (rcs r) 30))
        have c0' := HX.out _ HB1.out
        clear hb4 hb5 c0
        go_wp2_with fail
        refine (rfind_v HGT.out hm1000 HX2.out).mono ?_
        rintro e W6 ⟨rfl, hb6⟩
        have hb7 : Below (W4.alloc (.cells (rcs r) 30)).heap.size (W4.alloc (.cells (rcs r) 30)) (W6.alloc (.cells (rcs r) 30)) := hb6.trans (((Below.refl _ _).alloc (Nat.le_refl _) _).mono hb6.size)
        replace HX1 := Lib.hid (HX1.out.below hb7)
        replace HX2 := Lib.hid (HX2.out.below hb7)
        replace HB1 := Lib.hid (HB1.out.trans (hb7.mono HB1.out.size))
        have z := (hb7.block W4.heap.size (by simp)).trans HZ.out
        have z0 := Joins.cell_of_block z 0
        have z1 := Joins.cell_of_block z 1
        have z2 := Joins.cell_of_block z 2
        simp only [List.getElem?_toArray, List.getElem?_cons_zero, List.getElem?_cons_succ] at z0 z1 z2
        have E1 := neq_r r r
        simp only [decide_true, Bool.not_true] at E1
        clear hb6 hb7 z HZ c0' HGT
        go_wp2_with fail
        go_roundw
        case rel => exact ⟨k + 1, ⟨by omega, by omega⟩, by go_num, ⟨A3, A4, m', c3, c4, rfl, rfl, by rw [HN.out]; exact HX1.out, by rw [HN.out]; exact HX2.out⟩, HB1.out⟩
        case measure => simp [intOf]; omega
      · have h2 : decide ((k : Int) < 100) = false := decide_eq_false (by omega)
        obtain rfl : k = 100 := by omega
        go_wp2_with fail
        go_ret
        exact ⟨rfl, HB.out⟩
    · have h2 : decide ((k : Int) < n) = false := decide_eq_false (by omega)
      obtain rfl : k = n := by omega
      go_wp2_with fail
      go_ret
      exact ⟨rfl, HB.out⟩

theorem rising_step : ∀ {M : List R} {k : Nat} {r s : R}, Rising M → M[k]? = some r → M[k + 1]? = some s → r.code < s.code
  | [], k, r, s, _, h, _ => by simp at h
  | a :: M, 0, r, s, hr, h1, h2 => by
    simp only [List.getElem?_cons_zero, Option.some.injEq] at h1
    subst h1
    exact hr.1 s (List.mem_of_getElem? (by simpa using h2))
  | a :: M, k + 1, r, s, hr, h1, h2 => rising_step hr.2 (by simpa using h1) (by simpa using h2)
theorem count_next {l : List Int} {c x : Int} {k : Nat} (h : l[k]? = some x) : (l.take (k + 1)).count c = (l.take k).count c + if x = c then 1 else 0 := by
  rw [List.take_add_one, h, List.count_append]
  simp [List.count_singleton]
/-- What is found of a code that came so often. -/
theorem told_is {l : List Int} {c : Int} {n : Nat} (h : (l.take 100).count c = n) : (okC c = true → 0 < n → got c (Fa.raised (l.take 100)) = ⟨c, n, decide (3 ≤ n)⟩ ∧ has c (Fa.raised (l.take 100)) = true) ∧ (okC c = false ∨ n = 0 → has c (Fa.raised (l.take 100)) = false) := by
  have hn : n ≤ 100 := by
    rw [← h]
    have h1 := List.count_le_length (a := c) (l := l.take 100)
    have h2 : (l.take 100).length ≤ 100 := by rw [List.length_take]; omega
    omega
  have hf := find_raised (l.take 100) c
  rw [h] at hf
  unfold got has
  rw [hf]
  unfold told
  refine ⟨fun h1 h2 => ?_, fun h1 => ?_⟩
  · rw [if_pos ⟨h1, h2⟩, Nat.min_eq_left (by omega)]
    exact ⟨rfl, rfl⟩
  · rw [if_neg]
    · rfl
    · rintro ⟨g1, g2⟩
      rcases h1 with h1 | h1
      · rw [h1] at g1; cases g1
      · omega

set_option maxRecDepth 100000 in
set_option maxHeartbeats 8000000 in
theorem FaultCounts_walk (A : Option Addr) (l : List Int) (cp : Nat) (hn : l.length ≤ 9223372036854775807) (c : Int) (w : World) (hA : Lk.IntsAt w .i64 A l) :
    Calls Try.prog 5 #[.slice A l.length cp, .int .i64 c] w fun e w' => e = .returned (.bool true) ∧ Below w.heap.size w w' := by
  have HC := Lib.hid (awake_c w)
  have HA := Lib.hid hA
  have HR : Hid (∀ W, Below w.heap.size w W → _) := fun W hW => raised_c A l l.length cp rfl hn W (hA.below hW)
  have HG := Lib.hid (good_take l 100)
  have HT := Lib.hid (told_is (l := l) (c := c) rfl)
  obtain ⟨M, hM⟩ : ∃ M, Fa.raised (l.take 100) = M := ⟨_, rfl⟩
  rw [hM] at HR HG HT
  obtain ⟨N, hN⟩ : ∃ N, (l.take 100).count c = N := ⟨_, rfl⟩
  rw [hN] at HT
  have HN := Lib.hid hN
  have hN100 : N ≤ 100 := by
    rw [← hN]
    have h1 := List.count_le_length (a := c) (l := l.take 100)
    have h2 : (l.take 100).length ≤ 100 := by rw [List.length_take]; omega
    omega
  have HK : Hid (∀ k, (l.take k).count c ≤ k) := fun k => by
    have h1 := List.count_le_length (a := c) (l := l.take k)
    rw [List.length_take] at h1
    omega
  obtain ⟨n, hl⟩ : ∃ n, l.length = n := ⟨_, rfl⟩
  rw [hl] at hn HR ⊢
  have HL := Lib.hid hl
  clear hA hl hM hN
  go_enter Try.func5, Try.ntmps5
  go_wp2_with fail
  refine HC.out.mono ?_
  rintro e W0 ⟨rfl, hb0⟩
  have HB := Lib.hid hb0
  clear hb0 HC
  go_wp2_with fail
  refine (HR.out W0 HB.out).mono ?_
  rintro e W1 ⟨A1, m, c1, rfl, h1, hb1⟩
  have HQ := Lib.hid h1
  replace HB := Lib.hid (HB.out.trans (hb1.mono HB.out.size))
  have hm : m ≤ 100 := by have := h1.len; have := HG.out.len; omega
  clear h1 hb1 HR
  go_wp2_with fail
  -- how often it came
  go_loopw [7, 8] (fun v i wr => ∃ k : Nat, (k ≤ n ∧ k ≤ 100) ∧ i = .int .i64 k ∧ v = .int .i64 (((l.take k).count c : Nat) : Int) ∧ W1 = wr) (fun _ i _ => n - (intOf i).toNat)
  case atStart => exact ⟨0, ⟨Nat.zero_le _, Nat.zero_le _⟩, rfl, rfl, rfl⟩
  case round =>
    obtain ⟨k, ⟨hk, hk1⟩, rfl, rfl, rfl⟩ := hrel
    have hck := HK.out k
    by_cases hgo : k < n ∧ k < 100
    · obtain ⟨hlt, h100⟩ := hgo
      have hkn : (k : Int) < n := by omega
      have h2 : (k : Int) < 100 := by omega
      obtain ⟨x, hx⟩ : ∃ x, l[k]? = some x := ⟨l[k]'(by rw [HL.out]; exact hlt), List.getElem?_eq_getElem _⟩
      obtain ⟨g, o, rfl, hc0⟩ := (HA.out.below HB.out) k (by rw [HL.out]; exact hlt)
      have hx2 : l.getD k 0 = x := by rw [List.getD_eq_getElem?_getD, hx]; rfl
      rw [hx2] at hc0
      have HCn := Lib.hid (count_next (c := c) hx)
      obtain ⟨y, hy⟩ : ∃ y, (l.take k).count c = y := ⟨_, rfl⟩
      rw [hy] at HCn hck
      rw [hy]
      clear hx hx2 HA hy
      by_cases hxc : x = c
      · have d : (x == c) = true := by simp [hxc]
        have HE : Hid ((l.take (k + 1)).count c = y + 1) := by show _ = _; rw [HCn.out, if_pos hxc]
        clear hxc HCn
        go_wp2_with fail
        go_roundw
        case rel => exact ⟨k + 1, ⟨by omega, by omega⟩, by go_num, by rw [HE.out]; go_num, by first | rfl | trivial⟩
        case measure => simp [intOf]; omega
      · have d : (x == c) = false := by simp [hxc]
        have HE : Hid ((l.take (k + 1)).count c = y) := by show _ = _; rw [HCn.out, if_neg hxc]; rfl
        clear hxc HCn
        go_wp2_with fail
        go_roundw
        case rel => exact ⟨k + 1, ⟨by omega, by omega⟩, by go_num, by rw [HE.out], by first | rfl | trivial⟩
        case measure => simp [intOf]; omega
    · have HE : Hid ((l.take k).count c = N) := by
        show _ = _
        rw [← HN.out]
        by_cases h : k = 100
        · rw [h]
        · rw [List.take_of_length_le (by rw [HL.out]; omega), List.take_of_length_le (by rw [HL.out]; omega)]
      rw [HE.out]
      have hcase : k = n ∨ (k < n ∧ k = 100) := by omega
      clear HE HN HK HA hgo hck
      rcases hcase with rfl | ⟨d1, hk100⟩
      · go_wp2_with fail
        -- they rise
        go_loopw [9] (fun i wr => ∃ j : Nat, (1 ≤ j ∧ (j ≤ m ∨ j = 1)) ∧ i = .int .i64 j ∧ Below W1.heap.size W1 wr) (fun i _ => m + 1 - (intOf i).toNat)
        case atStart => exact ⟨1, ⟨Nat.le_refl _, .inr rfl⟩, rfl, Below.refl _ _⟩
        case round =>
          obtain ⟨j, ⟨hj1, hj2⟩, rfl, hbj⟩ := hrel
          have HBj := Lib.hid hbj
          clear hbj
          by_cases hjm : j < m
          · obtain ⟨j', rfl⟩ : ∃ j', j = j' + 1 := ⟨j - 1, by omega⟩
            obtain ⟨r, hr⟩ : ∃ r, M[j']? = some r := ⟨M[j']'(by rw [HQ.out.len]; omega), List.getElem?_eq_getElem _⟩
            obtain ⟨s, hs⟩ : ∃ s, M[j' + 1]? = some s := ⟨M[j' + 1]'(by rw [HQ.out.len]; omega), List.getElem?_eq_getElem _⟩
            have hlt := rising_step HG.out.up hr hs
            obtain ⟨g, o, rfl, _, q0⟩ := (HQ.out.below HBj.out).rcs j' r hr
            obtain ⟨g', o', e1, _, q1⟩ := (HQ.out.below HBj.out).rcs (j' + 1) s hs
            injection e1 with e1
            injection e1 with e1 e2
            subst e1; subst e2
            obtain ⟨x0, _, _⟩ := rc_cells q0
            obtain ⟨y0, _, _⟩ := rc_cells q1
            have d5 : decide (s.code ≤ r.code) = false := decide_eq_false (by omega)
            have e3 : IntKind.i64.wrap (((j' + 1 : Nat) : Int) - 1) = (j' : Int) := by rw [IntWalk.i64_in _ (by omega)]; omega
            have e4 : ((j' + 1 : Nat) : Int) - 1 = (j' : Int) := by omega
            have e5 : ((j' : Int) + 1) < (m : Int) := by omega
            have e6 : (j' : Int) < (m : Int) := by omega
            have e7 : j' < m := by omega
            have e8 : ((j' : Int) + 1).toNat = j' + 1 := by omega
            clear q0 q1 hr hs hlt HQ
            go_wp2_with fail
            go_quiet (fail)
            go_wp2_with fail
            go_roundw
            case rel => exact ⟨j' + 1 + 1, ⟨by omega, .inl (by omega)⟩, by go_num, below_n HBj.out _⟩
            case measure => simp [intOf]; omega
          · have hj3 : ¬ j < m := hjm
            have d5 : decide ((j : Int) < (m : Int)) = false := decide_eq_false (by omega)
            replace HQ := Lib.hid (HQ.out.below HBj.out)
            replace HB := Lib.hid (HB.out.trans (HBj.out.mono HB.out.size))
            clear HBj hj1 hj2
            have hcase2 : (okC c = true ∧ 0 < N) ∨ (okC c = false ∨ N = 0) := by
              cases okC c
              · exact .inr (.inl rfl)
              · by_cases h : 0 < N
                · exact .inl ⟨rfl, h⟩
                · exact .inr (.inr (by omega))
            rcases hcase2 with ⟨g1, g2⟩ | g1
            · have hgot := HT.out.1 g1 g2
              have HF := Lib.hid (find_v (r := ⟨c, N, decide (3 ≤ N)⟩) hgot (by omega) HQ.out)
              obtain ⟨g3, g4⟩ : 1 ≤ c ∧ c ≤ 255 := of_decide_eq_true g1
              have g5 : (0 : Int) < N := by omega
              clear hgot HT g1
              by_cases g6 : 3 ≤ N
              · rw [decide_eq_true g6] at HF
                have g7 : (3 : Int) ≤ N := by omega
                go_wp2_with fail
                refine HF.out.mono ?_
                rintro e W2 ⟨rfl, hb2⟩
                replace HB := Lib.hid (HB.out.trans ((hb2.trans (((Below.refl _ _).alloc (Nat.le_refl _) (.cells (rcs ⟨c, N, true⟩) 30)).mono hb2.size)).mono HB.out.size))
                clear hb2 HF
                go_wp2_with fail
                go_ret
                exact ⟨rfl, HB.out⟩
              · rw [decide_eq_false g6] at HF
                have g7 : decide ((3 : Int) ≤ N) = false := decide_eq_false (by omega)
                have g8 : ¬ 3 ≤ N := g6
                go_wp2_with fail
                refine HF.out.mono ?_
                rintro e W2 ⟨rfl, hb2⟩
                replace HB := Lib.hid (HB.out.trans ((hb2.trans (((Below.refl _ _).alloc (Nat.le_refl _) (.cells (rcs ⟨c, N, false⟩) 30)).mono hb2.size)).mono HB.out.size))
                clear hb2 HF
                go_wp2_with fail
                go_ret
                exact ⟨rfl, HB.out⟩
            · have hgot := HT.out.2 g1
              have HF := Lib.hid (find_v (r := got c M) ⟨rfl, hgot⟩ (by omega) HQ.out)
              obtain ⟨r, hr⟩ : ∃ r, got c M = r := ⟨_, rfl⟩
              rw [hr] at HF
              have hcase3 : c < 1 ∨ (1 ≤ c ∧ 255 < c) ∨ (1 ≤ c ∧ c ≤ 255 ∧ N = 0) := by
                rcases g1 with g1 | g1
                · have : ¬ (1 ≤ c ∧ c ≤ 255) := of_decide_eq_false g1
                  omega
                · omega
              clear hgot HT g1 hr
              have HB2 : Hid (∀ W2 : World, Below _ _ W2 → Below w.heap.size w (W2.alloc (.cells (rcs r) 30))) := fun W2 hb2 => HB.out.trans ((hb2.trans (((Below.refl _ _).alloc (Nat.le_refl _) _).mono hb2.size)).mono HB.out.size)
              rcases hcase3 with g2 | ⟨g2, g3⟩ | ⟨g2, g3, rfl⟩
              · have g4 : decide (1 ≤ c) = false := decide_eq_false (by omega)
                go_wp2_with fail
                refine HF.out.mono ?_
                rintro e W2 ⟨rfl, hb2⟩
                have HB3 := Lib.hid (HB2.out W2 hb2)
                clear hb2 HF HB2
                go_wp2_with fail
                go_ret
                exact ⟨rfl, HB3.out⟩
              · have g4 : decide (c ≤ 255) = false := decide_eq_false (by omega)
                go_wp2_with fail
                refine HF.out.mono ?_
                rintro e W2 ⟨rfl, hb2⟩
                have HB3 := Lib.hid (HB2.out W2 hb2)
                clear hb2 HF HB2
                go_wp2_with fail
                go_ret
                exact ⟨rfl, HB3.out⟩
              · go_wp2_with fail
                refine HF.out.mono ?_
                rintro e W2 ⟨rfl, hb2⟩
                have HB3 := Lib.hid (HB2.out W2 hb2)
                clear hb2 HF HB2
                go_wp2_with fail
                go_ret
                exact ⟨rfl, HB3.out⟩
      · have d2 : (k : Int) < n := by omega
        have d3 : decide ((k : Int) < 100) = false := decide_eq_false (by omega)
        have d4 : ¬ k < 100 := by omega
        have d5' : (100 : Int) ≤ k := by omega
        clear hk100
        go_wp2_with fail
        -- they rise
        go_loopw [9] (fun i wr => ∃ j : Nat, (1 ≤ j ∧ (j ≤ m ∨ j = 1)) ∧ i = .int .i64 j ∧ Below W1.heap.size W1 wr) (fun i _ => m + 1 - (intOf i).toNat)
        case atStart => exact ⟨1, ⟨Nat.le_refl _, .inr rfl⟩, rfl, Below.refl _ _⟩
        case round =>
          obtain ⟨j, ⟨hj1, hj2⟩, rfl, hbj⟩ := hrel
          have HBj := Lib.hid hbj
          clear hbj
          by_cases hjm : j < m
          · obtain ⟨j', rfl⟩ : ∃ j', j = j' + 1 := ⟨j - 1, by omega⟩
            obtain ⟨r, hr⟩ : ∃ r, M[j']? = some r := ⟨M[j']'(by rw [HQ.out.len]; omega), List.getElem?_eq_getElem _⟩
            obtain ⟨s, hs⟩ : ∃ s, M[j' + 1]? = some s := ⟨M[j' + 1]'(by rw [HQ.out.len]; omega), List.getElem?_eq_getElem _⟩
            have hlt := rising_step HG.out.up hr hs
            obtain ⟨g, o, rfl, _, q0⟩ := (HQ.out.below HBj.out).rcs j' r hr
            obtain ⟨g', o', e1, _, q1⟩ := (HQ.out.below HBj.out).rcs (j' + 1) s hs
            injection e1 with e1
            injection e1 with e1 e2
            subst e1; subst e2
            obtain ⟨x0, _, _⟩ := rc_cells q0
            obtain ⟨y0, _, _⟩ := rc_cells q1
            have d5 : decide (s.code ≤ r.code) = false := decide_eq_false (by omega)
            have e3 : IntKind.i64.wrap (((j' + 1 : Nat) : Int) - 1) = (j' : Int) := by rw [IntWalk.i64_in _ (by omega)]; omega
            have e4 : ((j' + 1 : Nat) : Int) - 1 = (j' : Int) := by omega
            have e5 : ((j' : Int) + 1) < (m : Int) := by omega
            have e6 : (j' : Int) < (m : Int) := by omega
            have e7 : j' < m := by omega
            have e8 : ((j' : Int) + 1).toNat = j' + 1 := by omega
            clear q0 q1 hr hs hlt HQ
            go_wp2_with fail
            go_quiet (fail)
            go_wp2_with fail
            go_roundw
            case rel => exact ⟨j' + 1 + 1, ⟨by omega, .inl (by omega)⟩, by go_num, below_n HBj.out _⟩
            case measure => simp [intOf]; omega
          · have hj3 : ¬ j < m := hjm
            have d5 : decide ((j : Int) < (m : Int)) = false := decide_eq_false (by omega)
            replace HQ := Lib.hid (HQ.out.below HBj.out)
            replace HB := Lib.hid (HB.out.trans (HBj.out.mono HB.out.size))
            clear HBj hj1 hj2
            have hcase2 : (okC c = true ∧ 0 < N) ∨ (okC c = false ∨ N = 0) := by
              cases okC c
              · exact .inr (.inl rfl)
              · by_cases h : 0 < N
                · exact .inl ⟨rfl, h⟩
                · exact .inr (.inr (by omega))
            rcases hcase2 with ⟨g1, g2⟩ | g1
            · have hgot := HT.out.1 g1 g2
              have HF := Lib.hid (find_v (r := ⟨c, N, decide (3 ≤ N)⟩) hgot (by omega) HQ.out)
              obtain ⟨g3, g4⟩ : 1 ≤ c ∧ c ≤ 255 := of_decide_eq_true g1
              have g5 : (0 : Int) < N := by omega
              clear hgot HT g1
              by_cases g6 : 3 ≤ N
              · rw [decide_eq_true g6] at HF
                have g7 : (3 : Int) ≤ N := by omega
                go_wp2_with fail
                refine HF.out.mono ?_
                rintro e W2 ⟨rfl, hb2⟩
                replace HB := Lib.hid (HB.out.trans ((hb2.trans (((Below.refl _ _).alloc (Nat.le_refl _) (.cells (rcs ⟨c, N, true⟩) 30)).mono hb2.size)).mono HB.out.size))
                clear hb2 HF
                go_wp2_with fail
                go_ret
                exact ⟨rfl, HB.out⟩
              · rw [decide_eq_false g6] at HF
                have g7 : decide ((3 : Int) ≤ N) = false := decide_eq_false (by omega)
                have g8 : ¬ 3 ≤ N := g6
                go_wp2_with fail
                refine HF.out.mono ?_
                rintro e W2 ⟨rfl, hb2⟩
                replace HB := Lib.hid (HB.out.trans ((hb2.trans (((Below.refl _ _).alloc (Nat.le_refl _) (.cells (rcs ⟨c, N, false⟩) 30)).mono hb2.size)).mono HB.out.size))
                clear hb2 HF
                go_wp2_with fail
                go_ret
                exact ⟨rfl, HB.out⟩
            · have hgot := HT.out.2 g1
              have HF := Lib.hid (find_v (r := got c M) ⟨rfl, hgot⟩ (by omega) HQ.out)
              obtain ⟨r, hr⟩ : ∃ r, got c M = r := ⟨_, rfl⟩
              rw [hr] at HF
              have hcase3 : c < 1 ∨ (1 ≤ c ∧ 255 < c) ∨ (1 ≤ c ∧ c ≤ 255 ∧ N = 0) := by
                rcases g1 with g1 | g1
                · have : ¬ (1 ≤ c ∧ c ≤ 255) := of_decide_eq_false g1
                  omega
                · omega
              clear hgot HT g1 hr
              have HB2 : Hid (∀ W2 : World, Below _ _ W2 → Below w.heap.size w (W2.alloc (.cells (rcs r) 30))) := fun W2 hb2 => HB.out.trans ((hb2.trans (((Below.refl _ _).alloc (Nat.le_refl _) _).mono hb2.size)).mono HB.out.size)
              rcases hcase3 with g2 | ⟨g2, g3⟩ | ⟨g2, g3, rfl⟩
              · have g4 : decide (1 ≤ c) = false := decide_eq_false (by omega)
                go_wp2_with fail
                refine HF.out.mono ?_
                rintro e W2 ⟨rfl, hb2⟩
                have HB3 := Lib.hid (HB2.out W2 hb2)
                clear hb2 HF HB2
                go_wp2_with fail
                go_ret
                exact ⟨rfl, HB3.out⟩
              · have g4 : decide (c ≤ 255) = false := decide_eq_false (by omega)
                go_wp2_with fail
                refine HF.out.mono ?_
                rintro e W2 ⟨rfl, hb2⟩
                have HB3 := Lib.hid (HB2.out W2 hb2)
                clear hb2 HF HB2
                go_wp2_with fail
                go_ret
                exact ⟨rfl, HB3.out⟩
              · go_wp2_with fail
                refine HF.out.mono ?_
                rintro e W2 ⟨rfl, hb2⟩
                have HB3 := Lib.hid (HB2.out W2 hb2)
                clear hb2 HF HB2
                go_wp2_with fail
                go_ret
                exact ⟨rfl, HB3.out⟩
end Fw
end Go.Proofs.Ytddkmaplficofaa
