/- The walk of CutoffLatches. -/
import Derived.Test.YtdfihcbmojggoaaCutoffAwake
import Derived.BigQuiet
namespace Go.Proofs.Ytdfihcbmojggoaa
namespace Ow
open Go.RowKit Lk

set_option maxRecDepth 100000 in
set_option maxHeartbeats 8000000 in
theorem latches_go (t : Int) (k' : Nat) (hk' : k' < 256) (A D : Option Addr) (n cp nr cq : Nat) (L : List (Int × Int)) (R : List Bool) (hn : L.length = n) (hr : R.length = nr) (w : World) (hA : Prs w A L) (hD : Bls w D R) :
    Calls Try.prog 4 #[.int .i64 t, .int .u8 k', .slice A n cp, .slice D nr cq] w fun e w' => e = .returned (.bool true) ∧ Below w.heap.size w w' := by
  have AW := Lib.hid (fun W => awake_c W)
  have HB := Lib.hid (Below.refl w.heap.size w)
  by_cases h200 : n ≤ 200
  · have k2 : decide ((200 : Int) < n) = false := decide_eq_false (by omega)
    obtain ⟨k, hk⟩ : ∃ k : Int, (k' : Int) + 1 = k := ⟨_, rfl⟩
    have kp : 1 ≤ k := by omega
    have kb : k ≤ 256 := by omega
    have kx : (k' : Int) = k - 1 := by omega
    have CW : Hid (∀ W, Below w.heap.size w W → Calls Try.prog 9 #[.int .i64 t, .int .i64 k, .slice A n cp, .slice D nr cq] W fun e w' => (∃ g, e = .returned (.slice (some ⟨g, 0, none⟩) n n) ∧ W.heap.size ≤ g ∧ Ct w' g n (fun m => Cu.st t k L R (m + 1))) ∧ Below W.heap.size W w') := Lib.hid (fun W hW => run_c t k A D n cp nr cq L R hn hr (by omega) W (hA.below hW) (hD.below hW))
    have HA := Lib.hid hA
    have HD := Lib.hid hD
    have HN := Lib.hid hn
    have HNr := Lib.hid hr
    have HKP := Lib.hid kp
    rw [kx]
    clear hA hD hn hr hk hk' kx
    clear k'
    go_enter Try.func4, Try.ntmps4
    go_upto_region 5 with (first
      | (go_at_call 8; (with_reducible refine (AW.out _).mono ?_); rintro e W ⟨rfl, hb⟩; replace HB := Lib.hid (HB.out.trans (hb.mono HB.out.size)); clear hb)
      | fail)
    try simp only [Int.sub_add_cancel]
    go_wp2_with (first
      | (go_at_call 9; (with_reducible refine (CW.out _ HB.out).mono ?_); rintro e W ⟨⟨g, rfl, hg, hc⟩, hb⟩; replace HB := Lib.hid (HB.out.trans (hb.mono HB.out.size)); have HC := Lib.hid hc; clear hb hg hc CW)
      | fail)
    clear AW
    go_loopw [12, 13, 14, 15, 16] (fun s q i _ _ wr => ∃ m : Nat, m ≤ n ∧ i = .int .i64 m ∧ s = .bool (Cu.st t k L R m).2 ∧ q = .int .i64 (Cu.st t k L R m).1 ∧ Below w.heap.size w wr ∧ Ct wr g n (fun m => Cu.st t k L R (m + 1))) (fun _ _ i _ _ _ => n - (intOf i).toNat)
    case atStart => exact ⟨0, Nat.zero_le _, rfl, rfl, rfl, HB.out, HC.out⟩
    case round =>
      clear HB HC
      obtain ⟨m, hm, rfl, rfl, rfl, hb, hc⟩ := hrel
      have HB := Lib.hid hb
      have HC := Lib.hid hc
      clear hb hc
      by_cases hlt : m < n
      · have hlt2 : (m : Int) < n := by omega
        obtain ⟨⟨a, b⟩, hp⟩ : ∃ p, L[m]? = some p := ⟨L[m]'(by rw [HN.out]; exact hlt), List.getElem?_eq_getElem _⟩
        obtain ⟨ga, oa, rfl, hga, hra⟩ := HA.out m (a, b) hp
        obtain ⟨ca, cb⟩ := two_cells (W := wr) (g := ga) (o := oa + m * 2) (u := .int .i64 a) (v := .int .i64 b) (fun j v hv => (HB.out.cell (p := ⟨ga, oa + m * 2 + j, none⟩) hga).trans (hra j v hv))
        obtain ⟨rv, hrv⟩ : ∃ rv, R.getD m false = rv := ⟨_, rfl⟩
        have hm1 := Cu.st_many t k L R m (by omega)
        have hm2 := Cu.many_in t L m
        rw [← hm1] at hm2
        clear hm1
        obtain ⟨q, hq⟩ : ∃ q, (Cu.st t k L R m).1 = q := ⟨_, rfl⟩
        obtain ⟨s, hs⟩ : ∃ s, (Cu.st t k L R m).2 = s := ⟨_, rfl⟩
        rw [hq] at hm2
        obtain ⟨p, hcq⟩ : ∃ p, Cu.cq t q a b = p := ⟨_, rfl⟩
        obtain ⟨u, hcu⟩ : ∃ u, Cu.cs t k q s a b rv = u := ⟨_, rfl⟩
        have hst : Cu.st t k L R (m + 1) = (p, u) := by
          have e1 : L.getD m (0, 0) = (a, b) := by rw [List.getD_eq_getElem?_getD, hp]; rfl
          rw [Cu.st, e1, hrv, Cu.stp, hq, hs, hcq, hcu]
        obtain ⟨cp1, cu1⟩ := two_cells (HC.out.at_ hlt (show (fun m => Cu.st t k L R (m + 1)) m = (p, u) from hst))
        have LA := Lib.hid (Cu.latch t k (q := q) hm2.1 (by omega) s a b rv)
        have q0 := hm2.1
        have q1 : q ≤ 200 := by omega
        rw [hcq, hcu] at LA
        have h1 : (Cu.st t k L R (m + 1)).1 = p := by rw [hst]
        have h2 : (Cu.st t k L R (m + 1)).2 = u := by rw [hst]
        have HQ := Lib.hid h1
        have HU := Lib.hid h2
        rw [hq, hs]
        clear hp hra hcq hcu hst hq hs h1 h2 hm2
        have WY : Hid ((decide (t ≤ a) = false ∧ decide (t ≤ b) = false ∧ p = 0 ∧ s = false ∧ u = false) ∨ (decide (t ≤ a) = false ∧ decide (t ≤ b) = false ∧ p = 0 ∧ s = true ∧ rv = false ∧ u = true) ∨ (decide (t ≤ a) = false ∧ decide (t ≤ b) = false ∧ p = 0 ∧ s = true ∧ rv = true ∧ u = false) ∨
            (decide (t ≤ a) = true ∧ p = q + 1 ∧ s = true ∧ u = true) ∨ (decide (t ≤ a) = true ∧ p = q + 1 ∧ s = false ∧ decide (k ≤ q + 1) = true ∧ decide (q + 1 < k) = false ∧ u = true) ∨ (decide (t ≤ a) = true ∧ p = q + 1 ∧ s = false ∧ decide (k ≤ q + 1) = false ∧ u = false) ∨
            (decide (t ≤ a) = false ∧ decide (t ≤ b) = true ∧ p = q + 1 ∧ s = true ∧ u = true) ∨ (decide (t ≤ a) = false ∧ decide (t ≤ b) = true ∧ p = q + 1 ∧ s = false ∧ decide (k ≤ q + 1) = true ∧ decide (q + 1 < k) = false ∧ u = true) ∨ (decide (t ≤ a) = false ∧ decide (t ≤ b) = true ∧ p = q + 1 ∧ s = false ∧ decide (k ≤ q + 1) = false ∧ u = false)) := by
          show _ ∨ _
          rcases LA.out with ⟨h1, h2, h3, h4⟩ | ⟨h1, h3, h4⟩
          · have d1 : decide (t ≤ a) = false := decide_eq_false (by omega)
            have d2 : decide (t ≤ b) = false := decide_eq_false (by omega)
            cases s
            · exact .inl ⟨d1, d2, h3, rfl, h4⟩
            · cases rv
              · exact .inr (.inl ⟨d1, d2, h3, rfl, rfl, h4⟩)
              · exact .inr (.inr (.inl ⟨d1, d2, h3, rfl, rfl, h4⟩))
          · by_cases d1 : t ≤ a
            · have d1' : decide (t ≤ a) = true := decide_eq_true d1
              cases s
              · by_cases d3 : k ≤ q + 1
                · rw [decide_eq_true d3] at h4
                  exact .inr (.inr (.inr (.inr (.inl ⟨d1', h3, rfl, decide_eq_true d3, decide_eq_false (by omega), h4⟩))))
                · rw [decide_eq_false d3] at h4
                  exact .inr (.inr (.inr (.inr (.inr (.inl ⟨d1', h3, rfl, decide_eq_false d3, h4⟩)))))
              · exact .inr (.inr (.inr (.inl ⟨d1', h3, rfl, h4⟩)))
            · have d1' : decide (t ≤ a) = false := decide_eq_false d1
              have d2' : decide (t ≤ b) = true := decide_eq_true (by omega)
              cases s
              · by_cases d3 : k ≤ q + 1
                · rw [decide_eq_true d3] at h4
                  exact .inr (.inr (.inr (.inr (.inr (.inr (.inr (.inl ⟨d1', d2', h3, rfl, decide_eq_true d3, decide_eq_false (by omega), h4⟩)))))))
                · rw [decide_eq_false d3] at h4
                  exact .inr (.inr (.inr (.inr (.inr (.inr (.inr (.inr ⟨d1', d2', h3, rfl, decide_eq_false d3, h4⟩)))))))
              · exact .inr (.inr (.inr (.inr (.inr (.inr (.inl ⟨d1', d2', h3, rfl, h4⟩))))))
        have kz : decide (k ≤ 0) = false := decide_eq_false (by omega)
        clear LA kp
        by_cases hmr : m < nr
        · have hmr2 : (m : Int) < nr := by omega
          obtain ⟨x, hx⟩ : ∃ x, R[m]? = some x := ⟨R[m]'(by rw [HNr.out]; exact hmr), List.getElem?_eq_getElem _⟩
          obtain rfl : x = rv := by rw [← hrv, List.getD_eq_getElem?_getD, hx]; rfl
          obtain ⟨gb, ob, rfl, hgb, hrb⟩ := HD.out m x hx
          have cr : wr.cell? ⟨gb, ob + m, none⟩ = some (.bool x) := (HB.out.cell (p := ⟨gb, ob + m, none⟩) hgb).trans hrb
          clear hx hrb hrv
          rcases WY.out with ⟨d1, d2, rfl, rfl, rfl⟩ | ⟨d1, d2, rfl, rfl, rfl, rfl⟩ | ⟨d1, d2, rfl, rfl, rfl, rfl⟩ | ⟨d1, rfl, rfl, rfl⟩ | ⟨d1, rfl, rfl, d3, d4, rfl⟩ | ⟨d1, rfl, rfl, d3, rfl⟩ | ⟨d1, d2, rfl, rfl, rfl⟩ | ⟨d1, d2, rfl, rfl, d3, d4, rfl⟩ | ⟨d1, d2, rfl, rfl, d3, rfl⟩
          all_goals
            clear WY
            go_wp2_with (first | go_big_skip | fail)
            all_goals
              go_roundw
              case rel => exact ⟨m + 1, by omega, by go_num, by rw [HU.out], by rw [HQ.out], HB.out, HC.out⟩
              case measure => simp only [intOf, Int.toNat_natCast]; omega
        · have hmr2 : decide ((m : Int) < nr) = false := decide_eq_false (by omega)
          obtain rfl : false = rv := by rw [← hrv, List.getD_eq_getElem?_getD, List.getElem?_eq_none (by rw [HNr.out]; omega)]; rfl
          clear hrv
          rcases WY.out with ⟨d1, d2, rfl, rfl, rfl⟩ | ⟨d1, d2, rfl, rfl, -, rfl⟩ | ⟨-, -, -, -, k6, -⟩ | ⟨d1, rfl, rfl, rfl⟩ | ⟨d1, rfl, rfl, d3, d4, rfl⟩ | ⟨d1, rfl, rfl, d3, rfl⟩ | ⟨d1, d2, rfl, rfl, rfl⟩ | ⟨d1, d2, rfl, rfl, d3, d4, rfl⟩ | ⟨d1, d2, rfl, rfl, d3, rfl⟩
          all_goals try cases k6
          all_goals
            clear WY
            go_wp2_with (first | go_big_skip | fail)
            all_goals
              go_roundw
              case rel => exact ⟨m + 1, by omega, by go_num, by rw [HU.out], by rw [HQ.out], HB.out, HC.out⟩
              case measure => simp only [intOf, Int.toNat_natCast]; omega
      · obtain rfl : m = n := by omega
        go_wp2_with fail
        go_ret
        exact ⟨rfl, HB.out⟩
  · have k2 : decide ((200 : Int) < n) = true := decide_eq_true (by omega)
    clear hA hD hn hr h200
    go_enter Try.func4, Try.ntmps4
    go_wp2_with (first
      | (go_at_call 8; (with_reducible refine (AW.out _).mono ?_); rintro e W ⟨rfl, hb⟩; replace HB := Lib.hid (HB.out.trans (hb.mono HB.out.size)); clear hb)
      | fail)
    go_ret
    exact ⟨rfl, HB.out⟩

theorem CutoffLatches_walk (t : Int) (k : Nat) (hk : k < 256) (A : Option Addr) (L : List (Int × Int)) (c : Nat) (D : Option Addr) (R : List Bool) (d : Nat) (w : World) (hA : Prs w A L) (hD : Bls w D R) :
    Calls Try.prog 4 #[.int .i64 t, .int .u8 k, .slice A L.length c, .slice D R.length d] w fun e w' => e = .returned (.bool true) ∧ Below w.heap.size w w' := latches_go t k hk A D _ c _ d L R rfl rfl w hA hD
end Ow
end Go.Proofs.Ytdfihcbmojggoaa
