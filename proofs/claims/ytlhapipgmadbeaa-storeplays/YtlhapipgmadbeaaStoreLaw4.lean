/- The walk of StorePlays. -/
import Derived.Test.YtlhapipgmadbeaaStorePair
import Derived.BigQuiet
import Derived.Deep.QuietTactic
import Derived.Test.YtlhapipgmadbeaaOrdKit
namespace Go.Proofs.Ytlhapipgmadbeaa
namespace Sq
open Go.RowKit Nv Nw Sp Lk

theorem ord_1 : Lk.orderedB (Lk.opsOf Try.f4 19) [(0, false), (1, false), (2, false), (4, false), (5, false), (6, false), (3, true), (7, true), (8, false), (9, false)] = true := by kernel_rfl
theorem ord_5 : Lk.orderedB (Lk.opsOf Try.f4 33) [(0, false), (1, false), (2, false), (3, false), (4, false), (6, false), (7, false), (8, false), (9, false), (10, false), (5, true), (11, true), (12, false), (13, false)] = true := by kernel_rfl

theorem rerr_in {m : M} {i : Nat} (hg : m.gone = false) (hi : i < m.ws.length) : rerr m i = 0 := by
  have : inB m i = true := by simp [inB, hi]
  simp [rerr, hg, this]
theorem rval_in {m : M} {i : Nat} (hg : m.gone = false) (hi : i < m.ws.length) : rval m i = m.ws.getD i 0 := by
  have : inB m i = true := by simp [inB, hi]
  simp [rval, hg, this]

set_option maxRecDepth 100000 in
set_option maxHeartbeats 4000000 in
theorem plays_few (u n : Nat) (hu : u < 256) (hun : u % 61 = n) (hn : n < 8) (V : Value) (w : World) :
    Calls Try.prog 4 #[.int .u8 u, V] w fun e w' => e = .returned (.bool true) ∧ Below w.heap.size w w' := by
  have hu1 : (u : Int).tmod 61 = n := by rw [Int.tmod_eq_emod_of_nonneg (by omega)]; omega
  have hu2 : (u : Int) % 61 = n := by omega
  have hln : (Nv.new n).ws.length = n := by simp [Nv.new, zeros]
  have hn8 : decide ((n : Int) < 8) = true := by simp; omega
  go_enter Try.func4, Try.ntmps4
  go_wp2_with fail
  refine (awake_c w).mono ?_
  rintro e w1 ⟨rfl, h⟩
  have HW := Lib.hid h
  clear h
  go_wp2_with fail
  refine (new_m n (by omega) (by omega) HW.out).mono ?_
  rintro e w2 ⟨b, d, rfl, h, _, _, _⟩
  have HM : Hid (Mm w w2 b d (Nv.new n)) := h
  clear h HW
  go_wp2_with fail
  refine (rnew_ok n (by omega) w2).mono ?_
  rintro e w3 ⟨⟨b', d', rfl, _, _, _⟩, hb⟩
  replace HM := Lib.hid (HM.out.grow hb)
  clear hb
  go_wp2_with fail
  refine (sopen_few HM.out.mem rfl (by rw [hln]; omega)).mono ?_
  rintro e w4 ⟨rfl, rfl⟩
  go_wp2_with fail
  go_ret
  exact ⟨rfl, HM.out.old⟩

set_option maxRecDepth 100000 in
set_option maxHeartbeats 4000000 in
theorem plays_ok (u n : Nat) (hu : u < 256) (hun : u % 61 = n) (hn : 8 ≤ n) (A : Option Addr) (L : List Cq) (cp : Nat) (w : World) (hA : Scr w A L) :
    Calls Try.prog 4 #[.int .u8 u, .slice A L.length cp] w fun e w' => e = .returned (.bool true) ∧ Below w.heap.size w w' := by
  have HA := Lib.hid hA
  clear hA
  have hu1 : (u : Int).tmod 61 = n := by rw [Int.tmod_eq_emod_of_nonneg (by omega)]; omega
  have hu2 : (u : Int) % 61 = n := by omega
  have hn60 : n ≤ 60 := by omega
  have hln : (Nv.new n).ws.length = n := by simp [Nv.new, zeros]
  have hn8 : decide ((n : Int) < 8) = false := by simp; omega
  go_enter Try.func4, Try.ntmps4
  go_wp2_with fail
  refine (awake_c w).mono ?_
  rintro e w1 ⟨rfl, h⟩
  have HW := Lib.hid h
  clear h
  go_wp2_with fail
  refine (new_m n (by omega) (by omega) HW.out).mono ?_
  rintro e w2 ⟨b, d, rfl, h, _, _, _⟩
  have HM : Hid (Mm w w2 b d (Nv.new n)) := h
  clear h HW
  go_wp2_with fail
  refine (rnew_ok n (by omega) w2).mono ?_
  rintro e w3 ⟨⟨b', d', rfl, h1, h2, h3⟩, hb⟩
  have HR : Hid (Rem w3 b' d' (Nv.new n)) := h1
  have HD : Hid (((b ≠ b' ∧ b ≠ d') ∧ d ≠ b' ∧ d ≠ d') ∧ w.heap.size ≤ b' ∧ w.heap.size ≤ d') := by
    have := HM.out.mem.lt
    have := HM.out.mem.lt'
    have := HM.out.old.size
    exact ⟨⟨⟨by omega, by omega⟩, by omega, by omega⟩, by omega, by omega⟩
  replace HM := Lib.hid (HM.out.grow hb)
  clear h1 h2 h3 hb
  go_wp2_with fail
  refine (open_m HM.out rfl (by omega) (by omega)).mono ?_
  rintro e w4 ⟨g, rfl, h, h1, hb⟩
  have HG : Hid (g ≠ b' ∧ g ≠ d') := by
    have := HR.out.lt
    have := HR.out.lt'
    exact ⟨by omega, by omega⟩
  replace HR := Lib.hid (HR.out.grow hb)
  have HO : Hid (One w w4 g b d (Nv.new n)) := h
  clear h h1 hb HM
  have HRm : Hid (((rooms (Nv.new n) : Nat) : Int) - 1 = ((n / 4 : Nat) : Int) - 1) := by show _ = _; unfold rooms; rw [hln]
  go_wp2_with (first
    | (go_at_call 13; (with_reducible refine (room_m HO.out (good_new hn (by omega)) HRm.out).mono ?_); rintro e W ⟨rfl, rfl⟩)
    | (go_at_call 14; (with_reducible refine (room_c b' d' (Nv.new n) (n / 4) (by rw [hln]) (by omega) _ HR.out).mono ?_); rintro e W ⟨rfl, rfl⟩)
    | fail)
  have HP : Hid (Pr w w4 g b d (Nv.new n) b' d' (Nv.new n)) := ⟨HO.out, HR.out, HD.out.1.1.1, HD.out.1.1.2, HD.out.1.2.1, HD.out.1.2.2, HG.out.1, HG.out.2, HD.out.2.1, HD.out.2.2⟩
  clear HO HR HD HG HRm
  go_loopw [11, 13] (fun sv i wr => ∃ (k gs : Nat) (m : M), k ≤ 60 ∧ k ≤ L.length ∧ i = .int .i64 k ∧ sv = .pointer (some ⟨gs, 0, none⟩) ∧ Pr w wr gs b d m b' d' m ∧ Good m ∧ m.many ≤ 200 * (k : Int) ∧ m.ws.length = n) (fun _ i _ => 60 - (intOf i).toNat)
  case atStart => exact ⟨0, g, _, by omega, Nat.zero_le _, rfl, rfl, HP.out, good_new hn (by omega), by simp [Nv.new], hln⟩
  case round =>
    clear HP hln
    obtain ⟨k, gs, m, hk, hkl, rfl, rfl, hP, hG, hmm, hlen⟩ := hrel
    have HP := Lib.hid hP
    have HG := Lib.hid hG
    clear hP hG
    by_cases hlt : k < L.length ∧ k < 60
    · obtain ⟨hlt, h60⟩ := hlt
      obtain ⟨ab, ao, rfl, c, hlim, HGq⟩ := HA.out.get hlt
      replace HGq := Lib.hid (HGq.out _ HP.out.one.mm.old)
      have HC := Lib.hid (Pq.new HP.out c)
      clear HP HA
      generalize hq : wr.heap.size = q at HC
      by_cases hK : c.k = 1
      · obtain ⟨E, hE⟩ : ∃ E, (put m c.r).1 = E := ⟨_, rfl⟩
        obtain ⟨M, hM⟩ : ∃ M, (put m c.r).2 = M := ⟨_, rfl⟩
        have HGn : Hid (Good M) := by rw [← hM]; exact HG.out.put c.r (by omega)
        have hmn : M.many ≤ 200 * ((k + 1 : Nat) : Int) := by have := put_many m c.r; rw [← hM]; omega
        have hlenn : M.ws.length = n := by rw [← hM, put_len, hlen]
        have CW := Lib.hid (fun W (h : Pq w W gs b d m b' d' m q c) => pq_put HG.out hE hM h)
        have CR := Lib.hid (fun W (h : Pq w W gs b d M b' d' m q c) => pq_rput HG.out hE hM h)
        clear hE hM HG hlim
        obtain ⟨ck, cr, cn, cw⟩ := c
        obtain ⟨r1, r2, r3⟩ := cr
        simp only at hK HC HGq CW CR
        subst hK
        have HV := HC
        clear HC
        obtain ⟨x0, x1, x2, x3, x4, x5⟩ := HV.out.fld
        go_wp2_with (first | (refine ldq rfl _ rfl _ _ ⟨1, ⟨r1, r2, r3⟩, cn, cw⟩ rfl HGq.out ?_) | fail)
        clear x0 x1 x2 x3 x4 x5 HGq
        dsimp only [rcs] at CW CR
        refine wp_region_noPanic (Lk.wp_region_ordered ord_1 (fun V => QFld V q ⟨1, ⟨r1, r2, r3⟩, cn, cw⟩) (by kernel_rfl) (by kernel_rfl) (fun _ _ _ _ _ h => h) (by first | (with_reducible exact Pq.fld HV.out) | (with_reducible exact Pq.fld HV.out.drew)) ?_)
        replace HV := Lib.hid HV.out.drew
        iterate 6 (refine Lk.ord_take ?_ rfl rfl ?_ ?_; rotate_left; (focus (intro w' hS; (try dsimp only at hS); go_simp; try with_reducible rfl)); simp only [Act.put, List.setIfInBounds_toArray, List.set_cons_zero, List.set_cons_succ])
        refine Lk.ord_step rfl rfl (fun K hK => ?_)
        go_simp
        (with_reducible refine (CW.out _ HV.out).mono ?_)
        rintro r W ⟨rfl, hb⟩
        replace HV := Lib.hid hb
        clear hb
        refine hK.out _ _ (by first | (with_reducible exact Pq.fld HV.out) | (with_reducible exact Pq.fld HV.out.drew)) ?_
        clear hK K
        try simp only [Act.put, List.setIfInBounds_toArray, List.set_cons_zero, List.set_cons_succ]
        refine Lk.ord_step rfl rfl (fun K hK => ?_)
        go_simp
        (with_reducible refine (CR.out _ HV.out).mono ?_)
        rintro r W ⟨rfl, hb⟩
        replace HV := Lib.hid hb
        clear hb
        refine hK.out _ _ (by first | (with_reducible exact Pq.fld HV.out) | (with_reducible exact Pq.fld HV.out.drew)) ?_
        clear hK K
        try simp only [Act.put, List.setIfInBounds_toArray, List.set_cons_zero, List.set_cons_succ]
        iterate 2 (refine Lk.ord_take ?_ rfl rfl ?_ ?_; rotate_left; (focus (intro w' hS; (try dsimp only at hS); go_simp; try with_reducible rfl)); simp only [Act.put, List.setIfInBounds_toArray, List.set_cons_zero, List.set_cons_succ])
        refine Lk.ord_nil (NoPanic.normal ?_)
        have HP := Lib.hid HV.out.pr
        clear HV CW CR
        obtain ⟨T, hT⟩ : ∃ T, told M = T := ⟨_, rfl⟩
        obtain ⟨nT, hnT⟩ : ∃ nT, T.length = nT := ⟨_, rfl⟩
        have hl1 : nT ≤ 1000 := by rw [← hnT, ← hT]; exact told_short HGn.out.most
        have HT := Lib.hid (And.intro hT hnT)
        clear hT hnT
        go_wp2_with fail
        refine (told_m HP.out.one HGn.out HT.out.1 HT.out.2).mono ?_
        rintro e W1 ⟨A1, c1, rfl, hc1, hN1, h, ht⟩
        replace HP := Lib.hid (HP.out.tA h ht)
        have HN1 := Lib.hid hN1
        clear hN1 h ht
        go_wp2_with fail
        refine (rtold_c b' d' M W1 HP.out.rem HGn.out.u32 HGn.out.len HGn.out.most).mono ?_
        rintro e W2 ⟨v, rfl, hrow, hb⟩
        rw [HT.out.1] at hrow
        obtain ⟨A2, c2, rfl, hc2, hN2⟩ := new_of_row hrow
        rw [HT.out.2] at hc2 ⊢
        replace HP := Lib.hid (HP.out.grow hb)
        have HSa := Lib.hid (same_c A1 A2 T T nT nT c1 c2 HT.out.2 HT.out.2 hl1 W2 (HN1.out.below hb).rcs hN2.rcs)
        rw [decide_eq_true (rfl : T = T)] at HSa
        clear hrow hb hN2 HN1
        go_wp2_with fail
        refine HSa.out.mono ?_
        rintro e W3 ⟨rfl, hb⟩
        replace HP := Lib.hid (HP.out.grow hb)
        have HD := Lib.hid (fun j => qdown1 HP.out.one j)
        have q1 := HP.out.rem.c1
        clear hb HSa
        go_wp2_with fail
        go_quiet ((go_at_call 28; exact Calls.quiet_of_same (HD.out _)))
        clear HD q1
        go_wp2_with fail
        go_roundw
        case rel => exact ⟨k + 1, gs, M, by omega, by omega, by go_num, rfl, HP.out.grow (below_n (Below.refl _ _) _), HGn.out, hmn, hlenn⟩
        case measure => simp [intOf]; omega
      · have k1 := hK
        clear hK
        by_cases hK : c.k = 2
        · obtain ⟨E, hE⟩ : ∃ E, (clear m).1 = E := ⟨_, rfl⟩
          obtain ⟨M, hM⟩ : ∃ M, (clear m).2 = M := ⟨_, rfl⟩
          have HGn : Hid (Good M) := by rw [← hM]; exact HG.out.clear (by omega)
          have hmn : M.many ≤ 200 * ((k + 1 : Nat) : Int) := by have := clear_many m HG.out.most; rw [← hM]; omega
          have hlenn : M.ws.length = n := by rw [← hM, clear_len, hlen]
          have CW := Lib.hid (fun W (h : Pq w W gs b d m b' d' m q c) => pq_clear HG.out hE hM h)
          have CR := Lib.hid (fun W (h : Pq w W gs b d M b' d' m q c) => pq_rclear HG.out hE hM h)
          clear hE hM HG hlim
          obtain ⟨ck, cr, cn, cw⟩ := c
          obtain ⟨r1, r2, r3⟩ := cr
          simp only at hK HC HGq CW CR
          subst hK
          have HV := HC
          clear HC
          obtain ⟨x0, x1, x2, x3, x4, x5⟩ := HV.out.fld
          go_wp2_with (first | (refine ldq rfl _ rfl _ _ ⟨2, ⟨r1, r2, r3⟩, cn, cw⟩ rfl HGq.out ?_) | fail)
          clear x0 x1 x2 x3 x4 x5 HGq
          (with_reducible refine (CW.out _ HV.out).mono ?_)
          rintro e W ⟨rfl, h⟩
          replace HV := Lib.hid h
          clear h CW
          go_wp2_with fail
          (with_reducible refine (CR.out _ HV.out).mono ?_)
          rintro e W' ⟨rfl, h⟩
          replace HV := Lib.hid h
          have HP := Lib.hid HV.out.pr
          clear h CR HV
          obtain ⟨T, hT⟩ : ∃ T, told M = T := ⟨_, rfl⟩
          obtain ⟨nT, hnT⟩ : ∃ nT, T.length = nT := ⟨_, rfl⟩
          have hl1 : nT ≤ 1000 := by rw [← hnT, ← hT]; exact told_short HGn.out.most
          have HT := Lib.hid (And.intro hT hnT)
          clear hT hnT
          go_wp2_with fail
          refine (told_m HP.out.one HGn.out HT.out.1 HT.out.2).mono ?_
          rintro e W1 ⟨A1, c1, rfl, hc1, hN1, h, ht⟩
          replace HP := Lib.hid (HP.out.tA h ht)
          have HN1 := Lib.hid hN1
          clear hN1 h ht
          go_wp2_with fail
          refine (rtold_c b' d' M W1 HP.out.rem HGn.out.u32 HGn.out.len HGn.out.most).mono ?_
          rintro e W2 ⟨v, rfl, hrow, hb⟩
          rw [HT.out.1] at hrow
          obtain ⟨A2, c2, rfl, hc2, hN2⟩ := new_of_row hrow
          rw [HT.out.2] at hc2 ⊢
          replace HP := Lib.hid (HP.out.grow hb)
          have HSa := Lib.hid (same_c A1 A2 T T nT nT c1 c2 HT.out.2 HT.out.2 hl1 W2 (HN1.out.below hb).rcs hN2.rcs)
          rw [decide_eq_true (rfl : T = T)] at HSa
          clear hrow hb hN2 HN1
          go_wp2_with fail
          refine HSa.out.mono ?_
          rintro e W3 ⟨rfl, hb⟩
          replace HP := Lib.hid (HP.out.grow hb)
          have HD := Lib.hid (fun j => qdown1 HP.out.one j)
          have q1 := HP.out.rem.c1
          clear hb HSa
          go_wp2_with fail
          go_quiet ((go_at_call 28; exact Calls.quiet_of_same (HD.out _)))
          clear HD q1
          go_wp2_with fail
          go_roundw
          case rel => exact ⟨k + 1, gs, M, by omega, by omega, by go_num, rfl, HP.out.grow (below_n (Below.refl _ _) _), HGn.out, hmn, hlenn⟩
          case measure => simp [intOf]; omega
        · have k2 := hK
          clear hK
          by_cases hK : c.k = 3
          · obtain ⟨M, hM⟩ : ∃ M, arm m c.n = M := ⟨_, rfl⟩
            have HGn : Hid (Good M) := by rw [← hM]; exact HG.out.arm hlim.1.2
            have hmn : M.many ≤ 200 * ((k + 1 : Nat) : Int) := by
              have : (arm m c.n).many = m.many := by unfold arm; split <;> rfl
              rw [← hM, this]; omega
            have hlenn : M.ws.length = n := by rw [← hM, arm_len, hlen]
            have CW := Lib.hid (fun W (h : Pq w W gs b d m b' d' m q c) => pq_arm hM h)
            have CR := Lib.hid (fun W (h : Pq w W gs b d M b' d' m q c) => pq_rarm hM h)
            clear hM HG hlim
            obtain ⟨ck, cr, cn, cw⟩ := c
            obtain ⟨r1, r2, r3⟩ := cr
            simp only at hK HC HGq CW CR
            subst hK
            have HV := HC
            clear HC
            obtain ⟨x0, x1, x2, x3, x4, x5⟩ := HV.out.fld
            go_wp2_with (first | (refine ldq rfl _ rfl _ _ ⟨3, ⟨r1, r2, r3⟩, cn, cw⟩ rfl HGq.out ?_) | fail)
            clear x0 x1 x2 x3 x4 x5 HGq
            (with_reducible refine (CW.out _ HV.out).mono ?_)
            rintro e W ⟨rfl, h⟩
            replace HV := Lib.hid h
            obtain ⟨x0, x1, x2, x3, x4, x5⟩ := HV.out.fld
            clear h CW
            go_wp2_with fail
            (with_reducible refine (CR.out _ HV.out).mono ?_)
            rintro e W' ⟨rfl, h⟩
            replace HV := Lib.hid h
            have HP := Lib.hid HV.out.pr
            clear h CR HV x0 x1 x2 x3 x4 x5
            obtain ⟨T, hT⟩ : ∃ T, told M = T := ⟨_, rfl⟩
            obtain ⟨nT, hnT⟩ : ∃ nT, T.length = nT := ⟨_, rfl⟩
            have hl1 : nT ≤ 1000 := by rw [← hnT, ← hT]; exact told_short HGn.out.most
            have HT := Lib.hid (And.intro hT hnT)
            clear hT hnT
            go_wp2_with fail
            refine (told_m HP.out.one HGn.out HT.out.1 HT.out.2).mono ?_
            rintro e W1 ⟨A1, c1, rfl, hc1, hN1, h, ht⟩
            replace HP := Lib.hid (HP.out.tA h ht)
            have HN1 := Lib.hid hN1
            clear hN1 h ht
            go_wp2_with fail
            refine (rtold_c b' d' M W1 HP.out.rem HGn.out.u32 HGn.out.len HGn.out.most).mono ?_
            rintro e W2 ⟨v, rfl, hrow, hb⟩
            rw [HT.out.1] at hrow
            obtain ⟨A2, c2, rfl, hc2, hN2⟩ := new_of_row hrow
            rw [HT.out.2] at hc2 ⊢
            replace HP := Lib.hid (HP.out.grow hb)
            have HSa := Lib.hid (same_c A1 A2 T T nT nT c1 c2 HT.out.2 HT.out.2 hl1 W2 (HN1.out.below hb).rcs hN2.rcs)
            rw [decide_eq_true (rfl : T = T)] at HSa
            clear hrow hb hN2 HN1
            go_wp2_with fail
            refine HSa.out.mono ?_
            rintro e W3 ⟨rfl, hb⟩
            replace HP := Lib.hid (HP.out.grow hb)
            have HD := Lib.hid (fun j => qdown1 HP.out.one j)
            have q1 := HP.out.rem.c1
            clear hb HSa
            go_wp2_with fail
            go_quiet ((go_at_call 28; exact Calls.quiet_of_same (HD.out _)))
            clear HD q1
            go_wp2_with fail
            go_roundw
            case rel => exact ⟨k + 1, gs, M, by omega, by omega, by go_num, rfl, HP.out.grow (below_n (Below.refl _ _) _), HGn.out, hmn, hlenn⟩
            case measure => simp [intOf]; omega
          · have k3 := hK
            clear hK
            by_cases hK : c.k = 4
            · obtain ⟨M, hM⟩ : ∃ M, up m = M := ⟨_, rfl⟩
              have HGn : Hid (Good M) := by rw [← hM]; exact HG.out.up
              have hmn : M.many ≤ 200 * ((k + 1 : Nat) : Int) := by rw [← hM]; show m.many ≤ _; omega
              have hlenn : M.ws.length = n := by rw [← hM]; exact hlen
              have HZ : Hid (M.gone = false) := by rw [← hM]; exact rfl
              have CW := Lib.hid (fun W (h : Pq w W gs b d m b' d' m q c) => pq_up hM h)
              have CR := Lib.hid (fun W (h : Pq w W gs b d M b' d' m q c) => pq_rup hM h)
              clear hM HG hlim
              obtain ⟨ck, cr, cn, cw⟩ := c
              obtain ⟨r1, r2, r3⟩ := cr
              simp only at hK HC HGq CW CR
              subst hK
              have HV := HC
              clear HC
              obtain ⟨x0, x1, x2, x3, x4, x5⟩ := HV.out.fld
              go_wp2_with (first | (refine ldq rfl _ rfl _ _ ⟨4, ⟨r1, r2, r3⟩, cn, cw⟩ rfl HGq.out ?_) | fail)
              clear x0 x1 x2 x3 x4 x5 HGq
              (with_reducible refine (CW.out _ HV.out).mono ?_)
              rintro e W ⟨rfl, h⟩
              replace HV := Lib.hid h
              clear h CW
              go_wp2_with fail
              (with_reducible refine (CR.out _ HV.out).mono ?_)
              rintro e W' ⟨rfl, h⟩
              replace HV := Lib.hid h
              clear h CR
              go_wp2_with fail
              refine (open_m HV.out.pr.one.mm HZ.out (by rw [hlenn]; omega) (by rw [hlenn]; omega)).mono ?_
              rintro e W5 ⟨g2, rfl, h, h1, hb⟩
              have HP := Lib.hid (HV.out.pr.other hb h h1)
              clear h h1 hb HV
              obtain ⟨T, hT⟩ : ∃ T, told M = T := ⟨_, rfl⟩
              obtain ⟨nT, hnT⟩ : ∃ nT, T.length = nT := ⟨_, rfl⟩
              have hl1 : nT ≤ 1000 := by rw [← hnT, ← hT]; exact told_short HGn.out.most
              have HT := Lib.hid (And.intro hT hnT)
              clear hT hnT
              go_wp2_with fail
              refine (told_m HP.out.one HGn.out HT.out.1 HT.out.2).mono ?_
              rintro e W1 ⟨A1, c1, rfl, hc1, hN1, h, ht⟩
              replace HP := Lib.hid (HP.out.tA h ht)
              have HN1 := Lib.hid hN1
              clear hN1 h ht
              go_wp2_with fail
              refine (rtold_c b' d' M W1 HP.out.rem HGn.out.u32 HGn.out.len HGn.out.most).mono ?_
              rintro e W2 ⟨v, rfl, hrow, hb⟩
              rw [HT.out.1] at hrow
              obtain ⟨A2, c2, rfl, hc2, hN2⟩ := new_of_row hrow
              rw [HT.out.2] at hc2 ⊢
              replace HP := Lib.hid (HP.out.grow hb)
              have HSa := Lib.hid (same_c A1 A2 T T nT nT c1 c2 HT.out.2 HT.out.2 hl1 W2 (HN1.out.below hb).rcs hN2.rcs)
              rw [decide_eq_true (rfl : T = T)] at HSa
              clear hrow hb hN2 HN1
              go_wp2_with fail
              refine HSa.out.mono ?_
              rintro e W3 ⟨rfl, hb⟩
              replace HP := Lib.hid (HP.out.grow hb)
              have HD := Lib.hid (fun j => qdown1 HP.out.one j)
              have q1 := HP.out.rem.c1
              clear hb HSa
              go_wp2_with fail
              go_quiet ((go_at_call 28; exact Calls.quiet_of_same (HD.out _)))
              clear HD q1
              go_wp2_with fail
              go_roundw
              case rel => exact ⟨k + 1, g2, M, by omega, by omega, by go_num, rfl, HP.out.grow (below_n (Below.refl _ _) _), HGn.out, hmn, hlenn⟩
              case measure => simp [intOf]; omega
            · have k4 := hK
              clear hK
              by_cases hK : c.k = 5
              · obtain ⟨E, hE⟩ : ∃ E, werr m c.n = E := ⟨_, rfl⟩
                obtain ⟨M, hM⟩ : ∃ M, wput m c.n c.w = M := ⟨_, rfl⟩
                have HGn : Hid (Good M) := by rw [← hM]; exact Good.wput HG.out c.n c.w hlim.2.1 hlim.2.2 (by omega)
                have hmn : M.many ≤ 200 * ((k + 1 : Nat) : Int) := by have := wput_more m c.n c.w; rw [← hM]; omega
                have hlenn : M.ws.length = n := by rw [← hM, wput_len, hlen]
                have CW := Lib.hid (fun W (h : Pq w W gs b d m b' d' m q c) => pq_write HG.out hE hM h)
                have CR := Lib.hid (fun W (h : Pq w W gs b d M b' d' m q c) => pq_rwrite HG.out hE hM h)
                clear hE hM HG hlim
                obtain ⟨ck, cr, cn, cw⟩ := c
                obtain ⟨r1, r2, r3⟩ := cr
                simp only at hK HC HGq CW CR
                subst hK
                have HV := HC
                clear HC
                obtain ⟨x0, x1, x2, x3, x4, x5⟩ := HV.out.fld
                go_wp2_with (first | (refine ldq rfl _ rfl _ _ ⟨5, ⟨r1, r2, r3⟩, cn, cw⟩ rfl HGq.out ?_) | fail)
                clear x0 x1 x2 x3 x4 x5 HGq
                refine wp_region_noPanic (Lk.wp_region_ordered ord_5 (fun V => QFld V q ⟨5, ⟨r1, r2, r3⟩, cn, cw⟩) (by kernel_rfl) (by kernel_rfl) (fun _ _ _ _ _ h => h) (by first | (with_reducible exact Pq.fld HV.out) | (with_reducible exact Pq.fld HV.out.drew)) ?_)
                replace HV := Lib.hid HV.out.drew
                iterate 10 (refine Lk.ord_take ?_ rfl rfl ?_ ?_; rotate_left; (focus (intro w' hS; (try dsimp only at hS); go_simp; try with_reducible rfl)); simp only [Act.put, List.setIfInBounds_toArray, List.set_cons_zero, List.set_cons_succ])
                refine Lk.ord_step rfl rfl (fun K hK => ?_)
                go_simp
                (with_reducible refine (CW.out _ HV.out).mono ?_)
                rintro r W ⟨rfl, hb⟩
                replace HV := Lib.hid hb
                clear hb
                refine hK.out _ _ (by first | (with_reducible exact Pq.fld HV.out) | (with_reducible exact Pq.fld HV.out.drew)) ?_
                clear hK K
                try simp only [Act.put, List.setIfInBounds_toArray, List.set_cons_zero, List.set_cons_succ]
                refine Lk.ord_step rfl rfl (fun K hK => ?_)
                go_simp
                (with_reducible refine (CR.out _ HV.out).mono ?_)
                rintro r W ⟨rfl, hb⟩
                replace HV := Lib.hid hb
                clear hb
                refine hK.out _ _ (by first | (with_reducible exact Pq.fld HV.out) | (with_reducible exact Pq.fld HV.out.drew)) ?_
                clear hK K
                try simp only [Act.put, List.setIfInBounds_toArray, List.set_cons_zero, List.set_cons_succ]
                iterate 2 (refine Lk.ord_take ?_ rfl rfl ?_ ?_; rotate_left; (focus (intro w' hS; (try dsimp only at hS); go_simp; try with_reducible rfl)); simp only [Act.put, List.setIfInBounds_toArray, List.set_cons_zero, List.set_cons_succ])
                refine Lk.ord_nil (NoPanic.normal ?_)
                have HP := Lib.hid HV.out.pr
                clear HV CW CR
                obtain ⟨T, hT⟩ : ∃ T, told M = T := ⟨_, rfl⟩
                obtain ⟨nT, hnT⟩ : ∃ nT, T.length = nT := ⟨_, rfl⟩
                have hl1 : nT ≤ 1000 := by rw [← hnT, ← hT]; exact told_short HGn.out.most
                have HT := Lib.hid (And.intro hT hnT)
                clear hT hnT
                go_wp2_with fail
                refine (told_m HP.out.one HGn.out HT.out.1 HT.out.2).mono ?_
                rintro e W1 ⟨A1, c1, rfl, hc1, hN1, h, ht⟩
                replace HP := Lib.hid (HP.out.tA h ht)
                have HN1 := Lib.hid hN1
                clear hN1 h ht
                go_wp2_with fail
                refine (rtold_c b' d' M W1 HP.out.rem HGn.out.u32 HGn.out.len HGn.out.most).mono ?_
                rintro e W2 ⟨v, rfl, hrow, hb⟩
                rw [HT.out.1] at hrow
                obtain ⟨A2, c2, rfl, hc2, hN2⟩ := new_of_row hrow
                rw [HT.out.2] at hc2 ⊢
                replace HP := Lib.hid (HP.out.grow hb)
                have HSa := Lib.hid (same_c A1 A2 T T nT nT c1 c2 HT.out.2 HT.out.2 hl1 W2 (HN1.out.below hb).rcs hN2.rcs)
                rw [decide_eq_true (rfl : T = T)] at HSa
                clear hrow hb hN2 HN1
                go_wp2_with fail
                refine HSa.out.mono ?_
                rintro e W3 ⟨rfl, hb⟩
                replace HP := Lib.hid (HP.out.grow hb)
                have HD := Lib.hid (fun j => qdown1 HP.out.one j)
                have q1 := HP.out.rem.c1
                clear hb HSa
                go_wp2_with fail
                go_quiet ((go_at_call 28; exact Calls.quiet_of_same (HD.out _)))
                clear HD q1
                go_wp2_with fail
                go_roundw
                case rel => exact ⟨k + 1, gs, M, by omega, by omega, by go_num, rfl, HP.out.grow (below_n (Below.refl _ _) _), HGn.out, hmn, hlenn⟩
                case measure => simp [intOf]; omega
              · have k5 := hK
                clear hK
                have HGn := HG
                have hmn : m.many ≤ 200 * ((k + 1 : Nat) : Int) := by omega
                have hlenn := hlen
                have d1 : (c.k == 1) = false := by simp [k1]
                have d2 : (c.k == 2) = false := by simp [k2]
                have d3 : (c.k == 3) = false := by simp [k3]
                have d4 : (c.k == 4) = false := by simp [k4]
                have d5 : (c.k == 5) = false := by simp [k5]
                clear k1 k2 k3 k4 k5 HG hlim
                obtain ⟨ck, cr, cn, cw⟩ := c
                obtain ⟨r1, r2, r3⟩ := cr
                simp only at HC HGq d1 d2 d3 d4 d5
                have HV := HC
                clear HC
                obtain ⟨x0, x1, x2, x3, x4, x5⟩ := HV.out.fld
                go_wp2_with (first | (refine ldq rfl _ rfl _ _ ⟨ck, ⟨r1, r2, r3⟩, cn, cw⟩ rfl HGq.out ?_) | fail)
                clear x0 x1 x2 x3 x4 x5 HGq
                have HP := Lib.hid HV.out.pr
                clear HV
                obtain ⟨T, hT⟩ : ∃ T, told m = T := ⟨_, rfl⟩
                obtain ⟨nT, hnT⟩ : ∃ nT, T.length = nT := ⟨_, rfl⟩
                have hl1 : nT ≤ 1000 := by rw [← hnT, ← hT]; exact told_short HGn.out.most
                have HT := Lib.hid (And.intro hT hnT)
                clear hT hnT
                refine (told_m HP.out.one HGn.out HT.out.1 HT.out.2).mono ?_
                rintro e W1 ⟨A1, c1, rfl, hc1, hN1, h, ht⟩
                replace HP := Lib.hid (HP.out.tA h ht)
                have HN1 := Lib.hid hN1
                clear hN1 h ht
                go_wp2_with fail
                refine (rtold_c b' d' m W1 HP.out.rem HGn.out.u32 HGn.out.len HGn.out.most).mono ?_
                rintro e W2 ⟨v, rfl, hrow, hb⟩
                rw [HT.out.1] at hrow
                obtain ⟨A2, c2, rfl, hc2, hN2⟩ := new_of_row hrow
                rw [HT.out.2] at hc2 ⊢
                replace HP := Lib.hid (HP.out.grow hb)
                have HSa := Lib.hid (same_c A1 A2 T T nT nT c1 c2 HT.out.2 HT.out.2 hl1 W2 (HN1.out.below hb).rcs hN2.rcs)
                rw [decide_eq_true (rfl : T = T)] at HSa
                clear hrow hb hN2 HN1
                go_wp2_with fail
                refine HSa.out.mono ?_
                rintro e W3 ⟨rfl, hb⟩
                replace HP := Lib.hid (HP.out.grow hb)
                have HD := Lib.hid (fun j => qdown1 HP.out.one j)
                have q1 := HP.out.rem.c1
                clear hb HSa
                go_wp2_with fail
                go_quiet ((go_at_call 28; exact Calls.quiet_of_same (HD.out _)))
                clear HD q1
                go_wp2_with fail
                go_roundw
                case rel => exact ⟨k + 1, gs, m, by omega, by omega, by go_num, rfl, HP.out.grow (below_n (Below.refl _ _) _), HGn.out, hmn, hlenn⟩
                case measure => simp [intOf]; omega
    · by_cases hend : k < L.length
      · have h60 : 60 ≤ k := by omega
        clear hlt
        have CU := Lib.hid (@up_m w wr gs b d m _ HP.out.one rfl)
        have g1 : Hid ((up m).gone = false) := rfl
        have g2 : Hid ((up m).ws = m.ws) := rfl
        generalize up m = M at *
        clear HG
        go_wp2_with fail
        refine CU.out.mono ?_
        rintro e W ⟨rfl, h, ht⟩
        replace HP := Lib.hid (HP.out.tA h ht)
        clear h ht CU
        go_wp2_with fail
        go_loopw [19] (fun i wr => ∃ j : Nat, j ≤ n ∧ i = .int .i64 j ∧ Pr w wr gs b d M b' d' m) (fun i _ => n - (intOf i).toNat)
        case atStart => exact ⟨0, Nat.zero_le _, rfl, HP.out⟩
        case round =>
          clear HP
          obtain ⟨j, hj, rfl, hP⟩ := hrel
          have HP := Lib.hid hP
          clear hP
          by_cases hlt2 : j < n
          · have hr := fun W => read_c b d M j W
            rw [rval_in g1.out (by rw [g2.out, hlen]; exact hlt2), rerr_in g1.out (by rw [g2.out, hlen]; exact hlt2), g2.out] at hr
            have HR := Lib.hid hr
            clear hr
            have HQ : Hid (∀ W, Pr w W gs b d M b' d' m → W.cell? ⟨d', j, none⟩ = some (.int .u32 (m.ws.getD j 0))) := fun W h => h.rem.ws.cell (by rw [hlen]; exact hlt2)
            generalize m.ws.getD j 0 = v at HR HQ
            go_wp2_with fail
            refine (HR.out _ HP.out.one.mm.mem).mono ?_
            rintro e w5 ⟨rfl, h1, h2⟩
            replace HP := Lib.hid (HP.out.tA (HP.out.one.turn h1 (Turn.off h2)) (Turn.off h2))
            have hcell := HQ.out _ HP.out
            have q0 := HP.out.rem.c0
            rw [hlen] at q0
            clear h1 h2 HR HQ
            go_wp2_with fail
            go_roundw
            case rel => exact ⟨j + 1, by omega, by go_num, HP.out⟩
            case measure => simp [intOf]; omega
          · obtain rfl : j = n := by omega
            go_wp2_with fail
            go_ret
            exact ⟨rfl, HP.out.one.mm.old⟩
      · clear hlt
        have CU := Lib.hid (@up_m w wr gs b d m _ HP.out.one rfl)
        have g1 : Hid ((up m).gone = false) := rfl
        have g2 : Hid ((up m).ws = m.ws) := rfl
        generalize up m = M at *
        clear HG
        go_wp2_with fail
        refine CU.out.mono ?_
        rintro e W ⟨rfl, h, ht⟩
        replace HP := Lib.hid (HP.out.tA h ht)
        clear h ht CU
        go_wp2_with fail
        go_loopw [19] (fun i wr => ∃ j : Nat, j ≤ n ∧ i = .int .i64 j ∧ Pr w wr gs b d M b' d' m) (fun i _ => n - (intOf i).toNat)
        case atStart => exact ⟨0, Nat.zero_le _, rfl, HP.out⟩
        case round =>
          clear HP
          obtain ⟨j, hj, rfl, hP⟩ := hrel
          have HP := Lib.hid hP
          clear hP
          by_cases hlt2 : j < n
          · have hr := fun W => read_c b d M j W
            rw [rval_in g1.out (by rw [g2.out, hlen]; exact hlt2), rerr_in g1.out (by rw [g2.out, hlen]; exact hlt2), g2.out] at hr
            have HR := Lib.hid hr
            clear hr
            have HQ : Hid (∀ W, Pr w W gs b d M b' d' m → W.cell? ⟨d', j, none⟩ = some (.int .u32 (m.ws.getD j 0))) := fun W h => h.rem.ws.cell (by rw [hlen]; exact hlt2)
            generalize m.ws.getD j 0 = v at HR HQ
            go_wp2_with fail
            refine (HR.out _ HP.out.one.mm.mem).mono ?_
            rintro e w5 ⟨rfl, h1, h2⟩
            replace HP := Lib.hid (HP.out.tA (HP.out.one.turn h1 (Turn.off h2)) (Turn.off h2))
            have hcell := HQ.out _ HP.out
            have q0 := HP.out.rem.c0
            rw [hlen] at q0
            clear h1 h2 HR HQ
            go_wp2_with fail
            go_roundw
            case rel => exact ⟨j + 1, by omega, by go_num, HP.out⟩
            case measure => simp [intOf]; omega
          · obtain rfl : j = n := by omega
            go_wp2_with fail
            go_ret
            exact ⟨rfl, HP.out.one.mm.old⟩

theorem StorePlays_walk (u : Nat) (hu : u < 256) (A : Option Addr) (L : List Cq) (cp : Nat) (w : World) (hA : Scr w A L) :
    Calls Try.prog 4 #[.int .u8 u, .slice A L.length cp] w fun e w' => e = .returned (.bool true) ∧ Below w.heap.size w w' := by
  by_cases h : u % 61 < 8
  · exact plays_few u _ hu rfl h _ w
  · exact plays_ok u _ hu rfl (by omega) A L cp w hA
end Sq
end Go.Proofs.Ytlhapipgmadbeaa
