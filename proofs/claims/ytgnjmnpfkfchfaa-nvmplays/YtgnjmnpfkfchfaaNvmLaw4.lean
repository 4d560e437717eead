/- The walk of NvmPlays. -/
import Derived.Test.YtgnjmnpfkfchfaaNvmScript
import Derived.Test.YtgnjmnpfkfchfaaOrdKit
import Derived.BigQuiet
import Derived.Deep.QuietTactic
namespace Go.Proofs.Ytgnjmnpfkfchfaa
namespace Nw
open Go.RowKit Nv

set_option maxRecDepth 100000 in
set_option maxHeartbeats 4000000 in
theorem plays_no (n : Int) (V : Value) (hn : ¬ (0 ≤ n ∧ n ≤ 512)) (w : World) :
    Calls Try.prog 4 #[.int .i64 n, V] w fun e w' => e = .returned (.bool true) ∧ Below w.heap.size w w' := by
  go_enter Try.func4, Try.ntmps4
  go_wp2_with fail
  refine (awake_c w).mono ?_
  rintro e w1 ⟨rfl, h⟩
  have HB := Lib.hid h
  clear h
  go_wp2_with fail
  refine (new_no n hn w1).mono ?_
  rintro e w2 ⟨rfl, rfl⟩
  go_wp2_with fail
  refine (rnew_no n hn w1).mono ?_
  rintro e w2 ⟨rfl, rfl⟩
  go_wp2_with fail
  go_ret
  exact ⟨rfl, HB.out⟩

theorem ord_w : Lk.orderedB (Lk.opsOf Try.f4 17) [(0, false), (1, false), (2, false), (3, false), (4, false), (6, false), (7, false), (8, false), (9, false), (10, false), (5, true), (11, true), (12, false), (13, false)] = true := by kernel_rfl

set_option maxRecDepth 100000 in
set_option maxHeartbeats 8000000 in
theorem plays_ok (n : Nat) (A : Option Addr) (L : List C) (cp : Nat) (hn : n ≤ 512) (w : World) (hA : Cls w A L) :
    Calls Try.prog 4 #[.int .i64 n, .slice A L.length cp] w fun e w' => e = .returned (.bool true) ∧ Below w.heap.size w w' := by
  have HA := Lib.hid hA
  clear hA
  go_enter Try.func4, Try.ntmps4
  go_wp2_with fail
  refine (awake_c w).mono ?_
  rintro e w1 ⟨rfl, h⟩
  have HB := Lib.hid h
  clear h
  go_wp2_with fail
  refine (new_ok n hn w1).mono ?_
  rintro e w2 ⟨⟨b, d, rfl, h1, h2, h3⟩, hb⟩
  have HM := Lib.hid (And.intro h1 (And.intro h2 (And.intro h3 hb)))
  clear h1 h2 h3 hb
  go_wp2_with fail
  refine (rnew_ok n hn w2).mono ?_
  rintro e w3 ⟨⟨b', d', rfl, h1', h2', h3'⟩, hb'⟩
  have HP : Hid (Ps w w3 b d b' d' (new n) (new n)) := by
    obtain ⟨h1, h2, h3, hb⟩ := HM.out
    have := HB.out.size
    have := hb.size
    have := h1.lt
    have := h1.lt'
    exact ⟨h1.grow hb', h1', (HB.out.trans (hb.mono (by omega))).trans (hb'.mono (by omega)), by omega, by omega, by omega, by omega, by omega, by omega, by omega, by omega⟩
  clear h1' h2' h3' hb' HM HB
  go_wp2_with fail
  go_loopw [10] (fun i wr => ∃ (k : Nat) (m : M), k ≤ 100 ∧ k ≤ L.length ∧ i = .int .i64 k ∧ Ps w wr b d b' d' m m ∧ Inv n k m) (fun i _ => 100 - (intOf i).toNat)
  case atStart => exact ⟨0, new n, by omega, Nat.zero_le _, rfl, HP.out, Inv.start n⟩
  case round =>
    clear HP
    obtain ⟨k, m, hk, hkl, rfl, hP, hI⟩ := hrel
    have HP := Lib.hid hP
    have HI := Lib.hid hI
    clear hP hI
    by_cases hlt : k < L.length ∧ k < 100
    · obtain ⟨hlt, h100⟩ := hlt
      obtain ⟨ab, ao, rfl, c, hci, HG⟩ := HA.out.get hlt
      replace HG := Lib.hid (HG.out _ HP.out.old)
      have HC := Lib.hid (Pc.new HP.out c.k c.i c.w)
      clear HP HA
      generalize hg : wr.heap.size = g at HC

      by_cases hK : c.k = 1
      · have hf := HI.out.few hk
        obtain ⟨E, hE⟩ : ∃ E, werr m c.i = E := ⟨_, rfl⟩
        have CW := Lib.hid (fun W (h : Pc w W b d b' d' m m g c.k c.i c.w) => pwrite hf hE h)
        have CR := Lib.hid (fun W (h : Pc w W b d b' d' (wput m c.i c.w) m g c.k c.i c.w) => prwrite hf hE h)
        replace HI := Lib.hid (HI.out.write c.i c.w)
        obtain ⟨M', hM⟩ : ∃ M', wput m c.i c.w = M' := ⟨_, rfl⟩
        rw [hM] at CW CR HI
        clear hM hE hf
        obtain ⟨ck, ci, cw⟩ := c
        simp only at hK HC HG CW CR HI
        subst hK
        have HV := HC
        clear HC
        obtain ⟨c0, c1, c2⟩ := HV.out.fld
        go_wp2_with (first | (refine ldc rfl _ rfl _ _ _ _ _ rfl HG.out ?_) | fail)
        clear c0 c1 c2 HG
        refine wp_region_noPanic (Lk.wp_region_ordered ord_w (fun V => CFld V g 1 ci cw) (by kernel_rfl) (by kernel_rfl) (fun _ _ _ _ _ h => h) (by first | (with_reducible exact Pc.fld HV.out) | (with_reducible exact Pc.fld HV.out.drew)) ?_)
        replace HV := Lib.hid HV.out.drew
        iterate 10 (refine Lk.ord_take ?_ rfl rfl ?_ ?_; rotate_left; (focus (intro w' hS; (try dsimp only at hS); go_simp; try with_reducible rfl)); simp only [Act.put, List.setIfInBounds_toArray, List.set_cons_zero, List.set_cons_succ])
        refine Lk.ord_step rfl rfl (fun K hK => ?_)
        go_simp
        (with_reducible refine (CW.out _ HV.out).mono ?_)
        rintro r W ⟨rfl, hb⟩
        replace HV := Lib.hid hb
        clear hb
        refine hK.out _ _ (by first | (with_reducible exact Pc.fld HV.out) | (with_reducible exact Pc.fld HV.out.drew)) ?_
        clear hK K
        try simp only [Act.put, List.setIfInBounds_toArray, List.set_cons_zero, List.set_cons_succ]
        refine Lk.ord_step rfl rfl (fun K hK => ?_)
        go_simp
        (with_reducible refine (CR.out _ HV.out).mono ?_)
        rintro r W ⟨rfl, hb⟩
        replace HV := Lib.hid hb
        clear hb
        refine hK.out _ _ (by first | (with_reducible exact Pc.fld HV.out) | (with_reducible exact Pc.fld HV.out.drew)) ?_
        clear hK K
        try simp only [Act.put, List.setIfInBounds_toArray, List.set_cons_zero, List.set_cons_succ]
        iterate 2 (refine Lk.ord_take ?_ rfl rfl ?_ ?_; rotate_left; (focus (intro w' hS; (try dsimp only at hS); go_simp; try with_reducible rfl)); simp only [Act.put, List.setIfInBounds_toArray, List.set_cons_zero, List.set_cons_succ])
        refine Lk.ord_nil (NoPanic.normal ?_)
        have HP := Lib.hid HV.out.ps
        clear HV CW CR
        have HD := Lib.hid (fun j => qdown HP.out j)
        have HM := Lib.hid (fun j => qmany HP.out j)
        have HN := Lib.hid (fun j => qwords HP.out HI.out.fit.len j)
        have q0 := HP.out.rem.c0
        have q1 := HP.out.rem.c1
        have q3 := HP.out.rem.c3
        rw [HI.out.fit.len] at q0
        go_wp2_with fail
        go_quiet ((first | (go_at_call 19; exact Calls.quiet_of_same (HD.out _)) | (go_at_call 20; exact Calls.quiet_of_same (HM.out _)) | (go_at_call 21; exact Calls.quiet_of_same (HN.out _))))
        clear HD HM HN q0 q1 q3
        go_wp2_with fail
        go_roundw
        case rel => exact ⟨k + 1, _, by omega, by omega, by go_num, HP.out.drewN _, HI.out⟩
        case measure => simp [intOf]; omega
      · have k1 := hK
        clear hK
        by_cases hK : c.k = 2
        · obtain ⟨v, hv⟩ : ∃ v, rval m c.i = v := ⟨_, rfl⟩
          obtain ⟨E, hE⟩ : ∃ E, rerr m c.i = E := ⟨_, rfl⟩
          have CW := Lib.hid (fun W (h : Pc w W b d b' d' m m g c.k c.i c.w) => pread hv hE h)
          have CR := Lib.hid (fun W (h : Pc w W b d b' d' m m g c.k c.i c.w) => prread hv hE h)
          replace HI := Lib.hid HI.out.more
          clear hv hE
          obtain ⟨ck, ci, cw⟩ := c
          simp only at hK HC HG HI CW CR
          subst hK
          have HV := HC
          clear HC
          obtain ⟨c0, c1, c2⟩ := HV.out.fld
          go_wp2_with (first | (refine ldc rfl _ rfl _ _ _ _ _ rfl HG.out ?_) | fail)
          clear c0 c1 c2 HG
          (with_reducible refine (CW.out _ HV.out).mono ?_)
          rintro e W ⟨rfl, h⟩
          replace HV := Lib.hid h
          obtain ⟨c0, c1, c2⟩ := HV.out.fld
          clear h CW
          go_wp2_with fail
          (with_reducible refine (CR.out _ HV.out).mono ?_)
          rintro e W' ⟨rfl, rfl⟩
          have HP := Lib.hid HV.out.ps
          clear HV CR c0 c1 c2
          have HD := Lib.hid (fun j => qdown HP.out j)
          have HM := Lib.hid (fun j => qmany HP.out j)
          have HN := Lib.hid (fun j => qwords HP.out HI.out.fit.len j)
          have q0 := HP.out.rem.c0
          have q1 := HP.out.rem.c1
          have q3 := HP.out.rem.c3
          rw [HI.out.fit.len] at q0
          go_wp2_with fail
          go_quiet ((first | (go_at_call 19; exact Calls.quiet_of_same (HD.out _)) | (go_at_call 20; exact Calls.quiet_of_same (HM.out _)) | (go_at_call 21; exact Calls.quiet_of_same (HN.out _))))
          clear HD HM HN q0 q1 q3
          go_wp2_with fail
          go_roundw
          case rel => exact ⟨k + 1, _, by omega, by omega, by go_num, HP.out.drewN _, HI.out⟩
          case measure => simp [intOf]; omega
        · have k2 := hK
          clear hK
          by_cases hK : c.k = 3
          · have CW := Lib.hid (fun W (h : Pc w W b d b' d' m m g c.k c.i c.w) => parm h)
            have CR := Lib.hid (fun W (h : Pc w W b d b' d' (arm m c.i) m g c.k c.i c.w) => prarm h)
            replace HI := Lib.hid (HI.out.arm hci.2)
            obtain ⟨M', hM⟩ : ∃ M', arm m c.i = M' := ⟨_, rfl⟩
            rw [hM] at CW CR HI
            clear hM hci
            obtain ⟨ck, ci, cw⟩ := c
            simp only at hK HC HG HI CW CR
            subst hK
            have HV := HC
            clear HC
            obtain ⟨c0, c1, c2⟩ := HV.out.fld
            go_wp2_with (first | (refine ldc rfl _ rfl _ _ _ _ _ rfl HG.out ?_) | fail)
            clear c0 c1 c2 HG
            (with_reducible refine (CW.out _ HV.out).mono ?_)
            rintro e W ⟨rfl, h⟩
            replace HV := Lib.hid h
            obtain ⟨c0, c1, c2⟩ := HV.out.fld
            clear h CW
            go_wp2_with fail
            (with_reducible refine (CR.out _ HV.out).mono ?_)
            rintro e W' ⟨rfl, h⟩
            replace HV := Lib.hid h
            have HP := Lib.hid HV.out.ps
            clear HV CR c0 c1 c2 h
            have HD := Lib.hid (fun j => qdown HP.out j)
            have HM := Lib.hid (fun j => qmany HP.out j)
            have HN := Lib.hid (fun j => qwords HP.out HI.out.fit.len j)
            have q0 := HP.out.rem.c0
            have q1 := HP.out.rem.c1
            have q3 := HP.out.rem.c3
            rw [HI.out.fit.len] at q0
            go_wp2_with fail
            go_quiet ((first | (go_at_call 19; exact Calls.quiet_of_same (HD.out _)) | (go_at_call 20; exact Calls.quiet_of_same (HM.out _)) | (go_at_call 21; exact Calls.quiet_of_same (HN.out _))))
            clear HD HM HN q0 q1 q3
            go_wp2_with fail
            go_roundw
            case rel => exact ⟨k + 1, _, by omega, by omega, by go_num, HP.out.drewN _, HI.out⟩
            case measure => simp [intOf]; omega
          · have k3 := hK
            clear hK
            by_cases hK : c.k = 4
            · have CW := Lib.hid (fun W (h : Ps w W b d b' d' m m) => pup h)
              have CR := Lib.hid (fun W (h : Ps w W b d b' d' (up m) m) => prup h)
              replace HI := Lib.hid HI.out.up
              obtain ⟨M', hM⟩ : ∃ M', up m = M' := ⟨_, rfl⟩
              rw [hM] at CW CR HI
              clear hM hci
              obtain ⟨ck, ci, cw⟩ := c
              simp only at hK HC HG HI CW CR
              subst hK
              have HV := HC
              clear HC
              obtain ⟨c0, c1, c2⟩ := HV.out.fld
              go_wp2_with (first | (refine ldc rfl _ rfl _ _ _ _ _ rfl HG.out ?_) | fail)
              clear c0 c1 c2 HG
              (with_reducible refine (CW.out _ HV.out.ps).mono ?_)
              rintro e W ⟨rfl, h, _⟩
              have HP := Lib.hid h
              clear h CW HV
              go_wp2_with fail
              (with_reducible refine (CR.out _ HP.out).mono ?_)
              rintro e W' ⟨rfl, h, _⟩
              replace HP := Lib.hid h
              clear CR h
              have HD := Lib.hid (fun j => qdown HP.out j)
              have HM := Lib.hid (fun j => qmany HP.out j)
              have HN := Lib.hid (fun j => qwords HP.out HI.out.fit.len j)
              have q0 := HP.out.rem.c0
              have q1 := HP.out.rem.c1
              have q3 := HP.out.rem.c3
              rw [HI.out.fit.len] at q0
              go_wp2_with fail
              go_quiet ((first | (go_at_call 19; exact Calls.quiet_of_same (HD.out _)) | (go_at_call 20; exact Calls.quiet_of_same (HM.out _)) | (go_at_call 21; exact Calls.quiet_of_same (HN.out _))))
              clear HD HM HN q0 q1 q3
              go_wp2_with fail
              go_roundw
              case rel => exact ⟨k + 1, _, by omega, by omega, by go_num, HP.out.drewN _, HI.out⟩
              case measure => simp [intOf]; omega
            · have k4 := hK
              clear hK
              replace HI := Lib.hid HI.out.more
              have d1 : (c.k == 1) = false := by simp [k1]
              have d2 : (c.k == 2) = false := by simp [k2]
              have d3 : (c.k == 3) = false := by simp [k3]
              have d4 : (c.k == 4) = false := by simp [k4]
              clear k1 k2 k3 k4 hci
              obtain ⟨ck, ci, cw⟩ := c
              simp only at HC HG d1 d2 d3 d4
              have HV := HC
              clear HC
              obtain ⟨c0, c1, c2⟩ := HV.out.fld
              go_wp2_with (first | (refine ldc rfl _ rfl _ _ _ _ _ rfl HG.out ?_) | fail)
              clear c0 c1 c2 HG
              have HP := Lib.hid HV.out.ps
              clear HV
              have HD := Lib.hid (fun j => qdown HP.out j)
              have HM := Lib.hid (fun j => qmany HP.out j)
              have HN := Lib.hid (fun j => qwords HP.out HI.out.fit.len j)
              have q0 := HP.out.rem.c0
              have q1 := HP.out.rem.c1
              have q3 := HP.out.rem.c3
              rw [HI.out.fit.len] at q0
              go_quiet ((first | (go_at_call 19; exact Calls.quiet_of_same (HD.out _)) | (go_at_call 20; exact Calls.quiet_of_same (HM.out _)) | (go_at_call 21; exact Calls.quiet_of_same (HN.out _))))
              clear HD HM HN q0 q1 q3
              go_wp2_with fail
              go_roundw
              case rel => exact ⟨k + 1, _, by omega, by omega, by go_num, HP.out.drewN _, HI.out⟩
              case measure => simp [intOf]; omega
    · by_cases hend : k < L.length
      · have h100 : 100 ≤ k := by omega
        clear hlt
        have CU := Lib.hid (pup HP.out)
        obtain ⟨M', hM⟩ : ∃ M', up m = M' := ⟨_, rfl⟩
        have g1 : Hid (M'.gone = false) := by rw [← hM]; exact rfl
        have g2 : Hid (M'.ws = m.ws) := by rw [← hM]; exact rfl
        have g3 : Hid (m.ws.length = n) := HI.out.fit.len
        rw [hM] at CU
        clear hM HI HP
        go_wp2_with fail
        refine CU.out.mono ?_
        rintro e W ⟨rfl, h, _⟩
        have HP := Lib.hid h
        clear h CU
        go_wp2_with fail
        go_loopw [17] (fun i wr => ∃ j : Nat, j ≤ n ∧ i = .int .i64 j ∧ Ps w wr b d b' d' M' m) (fun i _ => n - (intOf i).toNat)
        case atStart => exact ⟨0, Nat.zero_le _, rfl, HP.out⟩
        case round =>
          clear HP
          obtain ⟨j, hj, rfl, hP⟩ := hrel
          have HP := Lib.hid hP
          clear hP
          have q0 := HP.out.rem.c0
          rw [g3.out] at q0
          by_cases hlt2 : j < n
          · have hr := fun W => read_c b d M' j W
            rw [rval_in g1.out (by rw [g2.out, g3.out]; exact hlt2), rerr_in g1.out (by rw [g2.out, g3.out]; exact hlt2), g2.out] at hr
            have HR := Lib.hid hr
            clear hr
            have HQ : Hid (∀ W, Ps w W b d b' d' M' m → W.cell? ⟨d', j, none⟩ = some (.int .u32 (m.ws.getD j 0))) := fun W h => h.rem.ws.cell (by rw [g3.out]; exact hlt2)
            generalize m.ws.getD j 0 = v at HR HQ
            go_wp2_with fail
            refine (HR.out _ HP.out.mem).mono ?_
            rintro e w5 ⟨rfl, h1, h2⟩
            replace HP := Lib.hid (HP.out.stepM h1 h2)
            have hcell := HQ.out _ HP.out
            have q0 := HP.out.rem.c0
            rw [g3.out] at q0
            clear h1 h2 HR HQ
            go_wp2_with fail
            go_roundw
            case rel => exact ⟨j + 1, by omega, by go_num, HP.out⟩
            case measure => simp [intOf]; omega
          · obtain rfl : j = n := by omega
            go_wp2_with fail
            go_ret
            exact ⟨rfl, HP.out.old⟩
      · clear hlt
        have CU := Lib.hid (pup HP.out)
        obtain ⟨M', hM⟩ : ∃ M', up m = M' := ⟨_, rfl⟩
        have g1 : Hid (M'.gone = false) := by rw [← hM]; exact rfl
        have g2 : Hid (M'.ws = m.ws) := by rw [← hM]; exact rfl
        have g3 : Hid (m.ws.length = n) := HI.out.fit.len
        rw [hM] at CU
        clear hM HI HP
        go_wp2_with fail
        refine CU.out.mono ?_
        rintro e W ⟨rfl, h, _⟩
        have HP := Lib.hid h
        clear h CU
        go_wp2_with fail
        go_loopw [17] (fun i wr => ∃ j : Nat, j ≤ n ∧ i = .int .i64 j ∧ Ps w wr b d b' d' M' m) (fun i _ => n - (intOf i).toNat)
        case atStart => exact ⟨0, Nat.zero_le _, rfl, HP.out⟩
        case round =>
          clear HP
          obtain ⟨j, hj, rfl, hP⟩ := hrel
          have HP := Lib.hid hP
          clear hP
          have q0 := HP.out.rem.c0
          rw [g3.out] at q0
          by_cases hlt2 : j < n
          · have hr := fun W => read_c b d M' j W
            rw [rval_in g1.out (by rw [g2.out, g3.out]; exact hlt2), rerr_in g1.out (by rw [g2.out, g3.out]; exact hlt2), g2.out] at hr
            have HR := Lib.hid hr
            clear hr
            have HQ : Hid (∀ W, Ps w W b d b' d' M' m → W.cell? ⟨d', j, none⟩ = some (.int .u32 (m.ws.getD j 0))) := fun W h => h.rem.ws.cell (by rw [g3.out]; exact hlt2)
            generalize m.ws.getD j 0 = v at HR HQ
            go_wp2_with fail
            refine (HR.out _ HP.out.mem).mono ?_
            rintro e w5 ⟨rfl, h1, h2⟩
            replace HP := Lib.hid (HP.out.stepM h1 h2)
            have hcell := HQ.out _ HP.out
            have q0 := HP.out.rem.c0
            rw [g3.out] at q0
            clear h1 h2 HR HQ
            go_wp2_with fail
            go_roundw
            case rel => exact ⟨j + 1, by omega, by go_num, HP.out⟩
            case measure => simp [intOf]; omega
          · obtain rfl : j = n := by omega
            go_wp2_with fail
            go_ret
            exact ⟨rfl, HP.out.old⟩

theorem NvmPlays_walk (n : Int) (A : Option Addr) (L : List C) (cp : Nat) (w : World) (hA : Cls w A L) :
    Calls Try.prog 4 #[.int .i64 n, .slice A L.length cp] w fun e w' => e = .returned (.bool true) ∧ Below w.heap.size w w' := by
  by_cases h : 0 ≤ n ∧ n ≤ 512
  · obtain ⟨k, rfl⟩ : ∃ k : Nat, n = k := ⟨n.toNat, by omega⟩
    exact plays_ok k A L cp (by omega) w hA
  · exact plays_no n _ h w
end Nw
end Go.Proofs.Ytgnjmnpfkfchfaa
