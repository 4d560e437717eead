/- The walk of StoreCuts. -/
import Derived.Test.YtlhapipgmadbeaaStoreTwo
namespace Go.Proofs.Ytlhapipgmadbeaa
namespace Sq
open Go.RowKit Nv Nw Sp Lk

theorem told_short {m : M} (h : m.ws.length ≤ 512) : (told m).length ≤ 1000 := by
  unfold Sp.told
  split
  · simp
  · rw [recs_length (codes_pl m)]
    have h1 := cnt_le (rooms m) (holds (rooms m) (pl m.ws))
    have h2 : rooms m = m.ws.length / 4 := rfl
    omega
/-- What one more record leaves. -/
theorem good_step {m : M} {k : Nat} (h : Good m) (hm : m.many ≤ 5 * (k : Int)) (hk : k ≤ 100) (c : Nat) (hc : c ≤ 10) (r : R) : Good (up (put (arm m c) r).2) ∧ (up (put (arm m c) r).2).many ≤ 5 * ((k + 1 : Nat) : Int) := by
  have h1 : Good (arm m c) := h.arm (by omega)
  have h2 : (arm m c).many = m.many := by unfold arm; split <;> rfl
  have h3 := h1.put r (by omega)
  have h4 := put_many (arm m c) r
  exact ⟨h3.up, by show (Sp.put (arm m c) r).2.many ≤ _; omega⟩
theorem good_step2 {m : M} {k : Nat} (h : Good m) (hm : m.many ≤ 5 * (k : Int)) (hk : k ≤ 100) (r : R) : Good (put m r).2 ∧ (put m r).2.many ≤ 5 * ((k + 1 : Nat) : Int) := by
  have h4 := put_many m r
  exact ⟨h.put r (by omega), by omega⟩

set_option maxRecDepth 100000 in
set_option maxHeartbeats 4000000 in
theorem StoreCuts_walk (u : Nat) (hu : u < 256) (A : Option Addr) (L : List R) (cp : Nat) (B : Option Addr) (l : List Int) (cl : Nat) (_hl : l.length ≤ 9223372036854775807) (hlv : ∀ v ∈ l, 0 ≤ v ∧ v ≤ 255) (w : World) (hA : Rcs w A L) (hB : Lk.IntsAt w .u8 B l) :
    Calls Try.prog 5 #[.int .u8 u, .slice A L.length cp, .slice B l.length cl] w fun e w' => e = .returned (.bool true) ∧ Below w.heap.size w w' := by
  have HA := Lib.hid hA
  have HB := Lib.hid hB
  have HV := Lib.hid hlv
  obtain ⟨n, hn⟩ : ∃ n : Nat, 8 + u % 53 = n := ⟨_, rfl⟩
  have hn1 : (u : Int).tmod 53 = (n : Int) - 8 := by rw [Int.tmod_eq_emod_of_nonneg (by omega)]; omega
  have hn2 : (u : Int) % 53 = (n : Int) - 8 := by omega
  have hn3 : 8 ≤ n := by omega
  have hn4 : n ≤ 60 := by omega
  clear hA hB hlv hn
  go_enter Try.func5, Try.ntmps5
  go_wp2_with fail
  refine (awake_c w).mono ?_
  rintro e w1 ⟨rfl, h⟩
  have HW := Lib.hid h
  clear h
  go_wp2_with fail
  refine (new_m n (by omega) (by omega) HW.out).mono ?_
  rintro e w2 ⟨b, d, rfl, h, _, _, _⟩
  have HM : Hid (Mm w w2 b d (Nv.new n)) := h
  clear h HW
  go_wp2_with fail
  refine (new_m n (by omega) (by omega) HM.out.old).mono ?_
  rintro e w3 ⟨b', d', rfl, h, h1, h2, hb⟩
  have HN : Hid (Mm w w3 b' d' (Nv.new n)) := h
  have HD : Hid ((b ≠ b' ∧ b ≠ d') ∧ d ≠ b' ∧ d ≠ d') := by
    have := HM.out.mem.lt
    have := HM.out.mem.lt'
    exact ⟨⟨by omega, by omega⟩, by omega, by omega⟩
  replace HM := Lib.hid (HM.out.grow hb)
  have hln : (Nv.new n).ws.length = n := by simp [Nv.new, zeros]
  clear h h1 h2 hb
  go_wp2_with fail
  refine (open_m HM.out rfl (by omega) (by omega)).mono ?_
  rintro e w4 ⟨g, rfl, h, h1, hb⟩
  have HO : Hid (One w w4 g b d (Nv.new n)) := h
  have HG : Hid (g ≠ b' ∧ g ≠ d') := by
    have := HN.out.mem.lt
    have := HN.out.mem.lt'
    exact ⟨by omega, by omega⟩
  replace HN := Lib.hid (HN.out.grow hb)
  clear h h1 hb HM
  go_wp2_with fail
  refine (open_m HN.out rfl (by omega) (by omega)).mono ?_
  rintro e w5 ⟨g', rfl, h, h1, hb⟩
  have HT : Hid (Two w w5 g b d (Nv.new n) g' b' d' (Nv.new n)) := by
    have := HO.out.mm.mem.lt
    have := HO.out.mm.mem.lt'
    exact ⟨HO.out.grow hb, h, by omega, HD.out.1.1, HD.out.1.2, by omega, HD.out.2.1, HD.out.2.2, HG.out.1, HG.out.2⟩
  clear h h1 hb HN HO HD HG
  go_wp2_with fail
  go_loopw [13, 17] (fun sv i wr => ∃ (k g : Nat) (m o : M), k ≤ 40 ∧ k ≤ L.length ∧ i = .int .i64 k ∧ sv = .pointer (some ⟨g, 0, none⟩) ∧ Two w wr g b d m g' b' d' o ∧ CI n k m o ∧ Good m ∧ Good o ∧ m.many ≤ 5 * (k : Int) ∧ o.many ≤ 5 * (k : Int)) (fun _ i _ => 40 - (intOf i).toNat)
  case atStart => exact ⟨0, g, _, _, by omega, Nat.zero_le _, rfl, rfl, HT.out, CI.start n, good_new hn3 (by omega), good_new hn3 (by omega), by simp [Nv.new], by simp [Nv.new]⟩
  case round =>
    clear HT hln
    obtain ⟨k, gs, m, o, hk, hkl, rfl, rfl, hT, hC, hGm, hGo, hmm, hmo⟩ := hrel
    have HT := Lib.hid hT
    have HC := Lib.hid hC
    have HGm := Lib.hid hGm
    have HGo := Lib.hid hGo
    clear hT hC hGm hGo
    by_cases hlt : k < L.length ∧ k < 40
    · obtain ⟨hlt, h40⟩ := hlt
      obtain ⟨ab, ao, r, rfl, _, HRc⟩ := rec_get HA.out hlt
      by_cases hcut : k < l.length
      · obtain ⟨bb, bo, rfl, hc0⟩ := HB.out k hcut
        have hv0 : 0 ≤ l.getD k 0 ∧ l.getD k 0 ≤ 255 := HV.out _ (by
          have : l.getD k 0 = l[k] := by simp [hcut]
          rw [this]; exact List.getElem_mem _)
        have HBc : Hid (∀ W, Below w.heap.size w W → W.cell? ⟨bb, bo + k, none⟩ = some (.int .u8 (l.getD k 0))) := fun W hb => (hb.cell (World.block_lt_of_cell? _ _ hc0)).trans hc0
        generalize l.getD k 0 = v at *
        obtain ⟨cc, hcc⟩ : ∃ cc : Nat, v % 10 = cc := ⟨(v % 10).toNat, by omega⟩
        have hc2 : v.tmod 10 = cc := by rw [Int.tmod_eq_emod_of_nonneg hv0.1]; exact hcc
        have hc10 : cc < 10 := by omega
        obtain ⟨hv1, hv2⟩ := hv0
        clear hc0 HA HB HV
        obtain ⟨m1, hm1⟩ : ∃ m1, arm m cc = m1 := ⟨_, rfl⟩
        obtain ⟨E, hE⟩ : ∃ E, (put m1 r).1 = E := ⟨_, rfl⟩
        obtain ⟨m2, hm2⟩ : ∃ m2, (put m1 r).2 = m2 := ⟨_, rfl⟩
        obtain ⟨m3, hm3⟩ : ∃ m3, up m2 = m3 := ⟨_, rfl⟩
        obtain ⟨Ls, hLs⟩ : ∃ Ls, told m = Ls := ⟨_, rfl⟩
        obtain ⟨Ln, hLn⟩ : ∃ Ln, told m3 = Ln := ⟨_, rfl⟩
        obtain ⟨ns, hns⟩ : ∃ ns, Ls.length = ns := ⟨_, rfl⟩
        obtain ⟨nn, hnn⟩ : ∃ nn, Ln.length = nn := ⟨_, rfl⟩
        have HS := CI.step hn3 (by omega) (by omega) HC.out cc r
        have HG3 := good_step HGm.out hmm (by omega) cc (by omega) r
        rw [hm1, hE, hm2, hm3] at HS
        rw [hm1, hm2, hm3] at HG3
        have hl1 : ns ≤ 1000 := by rw [← hns, ← hLs]; exact told_short HGm.out.most
        have hl2 : nn ≤ 1000 := by rw [← hnn, ← hLn]; exact told_short HG3.1.most
        have HGa : Hid (Good m1) := by rw [← hm1]; exact HGm.out.arm (by omega)
        have HG3h := Lib.hid HG3
        have HSh := Lib.hid HS
        have HEh := Lib.hid (And.intro hE (And.intro hm2 (And.intro hm3 (And.intro hm1 (And.intro hLs (And.intro hLn (And.intro hns hnn)))))))
        have hgo : Hid (m3.gone = false ∧ m3.ws.length = n) := by
          rw [← hm3, ← hm2, ← hm1]
          refine ⟨rfl, ?_⟩
          show (Sp.put (arm m cc) r).2.ws.length = n
          rw [put_len, arm_len, HC.out.lm]
        clear hE hm1 hm2 hm3 hLs hLn hns hnn HS HG3
        go_wp2_with (first | (go_at_call 26; (with_reducible refine (told_m HT.out.a HGm.out HEh.out.2.2.2.2.1 HEh.out.2.2.2.2.2.2.1).mono ?_); rintro e W1 ⟨A1, c1, rfl, hc1, hN1, h, ht⟩; have HK := Lib.hid (And.intro hN1 (And.intro HT.out.a.mm.mem.lt (And.intro HT.out.a.mm.mem.lt' (And.intro HT.out.c.mm.mem.lt HT.out.c.mm.mem.lt')))); replace HT := Lib.hid (HT.out.tA h ht); have hB := HBc.out _ HT.out.a.mm.old; clear hN1 h ht) | fail)
        clear hB
        refine (arm_m HT.out.a HEh.out.2.2.2.1).mono ?_
        rintro e W2 ⟨rfl, h, ht⟩
        replace HT := Lib.hid (HT.out.tA h ht)
        replace HK := Lib.hid (And.intro (HK.out.1.turn ht HK.out.2.1 HK.out.2.2.1) HK.out.2)
        have hR := HRc.out _ HT.out.a.mm.old
        clear h ht
        go_wp2_with (first | (refine ldrm rfl _ rfl _ _ _ rfl hR ?_) | fail)
        refine (put_m HT.out.a HGa.out r HEh.out.1 HEh.out.2.1).mono ?_
        rintro e W3 ⟨rfl, h, ht⟩
        replace HT := Lib.hid (HT.out.tA h ht)
        replace HK := Lib.hid (And.intro (HK.out.1.turn ht HK.out.2.1 HK.out.2.2.1) HK.out.2)
        clear h ht hR
        go_wp2_with fail
        refine (up_m HT.out.a HEh.out.2.2.1).mono ?_
        rintro e W4 ⟨rfl, h, ht⟩
        replace HT := Lib.hid (HT.out.tA h ht)
        replace HK := Lib.hid (And.intro (HK.out.1.turn ht HK.out.2.1 HK.out.2.2.1) HK.out.2)
        clear h ht
        go_wp2_with fail
        refine (open_m HT.out.a.mm hgo.out.1 (by rw [hgo.out.2]; omega) (by rw [hgo.out.2]; omega)).mono ?_
        rintro e W5 ⟨g2, rfl, h, h1, hb⟩
        replace HT := Lib.hid (HT.out.other hb h h1)
        replace HK := Lib.hid (And.intro (HK.out.1.turn (Turn.grow (b := b) (d := d) hb) HK.out.2.1 HK.out.2.2.1) HK.out.2)
        clear h h1 hb
        go_wp2_with fail
        refine (told_m HT.out.a HG3h.out.1 HEh.out.2.2.2.2.2.1 HEh.out.2.2.2.2.2.2.2).mono ?_
        rintro e W6 ⟨A2, c2, rfl, hc2, hN2, h, ht⟩
        have HK2 := Lib.hid (And.intro hN2 (And.intro HT.out.a.mm.mem.lt (And.intro HT.out.a.mm.mem.lt' (And.intro HT.out.c.mm.mem.lt HT.out.c.mm.mem.lt'))))
        replace HT := Lib.hid (HT.out.tA h ht)
        replace HK := Lib.hid (And.intro (HK.out.1.turn ht HK.out.2.1 HK.out.2.2.1) HK.out.2)
        clear hN2 h ht
        by_cases hE0 : E = 0
        · subst hE0
          obtain ⟨q1, q2⟩ := HSh.out.2 rfl
          obtain ⟨o2, ho2⟩ : ∃ o2, (put o r).2 = o2 := ⟨_, rfl⟩
          have HG4 := good_step2 HGo.out hmo (by omega) r
          rw [ho2] at q2 HG4
          have HQ := Lib.hid q2
          have HP := Lib.hid (And.intro q1 ho2)
          have HG4h := Lib.hid HG4
          have HX : Hid (told o2 = Ln) := by show _ = _; rw [← q2.same]; exact HEh.out.2.2.2.2.2.1
          clear q1 q2 ho2 HG4 HSh
          have hR := HRc.out _ HT.out.a.mm.old
          go_wp2_with (first | (refine ldrm rfl _ rfl _ _ _ rfl hR ?_) | fail)
          refine (put_m HT.out.c HGo.out r HP.out.1 HP.out.2).mono ?_
          rintro e W7 ⟨rfl, h, ht⟩
          replace HT := Lib.hid (HT.out.tC h ht)
          replace HK2 := Lib.hid (And.intro (HK2.out.1.turn ht HK2.out.2.2.2.1 HK2.out.2.2.2.2) HK2.out.2)
          clear h ht hR HK
          go_wp2_with fail
          refine (told_m HT.out.c HG4h.out.1 HX.out HEh.out.2.2.2.2.2.2.2).mono ?_
          rintro e W8 ⟨A3, c3, rfl, hc3, hN3, h, ht⟩
          have HK3 := Lib.hid hN3
          replace HT := Lib.hid (HT.out.tC h ht)
          replace HK2 := Lib.hid (And.intro (HK2.out.1.turn ht HK2.out.2.2.2.1 HK2.out.2.2.2.2) HK2.out.2)
          clear hN3 h ht
          have HSa := Lib.hid (same_c A2 A3 Ln Ln nn nn c2 c3 HEh.out.2.2.2.2.2.2.2 HEh.out.2.2.2.2.2.2.2 hl2 W8 HK2.out.1.rcs HK3.out.rcs)
          rw [decide_eq_true (rfl : Ln = Ln)] at HSa
          go_wp2_with fail
          refine HSa.out.mono ?_
          rintro e W9 ⟨rfl, hb⟩
          replace HT := Lib.hid (HT.out.grow hb)
          clear hb HSa
          go_wp2_with fail
          go_roundw
          case rel => exact ⟨k + 1, g2, m3, o2, by omega, by omega, by go_num, rfl, HT.out, HQ.out, HG3h.out.1, HG4h.out.1, HG3h.out.2, HG4h.out.2⟩
          case measure => simp [intOf]; omega
        · obtain ⟨q1, q2⟩ := HSh.out.1 hE0
          have d1 : (E == 0) = false := by simp [hE0]
          have HX : Hid (Ln = Ls) := by show _ = _; rw [← HEh.out.2.2.2.2.1, ← HEh.out.2.2.2.2.2.1]; exact q1
          have HQ := Lib.hid q2
          have hmo2 : o.many ≤ 5 * ((k + 1 : Nat) : Int) := by omega
          clear q1 q2 HSh
          have HSa := Lib.hid (same_c A1 A2 Ls Ln ns nn c1 c2 HEh.out.2.2.2.2.2.2.1 HEh.out.2.2.2.2.2.2.2 hl1 W6 HK.out.1.rcs HK2.out.1.rcs)
          rw [decide_eq_true HX.out.symm] at HSa
          go_wp2_with fail
          refine HSa.out.mono ?_
          rintro e W9 ⟨rfl, hb⟩
          replace HT := Lib.hid (HT.out.grow hb)
          clear hb HSa
          go_wp2_with fail
          go_roundw
          case rel => exact ⟨k + 1, g2, m3, o, by omega, by omega, by go_num, rfl, HT.out, HQ.out, HG3h.out.1, HGo.out, HG3h.out.2, hmo2⟩
          case measure => simp [intOf]; omega
      · clear HA HB HV
        obtain ⟨m1, hm1⟩ : ∃ m1, arm m ((9 : Nat) : Int) = m1 := ⟨_, rfl⟩
        obtain ⟨E, hE⟩ : ∃ E, (put m1 r).1 = E := ⟨_, rfl⟩
        obtain ⟨m2, hm2⟩ : ∃ m2, (put m1 r).2 = m2 := ⟨_, rfl⟩
        obtain ⟨m3, hm3⟩ : ∃ m3, up m2 = m3 := ⟨_, rfl⟩
        obtain ⟨Ls, hLs⟩ : ∃ Ls, told m = Ls := ⟨_, rfl⟩
        obtain ⟨Ln, hLn⟩ : ∃ Ln, told m3 = Ln := ⟨_, rfl⟩
        obtain ⟨ns, hns⟩ : ∃ ns, Ls.length = ns := ⟨_, rfl⟩
        obtain ⟨nn, hnn⟩ : ∃ nn, Ln.length = nn := ⟨_, rfl⟩
        have HS := CI.step hn3 (by omega) (by omega) HC.out 9 r
        have HG3 := good_step HGm.out hmm (by omega) 9 (by omega) r
        rw [hm1, hE, hm2, hm3] at HS
        rw [hm1, hm2, hm3] at HG3
        have hl1 : ns ≤ 1000 := by rw [← hns, ← hLs]; exact told_short HGm.out.most
        have hl2 : nn ≤ 1000 := by rw [← hnn, ← hLn]; exact told_short HG3.1.most
        have HGa : Hid (Good m1) := by rw [← hm1]; exact HGm.out.arm (by omega)
        have HG3h := Lib.hid HG3
        have HSh := Lib.hid HS
        have HEh := Lib.hid (And.intro hE (And.intro hm2 (And.intro hm3 (And.intro (show arm m 9 = m1 from hm1) (And.intro hLs (And.intro hLn (And.intro hns hnn)))))))
        have hgo : Hid (m3.gone = false ∧ m3.ws.length = n) := by
          rw [← hm3, ← hm2, ← hm1]
          refine ⟨rfl, ?_⟩
          show (Sp.put (arm m ((9 : Nat) : Int)) r).2.ws.length = n
          rw [put_len, arm_len, HC.out.lm]
        clear hE hm1 hm2 hm3 hLs hLn hns hnn HS HG3
        go_wp2_with (first | (go_at_call 26; (with_reducible refine (told_m HT.out.a HGm.out HEh.out.2.2.2.2.1 HEh.out.2.2.2.2.2.2.1).mono ?_); rintro e W1 ⟨A1, c1, rfl, hc1, hN1, h, ht⟩; have HK := Lib.hid (And.intro hN1 (And.intro HT.out.a.mm.mem.lt (And.intro HT.out.a.mm.mem.lt' (And.intro HT.out.c.mm.mem.lt HT.out.c.mm.mem.lt')))); replace HT := Lib.hid (HT.out.tA h ht); clear hN1 h ht) | fail)
        refine (arm_m HT.out.a HEh.out.2.2.2.1).mono ?_
        rintro e W2 ⟨rfl, h, ht⟩
        replace HT := Lib.hid (HT.out.tA h ht)
        replace HK := Lib.hid (And.intro (HK.out.1.turn ht HK.out.2.1 HK.out.2.2.1) HK.out.2)
        have hR := HRc.out _ HT.out.a.mm.old
        clear h ht
        go_wp2_with (first | (refine ldrm rfl _ rfl _ _ _ rfl hR ?_) | fail)
        refine (put_m HT.out.a HGa.out r HEh.out.1 HEh.out.2.1).mono ?_
        rintro e W3 ⟨rfl, h, ht⟩
        replace HT := Lib.hid (HT.out.tA h ht)
        replace HK := Lib.hid (And.intro (HK.out.1.turn ht HK.out.2.1 HK.out.2.2.1) HK.out.2)
        clear h ht hR
        go_wp2_with fail
        refine (up_m HT.out.a HEh.out.2.2.1).mono ?_
        rintro e W4 ⟨rfl, h, ht⟩
        replace HT := Lib.hid (HT.out.tA h ht)
        replace HK := Lib.hid (And.intro (HK.out.1.turn ht HK.out.2.1 HK.out.2.2.1) HK.out.2)
        clear h ht
        go_wp2_with fail
        refine (open_m HT.out.a.mm hgo.out.1 (by rw [hgo.out.2]; omega) (by rw [hgo.out.2]; omega)).mono ?_
        rintro e W5 ⟨g2, rfl, h, h1, hb⟩
        replace HT := Lib.hid (HT.out.other hb h h1)
        replace HK := Lib.hid (And.intro (HK.out.1.turn (Turn.grow (b := b) (d := d) hb) HK.out.2.1 HK.out.2.2.1) HK.out.2)
        clear h h1 hb
        go_wp2_with fail
        refine (told_m HT.out.a HG3h.out.1 HEh.out.2.2.2.2.2.1 HEh.out.2.2.2.2.2.2.2).mono ?_
        rintro e W6 ⟨A2, c2, rfl, hc2, hN2, h, ht⟩
        have HK2 := Lib.hid (And.intro hN2 (And.intro HT.out.a.mm.mem.lt (And.intro HT.out.a.mm.mem.lt' (And.intro HT.out.c.mm.mem.lt HT.out.c.mm.mem.lt'))))
        replace HT := Lib.hid (HT.out.tA h ht)
        replace HK := Lib.hid (And.intro (HK.out.1.turn ht HK.out.2.1 HK.out.2.2.1) HK.out.2)
        clear hN2 h ht
        by_cases hE0 : E = 0
        · subst hE0
          obtain ⟨q1, q2⟩ := HSh.out.2 rfl
          obtain ⟨o2, ho2⟩ : ∃ o2, (put o r).2 = o2 := ⟨_, rfl⟩
          have HG4 := good_step2 HGo.out hmo (by omega) r
          rw [ho2] at q2 HG4
          have HQ := Lib.hid q2
          have HP := Lib.hid (And.intro q1 ho2)
          have HG4h := Lib.hid HG4
          have HX : Hid (told o2 = Ln) := by show _ = _; rw [← q2.same]; exact HEh.out.2.2.2.2.2.1
          clear q1 q2 ho2 HG4 HSh
          have hR := HRc.out _ HT.out.a.mm.old
          go_wp2_with (first | (refine ldrm rfl _ rfl _ _ _ rfl hR ?_) | fail)
          refine (put_m HT.out.c HGo.out r HP.out.1 HP.out.2).mono ?_
          rintro e W7 ⟨rfl, h, ht⟩
          replace HT := Lib.hid (HT.out.tC h ht)
          replace HK2 := Lib.hid (And.intro (HK2.out.1.turn ht HK2.out.2.2.2.1 HK2.out.2.2.2.2) HK2.out.2)
          clear h ht hR HK
          go_wp2_with fail
          refine (told_m HT.out.c HG4h.out.1 HX.out HEh.out.2.2.2.2.2.2.2).mono ?_
          rintro e W8 ⟨A3, c3, rfl, hc3, hN3, h, ht⟩
          have HK3 := Lib.hid hN3
          replace HT := Lib.hid (HT.out.tC h ht)
          replace HK2 := Lib.hid (And.intro (HK2.out.1.turn ht HK2.out.2.2.2.1 HK2.out.2.2.2.2) HK2.out.2)
          clear hN3 h ht
          have HSa := Lib.hid (same_c A2 A3 Ln Ln nn nn c2 c3 HEh.out.2.2.2.2.2.2.2 HEh.out.2.2.2.2.2.2.2 hl2 W8 HK2.out.1.rcs HK3.out.rcs)
          rw [decide_eq_true (rfl : Ln = Ln)] at HSa
          go_wp2_with fail
          refine HSa.out.mono ?_
          rintro e W9 ⟨rfl, hb⟩
          replace HT := Lib.hid (HT.out.grow hb)
          clear hb HSa
          go_wp2_with fail
          go_roundw
          case rel => exact ⟨k + 1, g2, m3, o2, by omega, by omega, by go_num, rfl, HT.out, HQ.out, HG3h.out.1, HG4h.out.1, HG3h.out.2, HG4h.out.2⟩
          case measure => simp [intOf]; omega
        · obtain ⟨q1, q2⟩ := HSh.out.1 hE0
          have d1 : (E == 0) = false := by simp [hE0]
          have HX : Hid (Ln = Ls) := by show _ = _; rw [← HEh.out.2.2.2.2.1, ← HEh.out.2.2.2.2.2.1]; exact q1
          have HQ := Lib.hid q2
          have hmo2 : o.many ≤ 5 * ((k + 1 : Nat) : Int) := by omega
          clear q1 q2 HSh
          have HSa := Lib.hid (same_c A1 A2 Ls Ln ns nn c1 c2 HEh.out.2.2.2.2.2.2.1 HEh.out.2.2.2.2.2.2.2 hl1 W6 HK.out.1.rcs HK2.out.1.rcs)
          rw [decide_eq_true HX.out.symm] at HSa
          go_wp2_with fail
          refine HSa.out.mono ?_
          rintro e W9 ⟨rfl, hb⟩
          replace HT := Lib.hid (HT.out.grow hb)
          clear hb HSa
          go_wp2_with fail
          go_roundw
          case rel => exact ⟨k + 1, g2, m3, o, by omega, by omega, by go_num, rfl, HT.out, HQ.out, HG3h.out.1, HGo.out, HG3h.out.2, hmo2⟩
          case measure => simp [intOf]; omega
    · by_cases hend : k < L.length
      · have h40 : 40 ≤ k := by omega
        clear hlt
        go_wp2_with fail
        go_ret
        exact ⟨rfl, HT.out.a.mm.old⟩
      · clear hlt
        go_wp2_with fail
        go_ret
        exact ⟨rfl, HT.out.a.mm.old⟩
end Sq
end Go.Proofs.Ytlhapipgmadbeaa
