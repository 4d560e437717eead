/- The walk of StoreKeeps. -/
import Derived.Test.YtlhapipgmadbeaaStoreLaw5b
import Derived.Test.YtlhapipgmadbeaaStoreLaw5c
import Derived.Deep.DeepCutAuto
import Derived.Deep.CutRange
namespace Go.Proofs.Ytlhapipgmadbeaa
namespace Sq
open Go.RowKit Nv Nw Sp Lk

set_option maxRecDepth 100000 in
set_option maxHeartbeats 4000000 in
theorem StoreKeeps_walk (u : Nat) (hu : u < 256) (A : Option Addr) (L : List R) (cp : Nat) (w : World) (hA : Rcs w A L) :
    Calls Try.prog 6 #[.int .u8 u, .slice A L.length cp] w fun e w' => e = .returned (.bool true) ∧ Below w.heap.size w w' := by
  have HA := Lib.hid hA
  clear hA
  obtain ⟨n, hn⟩ : ∃ n : Nat, 8 + u % 53 = n := ⟨_, rfl⟩
  have hu1 : 8 + (u : Int).tmod 53 = n := by rw [Int.tmod_eq_emod_of_nonneg (by omega)]; omega
  have hu2 : 8 + (u : Int) % 53 = n := by omega
  have hn60 : n ≤ 60 := by omega
  have hn8 : 8 ≤ n := by omega
  have hln : (Nv.new n).ws.length = n := by simp [Nv.new, zeros]
  clear hn
  go_enter Try.func6, Try.ntmps6
  go_wp2_with fail
  refine (awake_c w).mono ?_
  rintro e w1 ⟨rfl, h⟩
  have HW := Lib.hid h
  clear h
  go_wp2_with fail
  refine (new_m n (by omega) (by omega) HW.out).mono ?_
  rintro e w2 ⟨b, d, rfl, h, _, _, _⟩
  have HM : Hid (Mm w w2 b d (Nv.new n)) := h
  clear h HW
  go_wp2_with fail
  refine (open_m HM.out rfl (by omega) (by omega)).mono ?_
  rintro e w3 ⟨g, rfl, h, _, _⟩
  have HO : Hid (One w w3 g b d (Nv.new n)) := h
  clear h HM
  go_wp2_with fail
  go_loopw [10] (fun i wr => ∃ (k : Nat) (m : M), k ≤ 60 ∧ k ≤ L.length ∧ i = .int .i64 k ∧ One w wr g b d m ∧ KI n (k : Int) m ∧ Good m ∧ m.many ≤ 200 * (k : Int)) (fun i _ => 60 - (intOf i).toNat)
  case atStart => exact ⟨0, _, by omega, Nat.zero_le _, rfl, HO.out, KI.start n, good_new hn8 (by omega), by simp [Nv.new]⟩
  case round =>
    clear HO hln
    obtain ⟨k, m, hk, hkl, rfl, hO, hK, hG, hmm⟩ := hrel
    have HO := Lib.hid hO
    have HK := Lib.hid hK
    have HG := Lib.hid hG
    clear hO hK hG
    by_cases hlt : k < L.length ∧ k < 60
    · obtain ⟨hlt, h60⟩ := hlt
      obtain ⟨ab, ao, r, rfl, _, HRc⟩ := rec_get HA.out hlt
      obtain ⟨T, hT⟩ : ∃ T, told m = T := ⟨_, rfl⟩
      obtain ⟨nT, hnT⟩ : ∃ nT, T.length = nT := ⟨_, rfl⟩
      have hl1 : nT ≤ 1000 := by rw [← hnT, ← hT]; exact told_short HG.out.most
      clear HA
      go_wp2_with fail
      refine (told_m HO.out HG.out hT hnT).mono ?_
      rintro e W1 ⟨A1, c1, rfl, hc1, hN1, h, ht⟩
      have HN1 := Lib.hid (And.intro hN1 (And.intro HO.out.mm.mem.lt HO.out.mm.mem.lt'))
      replace HO := Lib.hid h
      clear hN1 h ht
      go_upto_region 12 with fail
      obtain ⟨okq, hokq⟩ : ∃ q, okR r = q := ⟨_, rfl⟩
      have HQ0 : Hid (okR r = okq) := hokq
      clear hokq
      go_cut [12] from 39 to 240 (fun y wx => y = .bool okq ∧ wx = W1)
      case first =>
        obtain ⟨y0, y1, y2⟩ := rc_cells (HRc.out _ HO.out.mm.old)
        have hcase : r.code < 1 ∨ (1 ≤ r.code ∧ 255 < r.code) ∨ (1 ≤ r.code ∧ r.code ≤ 255 ∧ r.cnt < 1) ∨ (1 ≤ r.code ∧ r.code ≤ 255 ∧ 1 ≤ r.cnt ∧ 65535 < r.cnt) ∨ (1 ≤ r.code ∧ r.code ≤ 255 ∧ 1 ≤ r.cnt ∧ r.cnt ≤ 65535) := by omega
        have HQ : Hid (decide (1 ≤ r.code ∧ r.code ≤ 255 ∧ 1 ≤ r.cnt ∧ r.cnt ≤ 65535) = okq) := HQ0.out
        clear HQ0
        rcases hcase with h1 | ⟨h1, h2⟩ | ⟨h1, h2, h3⟩ | ⟨h1, h2, h3, h4⟩ | ⟨h1, h2, h3, h4⟩
        · obtain rfl : okq = false := by rw [← HQ.out]; exact decide_eq_false (by omega)
          clear HQ
          go_wp2_with fail
          go_meet
          case rel => exact ⟨rfl, rfl⟩
        · obtain rfl : okq = false := by rw [← HQ.out]; exact decide_eq_false (by omega)
          clear HQ
          go_wp2_with fail
          go_meet
          case rel => exact ⟨rfl, rfl⟩
        · obtain rfl : okq = false := by rw [← HQ.out]; exact decide_eq_false (by omega)
          clear HQ
          go_wp2_with fail
          go_meet
          case rel => exact ⟨rfl, rfl⟩
        · obtain rfl : okq = false := by rw [← HQ.out]; exact decide_eq_false (by omega)
          clear HQ
          have h5 : decide (r.cnt ≤ 65535) = false := decide_eq_false (by omega)
          go_wp2_with fail
          go_meet
          case rel => exact ⟨rfl, rfl⟩
        · obtain rfl : okq = true := by rw [← HQ.out]; exact decide_eq_true ⟨h1, h2, h3, h4⟩
          clear HQ
          go_wp2_with fail
          go_meet
          case rel => exact ⟨rfl, rfl⟩
      case rest =>
        obtain ⟨rfl, rfl⟩ := hcut
        cases okq with
        | true =>
          have hok : okR r = true := HQ0.out
          clear HQ0
          obtain ⟨o1, o2, o3, o4⟩ := of_decide_eq_true hok
          obtain ⟨p1, p2, _⟩ := HK.out.put hn8 (by omega) (by omega) hok
          obtain ⟨q1, q2, q3⟩ := HK.out.keeps hn8 (by omega) (by omega) hok
          have q4 := p2.told_len hn8
          have q5 := put_many m r
          have q6 := HG.out.put r (by omega)
          have q7 := told_rise (put m r).2
          have q8 := rooms_eq p2.len
          obtain ⟨M, hM⟩ : ∃ M, (put m r).2 = M := ⟨_, rfl⟩
          rw [hM] at p2 q1 q2 q3 q4 q5 q6 q7 q8
          obtain ⟨T2, hT2⟩ : ∃ T2, told M = T2 := ⟨_, rfl⟩
          rw [hT2] at q1 q2 q3 q4 q7
          rw [hT] at q1 q2 q3
          obtain ⟨nT2, hnT2⟩ : ∃ x, T2.length = x := ⟨_, rfl⟩
          rw [hnT2] at q1 q4
          rw [hnT] at q1
          obtain ⟨rm, hrm⟩ : ∃ rm : Int, (rooms M : Int) - 1 = rm := ⟨_, rfl⟩
          have q9 : (nT2 : Int) ≤ rm := by omega
          have q10 : rm = ((n / 4 - 1 : Nat) : Int) := by omega
          have hl2 : nT2 ≤ 1000 := by omega
          have HF : Hid ((r.lat = true ∨ ((T.countP fun x => x.lat : Nat) : Int) < rm) → r ∈ T2) := fun h => q2 (h.imp id (fun h => by omega))
          have HL := Lib.hid q3
          have e22 : ((k : Int) + 1) = ((k + 1 : Nat) : Int) := by omega
          rw [e22] at p2
          have HKn : Hid (KI n ((k + 1 : Nat) : Int) M ∧ M.many ≤ 200 * ((k + 1 : Nat) : Int)) := ⟨p2, by omega⟩
          have HGn := Lib.hid q6
          have HRs := Lib.hid q7
          have HP := Lib.hid (And.intro p1 hM)
          have HTl := Lib.hid (And.intro hT (And.intro hnT (And.intro hT2 hnT2)))
          have HRm := Lib.hid hrm
          clear e22 hrm hM hT hnT hT2 hnT2 p1 p2 q2 q3 q4 q5 q6 q7 q8 q10 HK hok
          obtain ⟨y0, y1, y2⟩ := rc_cells (HRc.out _ HO.out.mm.old)
          go_wp2_with fail
          refine (put_m HO.out HG.out r HP.out.1 HP.out.2).mono ?_
          rintro e W2 ⟨rfl, h, ht⟩
          replace HN1 := Lib.hid (And.intro (HN1.out.1.turn ht HN1.out.2.1 HN1.out.2.2) HN1.out.2)
          replace HO := Lib.hid h
          clear h ht y0 y1 y2
          go_wp2_with fail
          refine (told_m HO.out HGn.out HTl.out.2.2.1 HTl.out.2.2.2).mono ?_
          rintro e W3 ⟨A2, c2, rfl, hc2, hN2, h, ht⟩
          have HS := Lib.hid (Kp.mk h (HN1.out.1.turn ht HN1.out.2.1 HN1.out.2.2).rcs hN2.rcs)
          clear h ht hN2 HN1 HO HP
          go_wp2_with fail
          (with_reducible refine (room_m HS.out.one HGn.out HRm.out).mono ?_)
          rintro e W4 ⟨rfl, rfl⟩
          go_wp2_with fail
          refine loop2 (t0 := false) _ _ _ _ _ _ _ _ _ _ _ _ _ _ _ _ _ _ _ _ _ _ _ _ _ _ _ _ _ _ _ _ _ _ _ _ _ _ _ _ _ _ _ _ _ _ _ _ _ _ _ _ _ _ _ _ _ _ _ _ _ _ _ _ _ _ _ _ _ _ _ _ _ _ _ _ _ _ _ _ _ _ _ _ _ _ _ _ _ _ _ _ _ _ _ _ _ _ _ _ _ _ _ _ _ _ _ _ _ _ _ _ _ _ _ _ _ _ _ _ _ _ _ _ _ _ _ _ _ _ _ _ _ _ _ _ _ _ _ _ _ _ _ _ _ _ _ _ _ _ _ _ _ _ _ _ _ _ _ _ _ _ _ _ _ _ _ _ _ _ _ _ _ _ _ _ _ _ _ _ _ _ _ _ _ _ _ _ _ _ _ _ _ _ _ _ _ _ _ _ _ _ _ _ _ _ _ _ _ _ _ _ _ _ _ _ _ _ _ _ _ _ _ _ _ _ _ _ _ _ _ _ _ _ _ HRc.out hlt h60 HTl.out.2.1 HTl.out.2.2.2 hl1 hl2 hc1 hc2 HS.out HRs.out ?_
          intro va4 va109 va110 va111 va112 va113 va114 va115 va116 va117 va118 va119 va120 va121 va122 va123 va124 va125 va126 va127 va128 va129 va130 va131 va132 va133 va134 va135 va136 va137 va138 va139 va140 va141 va142 va143 va144 va145 va146 va147 va148 va149 va150 x y wr1 hx hy hS
          have HX := Lib.hid (And.intro hx hy)
          replace HS := Lib.hid hS
          clear hx hy hS
          go_wp2_with fail
          refine loop3 (may := true) _ _ _ _ _ _ _ _ _ _ _ _ _ _ _ _ _ _ _ _ _ _ _ _ _ _ _ _ _ _ _ _ _ _ _ _ _ _ _ _ _ _ _ _ _ _ _ _ _ _ _ _ _ _ _ _ _ _ _ _ _ _ _ _ _ _ _ _ _ _ _ _ _ _ _ _ _ _ _ _ _ _ _ _ _ _ _ _ _ _ _ _ _ _ _ _ _ _ _ _ _ _ _ _ _ _ _ _ _ _ _ _ _ _ _ _ _ _ _ _ _ _ _ _ _ _ _ _ _ _ _ _ _ _ _ _ _ _ _ _ _ _ _ _ _ _ _ _ _ _ _ _ _ _ _ _ _ _ _ _ _ _ _ _ _ _ _ _ _ _ _ _ _ _ _ _ _ _ _ _ _ _ _ _ _ _ _ _ _ _ _ _ _ _ _ _ _ _ _ _ _ _ _ _ _ _ _ _ _ _ _ _ _ _ _ _ _ _ _ _ _ _ _ _ _ _ _ _ _ _ _ _ _ _ HRc.out hlt h60 HTl.out.2.1 HTl.out.2.2.2 hl1 hl2 hc1 hc2 HS.out HX.out.2 (fun _ => HL.out) ?_
          intro vb4 vb19 vb20 vb151 vb152 vb153 vb154 vb155 vb156 vb157 vb158 vb159 vb160 vb161 vb162 vb163 vb164 vb165 vb166 vb167 vb168 vb169 vb170 vb171 vb172 vb173 vb174 vb175 vb176 vb177 vb178 vb179 vb180 vb181 vb182 vb183 vb184 vb185 vb186 vb187 vb188 vb189 vb190 vb191 vb192 vb193 vb194 vb195 vb196 vb197 vb198 vb199 vb200 vb201 vb202 vb203 vb204 vb205 vb206 vb207 vb208 vb209 vb210 vb211 vb212 vb213 vb214 vb215 vb216 vb217 vb218 vb219 vb220 vb221 wr2 hS
          replace HS := Lib.hid hS
          clear hS
          cases x with
          | true =>
            go_wp2_with fail
            go_roundw
            case rel => exact ⟨k + 1, _, by omega, by omega, by go_num, HS.out.one, HKn.out.1, HGn.out, HKn.out.2⟩
            case measure => simp [intOf]; omega
          | false =>
            have hnr : r ∉ T2 := by
              have := HX.out.1
              intro h
              rw [decide_eq_true h] at this
              cases this
            have hrl : r.lat = false := by
              cases e : r.lat with
              | false => rfl
              | true => exact absurd (HF.out (.inl e)) hnr
            have hcn : ¬ ((T.countP fun x => x.lat : Nat) : Int) < rm := fun h => hnr (HF.out (.inr h))
            have y2 : wr2.cell? ⟨ab, ao + k * 3 + 2, none⟩ = some (.bool false) := by
              have := (rc_cells (HRc.out _ HS.out.one.mm.old)).2.2
              rwa [hrl] at this
            have HCo := Lib.hid (latched_c A1 T nT c1 HTl.out.2.1 hl1 wr2 HS.out.was)
            have HRo := Lib.hid (room_m HS.out.one HGn.out HRm.out)
            generalize ((T.countP fun x => x.lat : Nat) : Int) = cn at *
            go_wp2_with (first
              | (go_at_call 13; (with_reducible refine HRo.out.mono ?_); rintro e W ⟨rfl, rfl⟩)
              | (go_at_call 30; (with_reducible refine HCo.out.mono ?_); rintro e W ⟨rfl, rfl⟩)
              | fail)
            go_roundw
            case rel => exact ⟨k + 1, _, by omega, by omega, by go_num, HS.out.one, HKn.out.1, HGn.out, HKn.out.2⟩
            case measure => simp [intOf]; omega
        | false =>
          have hok : okR r = false := HQ0.out
          clear HQ0
          have hp := put_no (m := m) hok
          have q4 := HK.out.told_len hn8
          have q7 := told_rise m
          have q8 := rooms_eq HK.out.len
          have p2 : KI n ((k + 1 : Nat) : Int) m := ⟨HK.out.len, HK.out.gone, HK.out.left, fun i hi hg => by have := HK.out.low i hi hg; omega⟩
          have HP : Hid ((put m r).1 = 1 ∧ (put m r).2 = m) := by rw [hp]; exact ⟨rfl, rfl⟩
          obtain ⟨M, hM⟩ : ∃ M, m = M := ⟨_, rfl⟩
          obtain ⟨T2, hT2⟩ : ∃ T2, T = T2 := ⟨_, rfl⟩
          rw [hT, hT2, ← hT2, hnT] at q4
          rw [hT] at q7
          obtain ⟨rm, hrm⟩ : ∃ rm : Int, (rooms m : Int) - 1 = rm := ⟨_, rfl⟩
          have q9 : (nT : Int) ≤ rm := by omega
          have q1 : nT ≤ nT := Nat.le_refl _
          have HKn : Hid (KI n ((k + 1 : Nat) : Int) m ∧ m.many ≤ 200 * ((k + 1 : Nat) : Int)) := ⟨p2, by omega⟩
          have HGn := HG
          have HRs := Lib.hid q7
          have HTl := Lib.hid (And.intro hT (And.intro hnT (And.intro hT hnT)))
          have HRm := Lib.hid hrm
          clear hrm hM hT2 hT hnT p2 q4 q7 q8 HK hok hp T2 M
          obtain ⟨y0, y1, y2⟩ := rc_cells (HRc.out _ HO.out.mm.old)
          go_wp2_with fail
          refine (put_m HO.out HG.out r HP.out.1 HP.out.2).mono ?_
          rintro e W2 ⟨rfl, h, ht⟩
          replace HN1 := Lib.hid (And.intro (HN1.out.1.turn ht HN1.out.2.1 HN1.out.2.2) HN1.out.2)
          replace HO := Lib.hid h
          clear h ht y0 y1 y2
          go_wp2_with fail
          refine (told_m HO.out HGn.out HTl.out.2.2.1 HTl.out.2.2.2).mono ?_
          rintro e W3 ⟨A2, c2, rfl, hc2, hN2, h, ht⟩
          have HS := Lib.hid (Kp.mk h (HN1.out.1.turn ht HN1.out.2.1 HN1.out.2.2).rcs hN2.rcs)
          clear h ht hN2 HN1 HO HP
          go_wp2_with fail
          (with_reducible refine (room_m HS.out.one HGn.out HRm.out).mono ?_)
          rintro e W4 ⟨rfl, rfl⟩
          go_wp2_with fail
          refine loop2 (t0 := true) _ _ _ _ _ _ _ _ _ _ _ _ _ _ _ _ _ _ _ _ _ _ _ _ _ _ _ _ _ _ _ _ _ _ _ _ _ _ _ _ _ _ _ _ _ _ _ _ _ _ _ _ _ _ _ _ _ _ _ _ _ _ _ _ _ _ _ _ _ _ _ _ _ _ _ _ _ _ _ _ _ _ _ _ _ _ _ _ _ _ _ _ _ _ _ _ _ _ _ _ _ _ _ _ _ _ _ _ _ _ _ _ _ _ _ _ _ _ _ _ _ _ _ _ _ _ _ _ _ _ _ _ _ _ _ _ _ _ _ _ _ _ _ _ _ _ _ _ _ _ _ _ _ _ _ _ _ _ _ _ _ _ _ _ _ _ _ _ _ _ _ _ _ _ _ _ _ _ _ _ _ _ _ _ _ _ _ _ _ _ _ _ _ _ _ _ _ _ _ _ _ _ _ _ _ _ _ _ _ _ _ _ _ _ _ _ _ _ _ _ _ _ _ _ _ _ _ _ _ _ _ _ _ _ _ HRc.out hlt h60 HTl.out.2.1 HTl.out.2.2.2 hl1 hl1 hc1 hc2 HS.out HRs.out ?_
          intro va4 va109 va110 va111 va112 va113 va114 va115 va116 va117 va118 va119 va120 va121 va122 va123 va124 va125 va126 va127 va128 va129 va130 va131 va132 va133 va134 va135 va136 va137 va138 va139 va140 va141 va142 va143 va144 va145 va146 va147 va148 va149 va150 x y wr1 hx hy hS
          have HX := Lib.hid (And.intro hx hy)
          replace HS := Lib.hid hS
          clear hx hy hS
          go_wp2_with fail
          refine loop3 (may := false) _ _ _ _ _ _ _ _ _ _ _ _ _ _ _ _ _ _ _ _ _ _ _ _ _ _ _ _ _ _ _ _ _ _ _ _ _ _ _ _ _ _ _ _ _ _ _ _ _ _ _ _ _ _ _ _ _ _ _ _ _ _ _ _ _ _ _ _ _ _ _ _ _ _ _ _ _ _ _ _ _ _ _ _ _ _ _ _ _ _ _ _ _ _ _ _ _ _ _ _ _ _ _ _ _ _ _ _ _ _ _ _ _ _ _ _ _ _ _ _ _ _ _ _ _ _ _ _ _ _ _ _ _ _ _ _ _ _ _ _ _ _ _ _ _ _ _ _ _ _ _ _ _ _ _ _ _ _ _ _ _ _ _ _ _ _ _ _ _ _ _ _ _ _ _ _ _ _ _ _ _ _ _ _ _ _ _ _ _ _ _ _ _ _ _ _ _ _ _ _ _ _ _ _ _ _ _ _ _ _ _ _ _ _ _ _ _ _ _ _ _ _ _ _ _ _ _ _ _ _ _ _ _ _ HRc.out hlt h60 HTl.out.2.1 HTl.out.2.2.2 hl1 hl1 hc1 hc2 HS.out HX.out.2 (fun h => by cases h) ?_
          intro vb4 vb19 vb20 vb151 vb152 vb153 vb154 vb155 vb156 vb157 vb158 vb159 vb160 vb161 vb162 vb163 vb164 vb165 vb166 vb167 vb168 vb169 vb170 vb171 vb172 vb173 vb174 vb175 vb176 vb177 vb178 vb179 vb180 vb181 vb182 vb183 vb184 vb185 vb186 vb187 vb188 vb189 vb190 vb191 vb192 vb193 vb194 vb195 vb196 vb197 vb198 vb199 vb200 vb201 vb202 vb203 vb204 vb205 vb206 vb207 vb208 vb209 vb210 vb211 vb212 vb213 vb214 vb215 vb216 vb217 vb218 vb219 vb220 vb221 wr2 hS
          replace HS := Lib.hid hS
          clear hS
          have hxt : x = true := by have := HX.out.1; simpa using this
          subst hxt
          go_wp2_with fail
          go_roundw
          case rel => exact ⟨k + 1, _, by omega, by omega, by go_num, HS.out.one, HKn.out.1, HGn.out, HKn.out.2⟩
          case measure => simp [intOf]; omega
    · by_cases h1 : k < L.length
      · have h60 : 60 ≤ k := by omega
        clear hlt
        go_wp2_with fail
        go_ret
        exact ⟨rfl, HO.out.mm.old⟩
      · clear hlt
        go_wp2_with fail
        go_ret
        exact ⟨rfl, HO.out.mm.old⟩
end Sq
end Go.Proofs.Ytlhapipgmadbeaa
