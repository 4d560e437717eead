/- The walk of StoreTwice. -/
import Derived.Test.YtlhapipgmadbeaaStoreLaw2
namespace Go.Proofs.Ytlhapipgmadbeaa
namespace Sq
open Go.RowKit Nv Nw Sp Lk

theorem New_.below {W W' : World} {base : Nat} {A : Option Addr} {L : List R} (h : New_ W base A L) (hb : Below W.heap.size W W') : New_ W' base A L := fun i r hi => by
  obtain ⟨g, o, e, h1, hg, hr⟩ := h i r hi
  exact ⟨g, o, e, h1, Nat.lt_of_lt_of_le hg hb.size, fun j v hv => (hb.cell (p := ⟨g, o + i * 3 + j, none⟩) hg).trans (hr j v hv)⟩
/-- A store, and a record in a block of its own. -/
structure Tr (w W : World) (g b d : Nat) (m : M) (q : Nat) (r : R) : Prop where
  one : One w W g b d m
  at_ : W.heap[q]? = some (.cells (rcs r) 37 (0, 0))
  n1 : q ≠ b
  n2 : q ≠ d
  n3 : q ≠ g
  l : w.heap.size ≤ q
namespace Tr
variable {w W W' : World} {g b d : Nat} {m m' : M} {q : Nat} {r : R}
theorem lt (h : Tr w W g b d m q r) : q < W.heap.size := (Array.getElem?_eq_some_iff.1 h.at_).1
theorem turn (h : Tr w W g b d m q r) (ho : One w W' g b d m') (ht : Turn b d W W') : Tr w W' g b d m' q r := ⟨ho, (ht.block q h.lt h.n1 h.n2).trans h.at_, h.n1, h.n2, h.n3, h.l⟩
theorem grow (h : Tr w W g b d m q r) (hb : Below W.heap.size W W') : Tr w W' g b d m q r := ⟨h.one.grow hb, (hb.block q h.lt).trans h.at_, h.n1, h.n2, h.n3, h.l⟩
theorem new (h : One w W g b d m) (r : R) : Tr w (W.alloc (.cells (rcs r) 37)) g b d m W.heap.size r := by
  have h1 := h.mm.mem.lt
  have h2 := h.mm.mem.lt'
  have h3 := h.sto.lt
  exact ⟨h.grow ((Below.refl _ _).alloc (Nat.le_refl _) _), heap_alloc_last W _, by omega, by omega, by omega, h.mm.old.size⟩
theorem put (h : Tr w W g b d m q r) (c : Int) : Tr w (W.setCell ⟨q, 1, none⟩ (.int .i64 c)) g b d m q { r with cnt := c } := by
  have hm : Mem (W.setCell ⟨q, 1, none⟩ (.int .i64 c)) b d m := ⟨h.one.mm.mem.row.setOther (Ne.symm h.n1) _, h.one.mm.mem.ws.setOther (Ne.symm h.n2) _, h.one.mm.mem.ne⟩
  refine ⟨⟨h.one.sto.same hm (Below.heap_setCell _ _ _ _ (Ne.symm h.n3)), ⟨hm, h.one.mm.old.setCell h.l _, h.one.mm.l1, h.one.mm.l2⟩⟩, ?_, h.n1, h.n2, h.n3, h.l⟩
  exact Joins.block_setCell h.at_ _
end Tr

set_option maxRecDepth 100000 in
set_option maxHeartbeats 4000000 in
theorem StoreTwice_walk (A : Option Addr) (L : List R) (cp : Nat) (u : Nat) (hu : u < 65536) (w : World) (hA : Rcs w A L) :
    Calls Try.prog 8 #[.slice A L.length cp, .int .u16 u] w fun e w' => e = .returned (.bool true) ∧ Below w.heap.size w w' := by
  have HA := Lib.hid hA
  have hln : (Nv.new 128).ws.length = 128 := by simp [Nv.new, zeros]
  clear hA
  go_enter Try.func8, Try.ntmps8
  go_wp2_with fail
  refine (awake_c w).mono ?_
  rintro e w1 ⟨rfl, h⟩
  have HW := Lib.hid h
  clear h
  go_wp2_with fail
  refine (new_m 128 rfl (by omega) HW.out).mono ?_
  rintro e w2 ⟨b, d, rfl, h, _, _, _⟩
  have HM : Hid (Mm w w2 b d (Nv.new 128)) := h
  clear h HW
  go_wp2_with fail
  refine (open_m HM.out rfl (by omega) (by omega)).mono ?_
  rintro e w3 ⟨g, rfl, h, _, _⟩
  have HO : Hid (One w w3 g b d (Nv.new 128)) := h
  clear h HM
  go_wp2_with fail
  go_loopw [10] (fun i wr => ∃ (k : Nat) (m : M), k ≤ 15 ∧ k ≤ L.length ∧ i = .int .i64 k ∧ One w wr g b d m ∧ KI 128 (3 * (k : Int)) m ∧ Good m ∧ m.many ≤ 15 * (k : Int) ∧ (told m).length ≤ k) (fun i _ => 15 - (intOf i).toNat)
  case atStart => exact ⟨0, _, by omega, Nat.zero_le _, rfl, HO.out, KI.start 128, good_new (by decide) (by decide), by simp [Nv.new], by decide +kernel⟩
  case round =>
    clear HO hln
    obtain ⟨k, m, hk, hkl, rfl, hO, hK, hG, hmm, htl⟩ := hrel
    have HO := Lib.hid hO
    have HK := Lib.hid hK
    have HG := Lib.hid hG
    clear hO hK hG
    by_cases hlt : k < L.length ∧ k < 15
    · obtain ⟨hlt, h15⟩ := hlt
      obtain ⟨ab, ao, r, rfl, _, HRc⟩ := rec_get HA.out hlt
      have hR := HRc.out _ HO.out.mm.old
      have HT : Hid (Tr w (wr.alloc (.cells (rcs r) 37)) g b d m wr.heap.size r) := Tr.new HO.out r
      generalize hq : wr.heap.size = q at HT
      cases hr : okR r with
      | false =>
        have HP := Lib.hid (put_no (m := m) hr)
        have htl2 : (told m).length ≤ k + 1 := by omega
        have HK2 : Hid (KI 128 (3 * ((k + 1 : Nat) : Int)) m) := ⟨HK.out.len, HK.out.gone, HK.out.left, fun i hi hg => by have := HK.out.low i hi hg; omega⟩
        clear HRc HO hr htl HA
        go_wp2_with (first | (refine ldrm rfl _ rfl _ _ _ rfl hR ?_) | (refine ldr rfl _ rfl _ _ rfl HT.out.at_ ?_) | (go_at_call 15; (with_reducible refine (put_m HT.out.one HG.out r (E := 1) (m' := m) (by rw [HP.out]) (by rw [HP.out])).mono ?_); rintro e W ⟨rfl, h, ht⟩; replace HT := Lib.hid (HT.out.turn h ht); clear h ht) | fail)
        go_roundw
        case rel => exact ⟨k + 1, m, by omega, by omega, by go_num, HT.out.one, HK2.out, HG.out, by omega, htl2⟩
        case measure => simp [intOf]; omega
      | true =>
        obtain ⟨r', hr'⟩ : ∃ r' : R, ({ r with cnt := ((u % 65535 + 1 : Nat) : Int) } : R) = r' := ⟨_, rfl⟩
        have hu1 : (u : Int).tmod 65535 + 1 = ((u % 65535 + 1 : Nat) : Int) := by rw [Int.tmod_eq_emod_of_nonneg (by omega)]; omega
        have hu2 : (u : Int) % 65535 + 1 = ((u % 65535 + 1 : Nat) : Int) := by omega
        have hr2 := of_decide_eq_true hr
        have hok : okR r' = true := by
          rw [← hr']
          exact decide_eq_true ⟨hr2.1, hr2.2.1, by show (1 : Int) ≤ ((u % 65535 + 1 : Nat) : Int); omega, by show ((u % 65535 + 1 : Nat) : Int) ≤ 65535; omega⟩
        have hcode : r'.code = r.code := by rw [← hr']
        obtain ⟨p1, k1, _⟩ := HK.out.put (by decide) (by omega) (by omega) hr
        obtain ⟨p2, k2, _⟩ := k1.put (by decide) (by omega) (by omega) hr
        obtain ⟨p3, k3, _⟩ := k2.put (by decide) (by omega) (by omega) hok
        obtain ⟨t1, t2, t3, t4⟩ := HK.out.twice (by decide) (by omega) (by omega) hr hok hcode (by omega)
        have q1 := put_many m r
        have q2 := put_many (put m r).2 r
        have q3 := put_many (put (put m r).2 r).2 r'
        have g1 := HG.out.put r (by omega)
        have g2 := g1.put r (by omega)
        have g3 := g2.put r' (by omega)
        obtain ⟨m1, hm1⟩ : ∃ m1, (put m r).2 = m1 := ⟨_, rfl⟩
        rw [hm1] at t1 t2 t3 t4 q1 q2 q3 g1 g2 g3 p2 p3 k1 k2 k3
        obtain ⟨m2, hm2⟩ : ∃ m2, (put m1 r).2 = m2 := ⟨_, rfl⟩
        rw [hm2] at t1 t2 t3 q2 q3 g2 g3 p3 k2 k3
        obtain ⟨m3, hm3⟩ : ∃ m3, (put m2 r').2 = m3 := ⟨_, rfl⟩
        rw [hm3] at t2 t3 q3 g3 k3
        obtain ⟨T1, hT1⟩ : ∃ T1, told m1 = T1 := ⟨_, rfl⟩
        obtain ⟨T3, hT3⟩ : ∃ T3, told m3 = T3 := ⟨_, rfl⟩
        obtain ⟨n1, hn1⟩ : ∃ n1, T1.length = n1 := ⟨_, rfl⟩
        rw [hT1] at t1 t2 t4
        rw [hT3] at t2 t3
        rw [hn1] at t2 t4
        have hn1k : n1 ≤ 1000 := by omega
        have HP := Lib.hid (And.intro p1 (And.intro hm1 (And.intro p2 (And.intro hm2 (And.intro p3 hm3)))))
        have HTl := Lib.hid (And.intro hT1 (And.intro t1 (And.intro hT3 (And.intro hn1 t2))))
        have HIn := Lib.hid t3
        have HGg := Lib.hid (And.intro g1 (And.intro g2 g3))
        have e3 : 3 * (k : Int) + 1 + 1 + 1 = 3 * ((k + 1 : Nat) : Int) := by omega
        rw [e3] at k3
        have hlen3 : (told m3).length ≤ k + 1 := by rw [hT3, t2]; omega
        have HK3 : Hid (KI 128 (3 * ((k + 1 : Nat) : Int)) m3 ∧ m3.many ≤ 15 * ((k + 1 : Nat) : Int) ∧ (told m3).length ≤ k + 1) := ⟨k3, by omega, hlen3⟩
        clear e3 hlen3
        have HE' := Lib.hid hr'
        clear p1 p2 p3 hm1 hm2 hm3 hT1 hT3 hn1 t1 t2 t3 t4 q1 q2 q3 g1 g2 g3 k1 k2 k3 hr hr2 hok hcode hr' HK
        clear HRc HO htl HA
        go_wp2_with (first | (refine ldrm rfl _ rfl _ _ _ rfl hR ?_) | (refine ldr rfl _ rfl _ _ rfl HT.out.at_ ?_) | fail)
        refine (put_m HT.out.one HG.out r HP.out.1 HP.out.2.1).mono ?_
        rintro e W1 ⟨rfl, h, ht⟩
        replace HT := Lib.hid (HT.out.turn h ht)
        clear h ht hR
        go_wp2_with fail
        refine (told_m HT.out.one HGg.out.1 HTl.out.1 HTl.out.2.2.2.1).mono ?_
        rintro e W2 ⟨A1, c1, rfl, hc1, hN1, h, ht⟩
        have HK1 := Lib.hid (And.intro hN1 (And.intro HT.out.one.mm.mem.lt HT.out.one.mm.mem.lt'))
        replace HT := Lib.hid (HT.out.turn h ht)
        clear hN1 h ht
        go_wp2_with (first | (refine ldr rfl _ rfl _ _ rfl HT.out.at_ ?_) | fail)
        refine (put_m HT.out.one HGg.out.1 r HP.out.2.2.1 HP.out.2.2.2.1).mono ?_
        rintro e W3 ⟨rfl, h, ht⟩
        replace HT := Lib.hid (HT.out.turn h ht)
        replace HK1 := Lib.hid (And.intro (HK1.out.1.turn ht HK1.out.2.1 HK1.out.2.2) HK1.out.2)
        clear h ht
        go_wp2_with fail
        refine (told_m HT.out.one HGg.out.2.1 HTl.out.2.1 HTl.out.2.2.2.1).mono ?_
        rintro e W4 ⟨A2, c2, rfl, hc2, hN2, h, ht⟩
        have HK2 := Lib.hid hN2
        replace HT := Lib.hid (HT.out.turn h ht)
        replace HK1 := Lib.hid (And.intro (HK1.out.1.turn ht HK1.out.2.1 HK1.out.2.2) HK1.out.2)
        clear hN2 h ht
        have HSa := Lib.hid (same_c A2 A1 T1 T1 n1 n1 c2 c1 HTl.out.2.2.2.1 HTl.out.2.2.2.1 hn1k W4 HK2.out.rcs HK1.out.1.rcs)
        rw [decide_eq_true (rfl : T1 = T1)] at HSa
        go_wp2_with fail
        refine HSa.out.mono ?_
        rintro e W5 ⟨rfl, hb⟩
        replace HT := Lib.hid (HT.out.grow hb)
        have z0 := Joins.cell_of_block HT.out.at_ 1
        have z1 := Joins.unfrozen_of_block HT.out.at_ 1
        simp only [List.getElem?_toArray, List.getElem?_cons_zero, List.getElem?_cons_succ] at z0
        have HT2 : Hid (Tr w (W5.setCell ⟨q, 1, none⟩ (.int .i64 ((u % 65535 + 1 : Nat) : Int))) g b d m2 q r') := by
          have := HT.out.put ((u % 65535 + 1 : Nat) : Int)
          rw [HE'.out] at this
          exact this
        clear hb HSa HK1 HK2
        generalize ((u % 65535 + 1 : Nat) : Int) = U at *
        go_wp2_with (first | (refine ldr rfl _ rfl _ _ rfl HT2.out.at_ ?_) | fail)
        refine (put_m HT2.out.one HGg.out.2.1 r' HP.out.2.2.2.2.1 HP.out.2.2.2.2.2).mono ?_
        rintro e W6 ⟨rfl, h, ht⟩
        replace HT := Lib.hid (HT2.out.turn h ht)
        clear h ht HT2 z0 z1
        go_wp2_with fail
        refine (told_m HT.out.one HGg.out.2.2 HTl.out.2.2.1 HTl.out.2.2.2.2).mono ?_
        rintro e W7 ⟨A3, c3, rfl, hc3, hN3, h, ht⟩
        have HN := Lib.hid hN3
        replace HT := Lib.hid (HT.out.turn h ht)
        have HB7 : Hid (Below W7.heap.size W7 W7) := Below.refl _ _
        clear hN3 h ht
        go_wp2_with fail
        go_loopw [16, 17] (fun hs kk wy => ∃ p : Nat, p ≤ n1 ∧ kk = .int .i64 p ∧ hs = .bool ((T3.take p).any fun x => decide (x = r')) ∧ Tr w wy g b d m3 q r' ∧ Below W7.heap.size W7 wy) (fun _ kk _ => n1 - (intOf kk).toNat)
        case atStart => exact ⟨0, Nat.zero_le _, rfl, by simp, HT.out, HB7.out⟩
        case round =>
          clear HT HB7
          obtain ⟨p, hp, rfl, rfl, hT, hB⟩ := hrel
          have HT := Lib.hid hT
          have HB7 := Lib.hid hB
          clear hT hB
          by_cases hlp : p < n1
          · obtain ⟨x, hx⟩ : ∃ x, T3[p]? = some x := ⟨T3[p]'(by rw [HTl.out.2.2.2.2]; exact hlp), List.getElem?_eq_getElem _⟩
            obtain ⟨ga, oa, rfl, _, _, hra⟩ := (HN.out.below HB7.out) p x hx
            obtain ⟨a0, a1, a2⟩ := rc_cells hra
            have b0 := Joins.cell_of_block HT.out.at_ 0
            have b1 := Joins.cell_of_block HT.out.at_ 1
            have b2 := Joins.cell_of_block HT.out.at_ 2
            simp only [List.getElem?_toArray, List.getElem?_cons_zero, List.getElem?_cons_succ] at b0 b1 b2
            have E := eq_r x r'
            have ES : Hid ((T3.take (p + 1)).any (fun x => decide (x = r')) = ((T3.take p).any (fun x => decide (x = r')) || decide (x = r'))) := by show _ = _; rw [List.take_add_one, hx]; simp
            have hpn : (p : Int) < n1 := by omega
            dsimp only [rcs] at E
            generalize (T3.take p).any (fun x => decide (x = r')) = hs at *
            generalize decide (x = r') = y at *
            clear hra hx
            cases hs with
            | true =>
              go_wp2_with fail
              go_quiet (fail)
              go_wp2_with fail
              go_roundw
              case rel => exact ⟨p + 1, by omega, by go_num, by rw [ES.out]; rfl, HT.out.grow (below_n (Below.refl _ _) _), below_n HB7.out _⟩
              case measure => simp [intOf]; omega
            | false =>
              go_wp2_with fail
              go_quiet (fail)
              go_wp2_with fail
              go_roundw
              case rel => exact ⟨p + 1, by omega, by go_num, by rw [ES.out]; rfl, HT.out.grow (below_n (Below.refl _ _) _), below_n HB7.out _⟩
              case measure => simp [intOf]; omega
          · obtain rfl : n1 = p := by omega
            have hall : (T3.take n1).any (fun x => decide (x = r')) = true := by
              rw [List.take_of_length_le (by rw [HTl.out.2.2.2.2]; exact Nat.le_refl _)]
              exact List.any_eq_true.2 ⟨r', HIn.out, decide_eq_true rfl⟩
            rw [hall]
            clear hall
            go_wp2_with fail
            go_roundw
            case rel => exact ⟨k + 1, m3, by omega, by omega, by go_num, HT.out.one, HK3.out.1, HGg.out.2.2, HK3.out.2.1, HK3.out.2.2⟩
            case measure => simp [intOf]; omega
    · by_cases hend : k < L.length
      · have h15 : 15 ≤ k := by omega
        clear hlt
        obtain ⟨c1, c2⟩ := HK.out.clear
        have HG4 := Lib.hid (HG.out.clear (by omega))
        obtain ⟨m4, hm4⟩ : ∃ m4, (clear m).2 = m4 := ⟨_, rfl⟩
        rw [hm4] at c2 HG4
        have HC := Lib.hid (And.intro c1 (And.intro hm4 c2))
        clear c1 c2 hm4 HK
        go_wp2_with (first
          | (go_at_call 17; (with_reducible refine (clear_m HO.out HG.out HC.out.1 HC.out.2.1).mono ?_); rintro e W ⟨rfl, h, _⟩; replace HO := Lib.hid h; clear h)
          | (go_at_call 26; (with_reducible refine (told_m HO.out HG4.out HC.out.2.2 rfl).mono ?_); rintro e W ⟨A1, c1, rfl, _, _, h, _⟩; replace HO := Lib.hid h; clear h)
          | fail)
        go_ret
        exact ⟨rfl, HO.out.mm.old⟩
      · clear hlt
        obtain ⟨c1, c2⟩ := HK.out.clear
        have HG4 := Lib.hid (HG.out.clear (by omega))
        obtain ⟨m4, hm4⟩ : ∃ m4, (clear m).2 = m4 := ⟨_, rfl⟩
        rw [hm4] at c2 HG4
        have HC := Lib.hid (And.intro c1 (And.intro hm4 c2))
        clear c1 c2 hm4 HK
        go_wp2_with (first
          | (go_at_call 17; (with_reducible refine (clear_m HO.out HG.out HC.out.1 HC.out.2.1).mono ?_); rintro e W ⟨rfl, h, _⟩; replace HO := Lib.hid h; clear h)
          | (go_at_call 26; (with_reducible refine (told_m HO.out HG4.out HC.out.2.2 rfl).mono ?_); rintro e W ⟨A1, c1, rfl, _, _, h, _⟩; replace HO := Lib.hid h; clear h)
          | fail)
        go_ret
        exact ⟨rfl, HO.out.mm.old⟩
end Sq
end Go.Proofs.Ytlhapipgmadbeaa
