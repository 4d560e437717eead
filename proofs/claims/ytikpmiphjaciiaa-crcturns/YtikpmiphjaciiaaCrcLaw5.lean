/- The walk of CrcAdds. -/
import Derived.Test.YtikpmiphjaciiaaCrcLaw2
import Derived.Deep.RegionHeld3
namespace Go.Proofs.Ytikpmiphjaciiaa
namespace Crc
open Go.RowKit

theorem getD_take {l : List Nat} {n i : Nat} (h : i < n) : (l.take n).getD i 0 = l.getD i 0 := by
  simp [List.getD_eq_getElem?_getD, h]
theorem InB.take {w : World} {A : Option Addr} {l : List Nat} (h : InB w A l) (n : Nat) : InB w A (l.take n) := by
  intro i hi
  have hi' : i < n ∧ i < l.length := by simpa [Nat.lt_min] using hi
  obtain ⟨c, o, e, hc⟩ := h i hi'.2
  exact ⟨c, o, e, by rw [getD_take hi'.1]; exact hc⟩
/-- The first k of n bytes have been put in. -/
def putb (f : Nat → Nat) (k : Nat) (j : Nat) : Value := .int .u8 ((if j < k then f j else 0 : Nat) : Int)
theorem putb_new (W : World) (n : Nat) (f : Nat → Nat) : (W.alloc (.cells (madeCells #[.int .u8 0] n) 5)).rowIs W.heap.size 5 n (putb f 0) := (World.rowIs_made W (.int .u8 0) n 5).congr fun i _ => by simp [putb]
theorem putb_put {W : World} {b t n : Nat} {f : Nat → Nat} {k : Nat} (h : W.rowIs b t n (putb f k)) : (W.setCell ⟨b, k, none⟩ (.int .u8 (f k))).rowIs b t n (putb f (k + 1)) := (h.set k (.int .u8 (f k))).congr fun j _ => by
  by_cases e : j = k
  · subst e; simp [putb]
  · by_cases c : j < k
    · rw [if_neg e]; unfold putb; rw [if_pos c, if_pos (by omega)]
    · rw [if_neg e]; unfold putb; rw [if_neg c, if_neg (by omega)]
theorem putb_bytes {W : World} {b t n bb : Nat} {f : Nat → Nat} {l : List Nat} (h : W.rowIs b t n (putb f n)) (hl : l.length = n) (hf : ∀ j, j < n → f j = l.getD j 0) (hb : b ≠ bb) : BytesAt W bb (some ⟨b, 0, none⟩) l := by
  intro i hi
  refine ⟨b, 0, rfl, hb, ?_⟩
  rw [Nat.zero_add, h.cell (by omega)]
  unfold putb
  rw [if_pos (by omega), hf i (by omega)]
theorem BytesAt.alloc {W : World} {b : Nat} {A : Option Addr} {l : List Nat} (h : BytesAt W b A l) (o : Obj) : BytesAt (W.alloc o) b A l := by
  intro i hi
  obtain ⟨c, p, e, hc, hh⟩ := h i hi
  exact ⟨c, p, e, hc, by rw [World.cell?_alloc_past _ _ _ (World.block_lt_of_cell? _ _ hh)]; exact hh⟩
theorem BytesAt.drew {W : World} {b : Nat} {A : Option Addr} {l : List Nat} (h : BytesAt W b A l) : BytesAt W.drew b A l := h
/-- make([]byte, n). -/
theorem zeros_at {W : World} {b n : Nat} (hb : b < W.heap.size) : BytesAt (W.alloc (.cells (madeCells #[.int .u8 0] n) 5)) b (some ⟨W.heap.size, 0, none⟩) (List.replicate n 0) := by
  intro i hi
  have hi' : i < n := by simpa using hi
  refine ⟨W.heap.size, 0, rfl, by omega, ?_⟩
  rw [Nat.zero_add, (World.rowIs_made W (.int .u8 0) n 5).cell hi']
  simp [hi']
theorem zeros_bytes (n : Nat) : Cr.Bytes (List.replicate n 0) := fun v hv => by rw [List.eq_of_mem_replicate hv]; decide
theorem zx_length {a b : List Nat} (h : a.length = b.length) : (Cr.zx a b).length = a.length := by simp [Cr.zx, h]
theorem zx_getD {a b : List Nat} {n j : Nat} (ha : n ≤ a.length) (hb : n ≤ b.length) (hj : j < n) : a.getD j 0 ^^^ b.getD j 0 = (Cr.zx (a.take n) (b.take n)).getD j 0 := by
  have h1 : j < a.length := by omega
  have h2 : j < b.length := by omega
  simp [Cr.zx, List.getD_eq_getElem?_getD, List.getElem?_zipWith, hj, h1, h2]
theorem of_v {N p : Nat} (b n : Nat) (A : Option Addr) (l : List Nat) (c : Nat) (w : World) (hp : Hid (Cr.more 65535 l = p)) (hN : l.length = N) (hb : Cr.Bytes l) (hl : N ≤ 9223372036854775807) (h : Is w b n) (hn : n + 1 < 4611686018427387904) (hA : BytesAt w b A l) :
    Calls Try.prog 13 #[.pointer (some ⟨b, 0, none⟩), .slice A N c] w fun e w' => e = .returned (.int .u16 p) ∧ Is w' b (n + 1) ∧ Off b w w' := by
  have := of_n b n A l c w hN hb hl h hn hA
  rwa [hp.out] at this
/-- The row of both, while it is made. -/
structure Both (w : World) (D n : Nat) (f : Nat → Nat) (k : Nat) (W : World) : Prop where
  row : W.rowIs D 5 n (putb f k)
  old : Below w.heap.size w W
  le : w.heap.size ≤ D
theorem Both.put {w : World} {D n : Nat} {f : Nat → Nat} {k : Nat} {W : World} (h : Both w D n f k W) : Both w D n f (k + 1) (W.setCell ⟨D, k, none⟩ (.int .u8 (f k))) := ⟨putb_put h.row, h.old.setCell h.le _, h.le⟩
theorem Both.put_at {w : World} {D n : Nat} {f : Nat → Nat} {k : Nat} {W : World} {V : Nat} (h : Both w D n f k W) (hV : f k = V) : Both w D n f (k + 1) (W.setCell ⟨D, k, none⟩ (.int .u8 (V : Int))) := hV ▸ h.put
theorem Both.drew {w : World} {D n : Nat} {f : Nat → Nat} {k : Nat} {W : World} (h : Both w D n f k W) : Both w D n f k W.drew := ⟨h.row.drew, h.old.drew, h.le⟩

set_option maxRecDepth 100000 in
set_option maxHeartbeats 4000000 in
theorem adds_long1 (A : Option Addr) (l : List Nat) (c : Nat) (B : Option Addr) (m : List Nat) (cb : Nat) (h : l.length ≤ m.length) (h5 : 500 < l.length) (w : World) :
    Calls Try.prog 5 #[.slice A l.length c, .slice B m.length cb] w fun e w' => e = .returned (.bool true) ∧ Below w.heap.size w w' := by
  have d1 : decide ((m.length : Int) < (l.length : Int)) = false := by simp; omega
  have d2 : decide ((500 : Int) < (l.length : Int)) = true := by simp; omega
  go_enter Try.func5, Try.ntmps5
  go_wp2_with fail
  refine (awake_c _).mono ?_
  rintro e w1 ⟨rfl, hb⟩
  have HB := Lib.hid hb
  clear hb
  go_wp2_with fail
  go_ret
  exact ⟨rfl, HB.out⟩

set_option maxRecDepth 100000 in
set_option maxHeartbeats 8000000 in
theorem adds_ok1 (A : Option Addr) (l : List Nat) (c : Nat) (B : Option Addr) (m : List Nat) (cb : Nat) (h : l.length ≤ m.length) (h5 : l.length ≤ 500) (hc1 : l.length ≤ c) (hc2 : m.length ≤ cb) (hl : l.length ≤ 9223372036854775807) (hm : m.length ≤ 9223372036854775807) (w : World) (hA : InB w A l) (hB : InB w B m) (hbl : Cr.Bytes l) (hbm : Cr.Bytes m)
    (p q r z : Nat) (HP : Hid (Cr.more 65535 (l.take l.length) = p)) (HQ : Hid (Cr.more 65535 (m.take l.length) = q)) (HR : Hid (Cr.more 65535 (Cr.zx (l.take l.length) (m.take l.length)) = r)) (HZ : Hid (Cr.more 65535 (List.replicate l.length 0) = z))
    (x1 : bits .xor .u16 (p : Int) (q : Int) = ((p ^^^ q : Nat) : Int)) (x2 : bits .xor .u16 ((p ^^^ q : Nat) : Int) (z : Int) = (r : Int)) :
    Calls Try.prog 5 #[.slice A l.length c, .slice B m.length cb] w fun e w' => e = .returned (.bool true) ∧ Below w.heap.size w w' := by
  have d1 : decide ((m.length : Int) < (l.length : Int)) = false := by simp; omega
  have d2 : decide ((500 : Int) < (l.length : Int)) = false := by simp; omega
  have hmk := run_make_row' (P := Try.prog) 23 5 (.int .u8 0) 1 Try.underlying23 info_byte rfl .i64 .i64 l.length (by omega) (by omega)
  have HA := Lib.hid hA
  have HB := Lib.hid hB
  have HL := Lib.hid hbl
  have HM := Lib.hid hbm
  have hnl : l.length ≤ l.length := by omega
  have hnm : l.length ≤ m.length := by omega
  have hnc : l.length ≤ c := by omega
  have hncb : l.length ≤ cb := by omega
  have hnc' : (l.length : Int) ≤ (c : Int) := by omega
  have hncb' : (l.length : Int) ≤ (cb : Int) := by omega
  have HLl : Hid ((l.take l.length).length = l.length) := by show (l.take l.length).length = l.length; rw [List.length_take]; omega
  have HLm : Hid ((m.take l.length).length = l.length) := by show (m.take l.length).length = l.length; rw [List.length_take]; omega
  clear hA hB hbl hbm
  go_enter Try.func5, Try.ntmps5
  go_wp2_with fail
  refine (awake_c _).mono ?_
  rintro e w1 ⟨rfl, hb⟩
  have HW : Hid (Both w w1.heap.size l.length (fun j => l.getD j 0 ^^^ m.getD j 0) 0 (w1.alloc (.cells (madeCells #[.int .u8 0] l.length) 5))) := ⟨putb_new w1 _ _, hb.alloc hb.size _, hb.size⟩
  clear hb
  go_wp2_with fail
  generalize w1.heap.size = D at *
  go_loopw [8] (fun i wr => ∃ k : Nat, k ≤ l.length ∧ i = .int .i64 k ∧ Both w D l.length (fun j => l.getD j 0 ^^^ m.getD j 0) k wr) (fun i _ => l.length - (intOf i).toNat)
  case atStart => exact ⟨0, Nat.zero_le _, rfl, HW.out⟩
  case round =>
    clear HW
    obtain ⟨k, hk, rfl, hw⟩ := hrel
    have HW := Lib.hid hw
    clear hw
    by_cases hlt : k < l.length
    · obtain ⟨ba, oa, rfl, hca⟩ := HA.out.below HW.out.drew.old k (by omega)
      obtain ⟨bb, ob, rfl, hcb⟩ := HB.out.below HW.out.drew.old k (by omega)
      have hx := Cb.xor_u8 (getD_byte HL.out (i := k) (by omega)) (getD_byte HM.out (i := k) (by omega))
      have d3 := HW.out.drew.row.cell hlt
      have d4 := HW.out.drew.row.frozen k
      unfold putb at d3
      simp only [Nat.lt_irrefl, if_false] at d3
      obtain ⟨X, hX⟩ : ∃ X, l.getD k 0 = X := ⟨_, rfl⟩
      obtain ⟨Y, hY⟩ : ∃ Y, m.getD k 0 = Y := ⟨_, rfl⟩
      obtain ⟨V, hV⟩ : ∃ V, X ^^^ Y = V := ⟨_, rfl⟩
      have HS := Lib.hid (HW.out.drew.put_at (V := V) (by show l.getD k 0 ^^^ m.getD k 0 = V; rw [hX, hY, hV]))
      rw [hX, hY, hV] at hx
      rw [hX] at hca
      rw [hY] at hcb
      clear HP HQ HR HZ HW hX hY hV
      have kl : k < l.length := by omega
      have km : k < m.length := by omega
      go_wp2_with fail
      refine wp_region_still_tail 12 (by kernel_rfl) (by kernel_rfl) ?_
      simp only [List.take_succ_cons, List.take_zero, List.drop_succ_cons, List.drop_zero]
      iterate 12 still_step
      refine wpStill_nil ?_
      change wpList _ _ _ _ _ wr.drew
      generalize wr.drew = W at *
      go_wp2_with fail
      go_roundw
      case rel => exact ⟨k + 1, by omega, by go_num, HS.out⟩
      case measure => simp [intOf]; omega
    · obtain rfl : k = l.length := by omega
      have HN := Lib.hid (Own.new_after HW.out.old)
      have HD : Hid (BytesAt (wr.alloc (.cells Z 55)) wr.heap.size (some ⟨D, 0, none⟩) (Cr.zx (l.take l.length) (m.take l.length))) := (putb_bytes (n := l.length) (f := fun j => l.getD j 0 ^^^ m.getD j 0) (HW.out.row.alloc _) (by rw [zx_length (by rw [HLl.out, HLm.out]), HLl.out]) (fun j hj => zx_getD hnl hnm hj) (by have := HW.out.row.lt; omega))
      clear HW
      go_wp2_with fail
      refine (new_c _).mono ?_
      rintro e w2 ⟨rfl, hw⟩
      rw [← hw] at HN HD
      clear hw
      generalize wr.heap.size = b at *
      replace HN := Lib.hid HN.out.drew
      replace HD := Lib.hid HD.out.drew
      go_wp2_with fail
      have C1 : Hid (∀ W, Own w.heap.size b 0 w W → BytesAt W b (some ⟨D, 0, none⟩) (Cr.zx (l.take l.length) (m.take l.length)) → Calls Try.prog 13 #[.pointer (some ⟨b, 0, none⟩), .slice (some ⟨D, 0, none⟩) l.length l.length] W fun e w' => e = .returned (.int .u16 r) ∧ Own w.heap.size b 1 w w' ∧ Off b W w') := fun W h g => (of_v b 0 (some ⟨D, 0, none⟩) _ l.length W HR (by rw [zx_length (by rw [HLl.out, HLm.out]), HLl.out]) (Cr.zx_bytes (take_bytes HL.out _) (take_bytes HM.out _)) (by omega) h.is (by decide) g).mono fun e w' ⟨h1, h2, h3⟩ => ⟨h1, h.step h2 h3, h3⟩
      have C2 : Hid (∀ W, Own w.heap.size b 1 w W → Calls Try.prog 13 #[.pointer (some ⟨b, 0, none⟩), .slice A l.length c] W fun e w' => e = .returned (.int .u16 p) ∧ Own w.heap.size b 2 w w' ∧ Off b W w') := fun W h => (of_v b 1 A _ c W HP HLl.out (take_bytes HL.out _) (by omega) h.is (by decide) ((HA.out.take _).own h)).mono fun e w' ⟨h1, h2, h3⟩ => ⟨h1, h.step h2 h3, h3⟩
      have C3 : Hid (∀ W, Own w.heap.size b 2 w W → Calls Try.prog 13 #[.pointer (some ⟨b, 0, none⟩), .slice B l.length cb] W fun e w' => e = .returned (.int .u16 q) ∧ Own w.heap.size b 3 w w' ∧ Off b W w') := fun W h => (of_v b 2 B _ cb W HQ HLm.out (take_bytes HM.out _) (by omega) h.is (by decide) ((HB.out.take _).own h)).mono fun e w' ⟨h1, h2, h3⟩ => ⟨h1, h.step h2 h3, h3⟩
      have C4 : Hid (∀ W G, Own w.heap.size b 3 w W → BytesAt W b (some ⟨G, 0, none⟩) (List.replicate l.length 0) → Calls Try.prog 13 #[.pointer (some ⟨b, 0, none⟩), .slice (some ⟨G, 0, none⟩) l.length l.length] W fun e w' => e = .returned (.int .u16 z) ∧ Own w.heap.size b 4 w w' ∧ Off b W w') := fun W G h g => (of_v b 3 (some ⟨G, 0, none⟩) _ l.length W HZ (by simp) (zeros_bytes _) (by omega) h.is (by decide) g).mono fun e w' ⟨h1, h2, h3⟩ => ⟨h1, h.step h2 h3, h3⟩
      clear HP HQ HR HZ HA HB HL HM HLl HLm
      go_region_held3 (fun _ => True ∧ True) (exact ⟨trivial, trivial⟩)
        (first
          | (go_at_call 13; (with_reducible refine (C1.out _ ?_ ?_).mono ?_); (first | exact HN.out | exact HN.out.alloc _); (first | exact HD.out | exact HD.out.alloc _); rintro e w9 ⟨rfl, hO1, ho⟩; (first | have hz := (zeros_at (n := l.length) HN.out.is.lt).off ho | skip); clear ho)
          | (go_at_call 13; (with_reducible refine (C2.out _ ?_).mono ?_); (first | exact hO1 | exact hO1.alloc _); rintro e w10 ⟨rfl, hO2, ho⟩; (first | have hz2 := hz.off ho | have hz2 := (zeros_at (n := l.length) hO1.is.lt).off ho | skip); clear ho)
          | (go_at_call 13; (with_reducible refine (C3.out _ ?_).mono ?_); (first | exact hO2 | exact hO2.alloc _); rintro e w11 ⟨rfl, hO3, ho⟩; (first | have hz3 := hz2.off ho | have hz3 := (zeros_at (n := l.length) hO2.is.lt).off ho | skip); clear ho)
          | (go_at_call 13; (with_reducible refine (C4.out _ _ ?_ ?_).mono ?_); (first | exact hO3 | exact hO3.alloc _); (first | exact hz3 | exact zeros_at hO3.is.lt); rintro e w12 ⟨rfl, hO4, ho⟩; clear ho))
      all_goals
        have HF := Lib.hid hO4
        clear hO4 hO3 hO2 hO1
        go_wp2_with fail
        go_ret
        exact ⟨rfl, HF.out.old⟩

set_option maxRecDepth 100000 in
set_option maxHeartbeats 4000000 in
theorem adds_long2 (A : Option Addr) (l : List Nat) (c : Nat) (B : Option Addr) (m : List Nat) (cb : Nat) (h : m.length < l.length) (h5 : 500 < m.length) (w : World) :
    Calls Try.prog 5 #[.slice A l.length c, .slice B m.length cb] w fun e w' => e = .returned (.bool true) ∧ Below w.heap.size w w' := by
  have d1 : decide ((m.length : Int) < (l.length : Int)) = true := by simp; omega
  have d2 : decide ((500 : Int) < (m.length : Int)) = true := by simp; omega
  go_enter Try.func5, Try.ntmps5
  go_wp2_with fail
  refine (awake_c _).mono ?_
  rintro e w1 ⟨rfl, hb⟩
  have HB := Lib.hid hb
  clear hb
  go_wp2_with fail
  go_ret
  exact ⟨rfl, HB.out⟩

set_option maxRecDepth 100000 in
set_option maxHeartbeats 8000000 in
theorem adds_ok2 (A : Option Addr) (l : List Nat) (c : Nat) (B : Option Addr) (m : List Nat) (cb : Nat) (h : m.length < l.length) (h5 : m.length ≤ 500) (hc1 : l.length ≤ c) (hc2 : m.length ≤ cb) (hl : l.length ≤ 9223372036854775807) (hm : m.length ≤ 9223372036854775807) (w : World) (hA : InB w A l) (hB : InB w B m) (hbl : Cr.Bytes l) (hbm : Cr.Bytes m)
    (p q r z : Nat) (HP : Hid (Cr.more 65535 (l.take m.length) = p)) (HQ : Hid (Cr.more 65535 (m.take m.length) = q)) (HR : Hid (Cr.more 65535 (Cr.zx (l.take m.length) (m.take m.length)) = r)) (HZ : Hid (Cr.more 65535 (List.replicate m.length 0) = z))
    (x1 : bits .xor .u16 (p : Int) (q : Int) = ((p ^^^ q : Nat) : Int)) (x2 : bits .xor .u16 ((p ^^^ q : Nat) : Int) (z : Int) = (r : Int)) :
    Calls Try.prog 5 #[.slice A l.length c, .slice B m.length cb] w fun e w' => e = .returned (.bool true) ∧ Below w.heap.size w w' := by
  have d1 : decide ((m.length : Int) < (l.length : Int)) = true := by simp; omega
  have d2 : decide ((500 : Int) < (m.length : Int)) = false := by simp; omega
  have hmk := run_make_row' (P := Try.prog) 23 5 (.int .u8 0) 1 Try.underlying23 info_byte rfl .i64 .i64 m.length (by omega) (by omega)
  have HA := Lib.hid hA
  have HB := Lib.hid hB
  have HL := Lib.hid hbl
  have HM := Lib.hid hbm
  have hnl : m.length ≤ l.length := by omega
  have hnm : m.length ≤ m.length := by omega
  have hnc : m.length ≤ c := by omega
  have hncb : m.length ≤ cb := by omega
  have hnc' : (m.length : Int) ≤ (c : Int) := by omega
  have hncb' : (m.length : Int) ≤ (cb : Int) := by omega
  have HLl : Hid ((l.take m.length).length = m.length) := by show (l.take m.length).length = m.length; rw [List.length_take]; omega
  have HLm : Hid ((m.take m.length).length = m.length) := by show (m.take m.length).length = m.length; rw [List.length_take]; omega
  clear hA hB hbl hbm
  go_enter Try.func5, Try.ntmps5
  go_wp2_with fail
  refine (awake_c _).mono ?_
  rintro e w1 ⟨rfl, hb⟩
  have HW : Hid (Both w w1.heap.size m.length (fun j => l.getD j 0 ^^^ m.getD j 0) 0 (w1.alloc (.cells (madeCells #[.int .u8 0] m.length) 5))) := ⟨putb_new w1 _ _, hb.alloc hb.size _, hb.size⟩
  clear hb
  go_wp2_with fail
  generalize w1.heap.size = D at *
  go_loopw [8] (fun i wr => ∃ k : Nat, k ≤ m.length ∧ i = .int .i64 k ∧ Both w D m.length (fun j => l.getD j 0 ^^^ m.getD j 0) k wr) (fun i _ => m.length - (intOf i).toNat)
  case atStart => exact ⟨0, Nat.zero_le _, rfl, HW.out⟩
  case round =>
    clear HW
    obtain ⟨k, hk, rfl, hw⟩ := hrel
    have HW := Lib.hid hw
    clear hw
    by_cases hlt : k < m.length
    · obtain ⟨ba, oa, rfl, hca⟩ := HA.out.below HW.out.drew.old k (by omega)
      obtain ⟨bb, ob, rfl, hcb⟩ := HB.out.below HW.out.drew.old k (by omega)
      have hx := Cb.xor_u8 (getD_byte HL.out (i := k) (by omega)) (getD_byte HM.out (i := k) (by omega))
      have d3 := HW.out.drew.row.cell hlt
      have d4 := HW.out.drew.row.frozen k
      unfold putb at d3
      simp only [Nat.lt_irrefl, if_false] at d3
      obtain ⟨X, hX⟩ : ∃ X, l.getD k 0 = X := ⟨_, rfl⟩
      obtain ⟨Y, hY⟩ : ∃ Y, m.getD k 0 = Y := ⟨_, rfl⟩
      obtain ⟨V, hV⟩ : ∃ V, X ^^^ Y = V := ⟨_, rfl⟩
      have HS := Lib.hid (HW.out.drew.put_at (V := V) (by show l.getD k 0 ^^^ m.getD k 0 = V; rw [hX, hY, hV]))
      rw [hX, hY, hV] at hx
      rw [hX] at hca
      rw [hY] at hcb
      clear HP HQ HR HZ HW hX hY hV
      have kl : k < l.length := by omega
      have km : k < m.length := by omega
      go_wp2_with fail
      refine wp_region_still_tail 12 (by kernel_rfl) (by kernel_rfl) ?_
      simp only [List.take_succ_cons, List.take_zero, List.drop_succ_cons, List.drop_zero]
      iterate 12 still_step
      refine wpStill_nil ?_
      change wpList _ _ _ _ _ wr.drew
      generalize wr.drew = W at *
      go_wp2_with fail
      go_roundw
      case rel => exact ⟨k + 1, by omega, by go_num, HS.out⟩
      case measure => simp [intOf]; omega
    · obtain rfl : k = m.length := by omega
      have HN := Lib.hid (Own.new_after HW.out.old)
      have HD : Hid (BytesAt (wr.alloc (.cells Z 55)) wr.heap.size (some ⟨D, 0, none⟩) (Cr.zx (l.take m.length) (m.take m.length))) := (putb_bytes (n := m.length) (f := fun j => l.getD j 0 ^^^ m.getD j 0) (HW.out.row.alloc _) (by rw [zx_length (by rw [HLl.out, HLm.out]), HLl.out]) (fun j hj => zx_getD hnl hnm hj) (by have := HW.out.row.lt; omega))
      clear HW
      go_wp2_with fail
      refine (new_c _).mono ?_
      rintro e w2 ⟨rfl, hw⟩
      rw [← hw] at HN HD
      clear hw
      generalize wr.heap.size = b at *
      replace HN := Lib.hid HN.out.drew
      replace HD := Lib.hid HD.out.drew
      go_wp2_with fail
      have C1 : Hid (∀ W, Own w.heap.size b 0 w W → BytesAt W b (some ⟨D, 0, none⟩) (Cr.zx (l.take m.length) (m.take m.length)) → Calls Try.prog 13 #[.pointer (some ⟨b, 0, none⟩), .slice (some ⟨D, 0, none⟩) m.length m.length] W fun e w' => e = .returned (.int .u16 r) ∧ Own w.heap.size b 1 w w' ∧ Off b W w') := fun W h g => (of_v b 0 (some ⟨D, 0, none⟩) _ m.length W HR (by rw [zx_length (by rw [HLl.out, HLm.out]), HLl.out]) (Cr.zx_bytes (take_bytes HL.out _) (take_bytes HM.out _)) (by omega) h.is (by decide) g).mono fun e w' ⟨h1, h2, h3⟩ => ⟨h1, h.step h2 h3, h3⟩
      have C2 : Hid (∀ W, Own w.heap.size b 1 w W → Calls Try.prog 13 #[.pointer (some ⟨b, 0, none⟩), .slice A m.length c] W fun e w' => e = .returned (.int .u16 p) ∧ Own w.heap.size b 2 w w' ∧ Off b W w') := fun W h => (of_v b 1 A _ c W HP HLl.out (take_bytes HL.out _) (by omega) h.is (by decide) ((HA.out.take _).own h)).mono fun e w' ⟨h1, h2, h3⟩ => ⟨h1, h.step h2 h3, h3⟩
      have C3 : Hid (∀ W, Own w.heap.size b 2 w W → Calls Try.prog 13 #[.pointer (some ⟨b, 0, none⟩), .slice B m.length cb] W fun e w' => e = .returned (.int .u16 q) ∧ Own w.heap.size b 3 w w' ∧ Off b W w') := fun W h => (of_v b 2 B _ cb W HQ HLm.out (take_bytes HM.out _) (by omega) h.is (by decide) ((HB.out.take _).own h)).mono fun e w' ⟨h1, h2, h3⟩ => ⟨h1, h.step h2 h3, h3⟩
      have C4 : Hid (∀ W G, Own w.heap.size b 3 w W → BytesAt W b (some ⟨G, 0, none⟩) (List.replicate m.length 0) → Calls Try.prog 13 #[.pointer (some ⟨b, 0, none⟩), .slice (some ⟨G, 0, none⟩) m.length m.length] W fun e w' => e = .returned (.int .u16 z) ∧ Own w.heap.size b 4 w w' ∧ Off b W w') := fun W G h g => (of_v b 3 (some ⟨G, 0, none⟩) _ m.length W HZ (by simp) (zeros_bytes _) (by omega) h.is (by decide) g).mono fun e w' ⟨h1, h2, h3⟩ => ⟨h1, h.step h2 h3, h3⟩
      clear HP HQ HR HZ HA HB HL HM HLl HLm
      go_region_held3 (fun _ => True ∧ True) (exact ⟨trivial, trivial⟩)
        (first
          | (go_at_call 13; (with_reducible refine (C1.out _ ?_ ?_).mono ?_); (first | exact HN.out | exact HN.out.alloc _); (first | exact HD.out | exact HD.out.alloc _); rintro e w9 ⟨rfl, hO1, ho⟩; (first | have hz := (zeros_at (n := m.length) HN.out.is.lt).off ho | skip); clear ho)
          | (go_at_call 13; (with_reducible refine (C2.out _ ?_).mono ?_); (first | exact hO1 | exact hO1.alloc _); rintro e w10 ⟨rfl, hO2, ho⟩; (first | have hz2 := hz.off ho | have hz2 := (zeros_at (n := m.length) hO1.is.lt).off ho | skip); clear ho)
          | (go_at_call 13; (with_reducible refine (C3.out _ ?_).mono ?_); (first | exact hO2 | exact hO2.alloc _); rintro e w11 ⟨rfl, hO3, ho⟩; (first | have hz3 := hz2.off ho | have hz3 := (zeros_at (n := m.length) hO2.is.lt).off ho | skip); clear ho)
          | (go_at_call 13; (with_reducible refine (C4.out _ _ ?_ ?_).mono ?_); (first | exact hO3 | exact hO3.alloc _); (first | exact hz3 | exact zeros_at hO3.is.lt); rintro e w12 ⟨rfl, hO4, ho⟩; clear ho))
      all_goals
        have HF := Lib.hid hO4
        clear hO4 hO3 hO2 hO1
        go_wp2_with fail
        go_ret
        exact ⟨rfl, HF.out.old⟩

theorem adds_xor {l m : List Nat} {n : Nat} (hl : n ≤ l.length) (hm : n ≤ m.length) (hbl : Cr.Bytes l) (hbm : Cr.Bytes m) :
    bits .xor .u16 ((Cr.more 65535 (l.take n) : Nat) : Int) ((Cr.more 65535 (m.take n) : Nat) : Int) = ((Cr.more 65535 (l.take n) ^^^ Cr.more 65535 (m.take n) : Nat) : Int) ∧ bits .xor .u16 ((Cr.more 65535 (l.take n) ^^^ Cr.more 65535 (m.take n) : Nat) : Int) ((Cr.more 65535 (List.replicate n 0) : Nat) : Int) = ((Cr.more 65535 (Cr.zx (l.take n) (m.take n)) : Nat) : Int) := by
  have e1 : (l.take n).length = n := by rw [List.length_take]; omega
  have e2 : (m.take n).length = n := by rw [List.length_take]; omega
  have h1 := Cr.more_lt (s := 65535) (by decide) (take_bytes hbl n)
  have h2 := Cr.more_lt (s := 65535) (by decide) (take_bytes hbm n)
  have h3 := Cr.more_lt (s := 65535) (by decide) (zeros_bytes n)
  have ha := Cr.adds (take_bytes hbl n) (take_bytes hbm n) (by rw [e1, e2])
  rw [e1] at ha
  rw [ha]
  generalize Cr.more 65535 (l.take n) = p at *
  generalize Cr.more 65535 (m.take n) = q at *
  generalize Cr.more 65535 (List.replicate n 0) = z at *
  exact ⟨Cb.xor_u16 h1 h2, Cb.xor_u16 (Nat.xor_lt_two_pow (n := 16) h1 h2) h3⟩

theorem CrcAdds_walk (A : Option Addr) (l : List Nat) (c : Nat) (hl : l.length ≤ 9223372036854775807) (hc1 : l.length ≤ c) (hbl : Cr.Bytes l) (B : Option Addr) (m : List Nat) (cb : Nat) (hm : m.length ≤ 9223372036854775807) (hc2 : m.length ≤ cb) (hbm : Cr.Bytes m) (w : World) (hA : InB w A l) (hB : InB w B m) :
    Calls Try.prog 5 #[.slice A l.length c, .slice B m.length cb] w fun e w' => e = .returned (.bool true) ∧ Below w.heap.size w w' := by
  by_cases h : m.length < l.length
  · by_cases h5 : 500 < m.length
    · exact adds_long2 A l c B m cb h h5 w
    · obtain ⟨x1, x2⟩ := adds_xor (n := m.length) (by omega) (Nat.le_refl _) hbl hbm
      exact adds_ok2 A l c B m cb h (by omega) hc1 hc2 hl hm w hA hB hbl hbm _ _ _ _ rfl rfl rfl rfl x1 x2
  · by_cases h5 : 500 < l.length
    · exact adds_long1 A l c B m cb (by omega) h5 w
    · obtain ⟨x1, x2⟩ := adds_xor (n := l.length) (Nat.le_refl _) (by omega) hbl hbm
      exact adds_ok1 A l c B m cb (by omega) (by omega) hc1 hc2 hl hm w hA hB hbl hbm _ _ _ _ rfl rfl rfl rfl x1 x2
end Crc
end Go.Proofs.Ytikpmiphjaciiaa
