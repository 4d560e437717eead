/- The walk of CrcTurns. -/
import Derived.Test.YtikpmiphjaciiaaCrcTurn
namespace Go.Proofs.Ytikpmiphjaciiaa
namespace Crc
open Go.RowKit

set_option maxRecDepth 100000 in
set_option maxHeartbeats 4000000 in
theorem turns_long (A : Option Addr) (l : List Nat) (c : Nat) (at_ : Int) (x y : Nat) (h : l.length = 0 ∨ 500 < l.length) (w : World) :
    Calls Try.prog 6 #[.slice A l.length c, .int .i64 at_, .int .u8 x, .int .u8 y] w fun e w' => e = .returned (.bool true) ∧ Below w.heap.size w w' := by
  by_cases h0 : l.length = 0
  · have d1 : ((l.length : Int) == 0) = true := beq_iff_eq.2 (by omega)
    clear h
    go_enter Try.func6, Try.ntmps6
    go_wp2_with fail
    refine (awake_c _).mono ?_
    rintro e w1 ⟨rfl, hb⟩
    have HB := Lib.hid hb
    clear hb
    go_wp2_with fail
    go_ret
    exact ⟨rfl, HB.out⟩
  · have d1 : ((l.length : Int) == 0) = false := beq_eq_false_iff_ne.2 (by omega)
    have d2 : decide ((500 : Int) < (l.length : Int)) = true := by simp; omega
    clear h
    go_enter Try.func6, Try.ntmps6
    go_wp2_with fail
    refine (awake_c _).mono ?_
    rintro e w1 ⟨rfl, hb⟩
    have HB := Lib.hid hb
    clear hb
    go_wp2_with fail
    go_ret
    exact ⟨rfl, HB.out⟩

/-- A Sum, the bytes that were changed, and those that came in. -/
structure Tn (w : World) (b n : Nat) (g : Nat) (L : List Nat) (W : World) : Prop where
  own : Own w.heap.size b n w W
  row : RowB W g L
  off : g ≠ b
theorem Tn.step {w W W' : World} {b n n' g : Nat} {L : List Nat} (h : Tn w b n g L W) (hi : Is W' b n') (ho : Off b W W') : Tn w b n' g L W' := by
  obtain ⟨cur, hc, hh⟩ := h.row.row
  exact ⟨h.own.step hi ho, ⟨cur, (ho.block g h.off).trans hc, hh⟩, h.off⟩
theorem RowB.alloc {W : World} {g : Nat} {L : List Nat} (h : RowB W g L) (o : Obj) : RowB (W.alloc o) g L := by
  have hl := h.lt
  obtain ⟨cur, hc, hh⟩ := h.row
  exact ⟨cur, (Below.heap_alloc W o g hl).trans hc, hh⟩
theorem Tn.new {w W : World} {g : Nat} {L : List Nat} (hb : Below w.heap.size w W) (h : RowB W g L) : Tn w W.heap.size 0 g L (W.alloc (.cells Z 55)) := ⟨Own.new_after hb, h.alloc _, by have := h.lt; omega⟩
theorem conv_n {W : World} {b N : Nat} {A : Option Addr} {l : List Nat} {c : Nat} {s : ByteArray} (h : BytesAt W b A l) (hN : l.length = N) (h1 : 1 ≤ N) (hs : Hid (str l = s)) : (convert 23 9 (.slice A N c)).run Try.prog W = .ok (.string s) W := by
  subst hN
  rw [← hs.out]
  exact conv_c h h1
theorem Tn.drew {w W : World} {b n g : Nat} {L : List Nat} (h : Tn w b n g L W) : Tn w b n g L W.drew := ⟨h.own.drew, ⟨h.row.row⟩, h.off⟩

set_option maxRecDepth 100000 in
set_option maxHeartbeats 8000000 in
theorem turns_neg2 (A : Option Addr) (l : List Nat) (c : Nat) (at_ : Int) (x y : Nat) (h1 : 1 ≤ l.length) (h5 : l.length ≤ 500) (hlo : -9223372036854775808 ≤ at_) (hhi : at_ ≤ 9223372036854775807) (hs : at_ < 0) (a : Nat) (ha : -(at_ + 1).tmod (l.length : Int) = (a : Int)) (hal : a < l.length) (hn : a + 1 < l.length) (hx : x < 256) (hy : y < 256) (hb : Cr.Bytes l) (w : World) (hA : InB w A l)
    (X Y : Nat) (HX : Hid (l.getD a 0 = X)) (HY : Hid (l.getD (a + 1) 0 = Y)) (L : List Nat) (HL : Hid (L = (l.set a (X ^^^ x)).set (a + 1) (Y ^^^ y))) (p q : Nat) (HP : Hid (Cr.more 65535 L = p)) (HQ : Hid (Cr.more 65535 l = q)) (s t : ByteArray) (HS : Hid (str L = s)) (HT : Hid (str l = t)) (heq : ((p : Int) == (q : Int)) = (s.toList == t.toList)) :
    Calls Try.prog 6 #[.slice A l.length c, .int .i64 at_, .int .u8 x, .int .u8 y] w fun e w' => e = .returned (.bool true) ∧ Below w.heap.size w w' := by
  have hk0 := And.intro hlo (And.intro hhi (And.intro hy HY))
  clear hk0
  have d1 : ((l.length : Int) == 0) = false := beq_eq_false_iff_ne.2 (by omega)
  have d2 : decide ((500 : Int) < (l.length : Int)) = false := by simp; omega
  have d3 : decide (at_ < 0) = true := by simp; omega
  have d4 : decide ((a : Int) + 1 < (l.length : Int)) = true := by simp; omega
  have hXb : X < 256 := HX.out ▸ getD_byte hb hal
  have x1 := Cb.xor_u8 hXb hx
  have hYb : Y < 256 := HY.out ▸ getD_byte hb hn
  have x2 := Cb.xor_u8 hYb hy
  have HA := Lib.hid hA
  have HB := Lib.hid hb
  have HQ2 := Lib.hid heq
  clear hA hb heq
  go_enter Try.func6, Try.ntmps6
  go_wp2_with fail
  refine (awake_c _).mono ?_
  rintro e w1 ⟨rfl, hbw⟩
  have HE := Lib.hid (own_empty (W := w1) (base := w.heap.size) hbw.size)
  have HW := Lib.hid (hbw.alloc hbw.size (.cells #[] 5))
  have HSZ : Hid (w.heap.size ≤ (w1.alloc (.cells #[] 5)).heap.size) := by have := hbw.size; show _ ≤ _; simp; omega
  clear hbw
  go_wp2_with (first | (at_builtin; refine wpList_append_bytes rfl (.tmp 31) (.tmp 32) rfl w.heap.size _ [] rfl HE.out A l c rfl (HA.out.below HW.out) (by simp; omega) HSZ.out ?_; intro v1 w2 hown hg; simp only [List.nil_append] at hown; replace HW := Lib.hid (HW.out.grown hg HSZ.out (ownBlock_le HE.out)); obtain ⟨g, cap, rfl, _, _⟩ := hown.form (by omega); have HR := Lib.hid (RowB.of_own hown); have e1 := HR.out.1.cell hal; have e2 := HR.out.1.frozen a; rw [HX.out] at e1; have e3 := HR.out.1.cell hn; have e4 := HR.out.1.frozen (a + 1); rw [HY.out] at e3; clear hown hg))
  have HR2 := Lib.hid ((HR.out.1.set hal (X ^^^ x)).set (i := a + 1) (by rw [List.length_set]; exact hn) (Y ^^^ y))
  have HW2 := Lib.hid ((HW.out.setCell (p := ⟨g, a, none⟩) HR.out.2 (.int .u8 ((X ^^^ x : Nat) : Int))).setCell (p := ⟨g, a + 1, none⟩) HR.out.2 (.int .u8 ((Y ^^^ y : Nat) : Int)))
  rw [← HL.out] at HR2
  clear HE HR e1 e2 e3 e4 x2
  generalize (w2.setCell ⟨g, a, none⟩ (.int .u8 ((X ^^^ x : Nat) : Int))).setCell ⟨g, a + 1, none⟩ (.int .u8 ((Y ^^^ y : Nat) : Int)) = W at *
  have HN := Lib.hid (Tn.new HW2.out HR2.out)
  clear HR2 HW2 HW
  refine (new_c _).mono ?_
  rintro e w3 ⟨rfl, hw⟩
  rw [← hw] at HN
  clear hw
  generalize W.heap.size = b at *
  have HLen : Hid (L.length = l.length) := by show L.length = l.length; rw [HL.out]; simp
  have C1 : Hid (∀ W, Tn w b 0 g L W → Calls Try.prog 13 #[.pointer (some ⟨b, 0, none⟩), .slice (some ⟨g, 0, none⟩) l.length cap] W fun e w' => e = .returned (.int .u16 p) ∧ Tn w b 1 g L w') := fun W h => (of_v b 0 (some ⟨g, 0, none⟩) L cap W HP HLen.out (HL.out ▸ set_bytes (set_bytes HB.out (Nat.xor_lt_two_pow (n := 8) hXb hx)) (Nat.xor_lt_two_pow (n := 8) hYb hy)) (by omega) h.own.is (by decide) (h.row.bytes h.off)).mono fun e w' ⟨h1, h2, h3⟩ => ⟨h1, h.step h2 h3⟩
  have C2 : Hid (∀ W, Tn w b 1 g L W → Calls Try.prog 13 #[.pointer (some ⟨b, 0, none⟩), .slice A l.length c] W fun e w' => e = .returned (.int .u16 q) ∧ Tn w b 2 g L w') := fun W h => (of_v b 1 A l c W HQ rfl HB.out (by omega) h.own.is (by decide) (HA.out.own h.own)).mono fun e w' ⟨h1, h2, h3⟩ => ⟨h1, h.step h2 h3⟩
  have KP : Hid (∀ n W, Tn w b n g L W → (convert 23 9 (.slice (some ⟨g, 0, none⟩) l.length cap)).run Try.prog W = .ok (.string s) W ∧ (convert 23 9 (.slice A l.length c)).run Try.prog W = .ok (.string t) W) := fun n W h => ⟨conv_n (h.row.bytes h.off) HLen.out h1 HS, conv_n (HA.out.own h.own) rfl h1 HT⟩
  replace HN := Lib.hid HN.out.drew
  have hq := HQ2.out
  clear HX HY HL HP HQ HS HT HA HB HLen x1 HQ2
  go_wp2_with fail
  go_region_held3 (fun W => (convert 23 9 (.slice (some ⟨g, 0, none⟩) l.length cap)).run Try.prog W = .ok (.string s) W ∧ (convert 23 9 (.slice A l.length c)).run Try.prog W = .ok (.string t) W)
    (first | exact KP.out _ _ HN.out | exact KP.out _ _ (by assumption))
    (first
      | (go_at_call 13; (with_reducible refine (C1.out _ ?_).mono ?_); (exact HN.out); rintro e w9 ⟨rfl, hO1⟩)
      | (go_at_call 13; (with_reducible refine (C2.out _ ?_).mono ?_); (exact hO1); rintro e w10 ⟨rfl, hO2⟩))
  all_goals
    have HF := Lib.hid hO2
    clear hO2 hO1
    go_wp2_with fail
    go_ret
    exact ⟨rfl, HF.out.own.old⟩

set_option maxRecDepth 100000 in
set_option maxHeartbeats 8000000 in
theorem turns_neg1 (A : Option Addr) (l : List Nat) (c : Nat) (at_ : Int) (x y : Nat) (h1 : 1 ≤ l.length) (h5 : l.length ≤ 500) (hlo : -9223372036854775808 ≤ at_) (hhi : at_ ≤ 9223372036854775807) (hs : at_ < 0) (a : Nat) (ha : -(at_ + 1).tmod (l.length : Int) = (a : Int)) (hal : a < l.length) (hn : a + 1 = l.length) (hx : x < 256) (hy : y < 256) (hb : Cr.Bytes l) (w : World) (hA : InB w A l)
    (X Y : Nat) (HX : Hid (l.getD a 0 = X)) (HY : Hid (l.getD (a + 1) 0 = Y)) (L : List Nat) (HL : Hid (L = l.set a (X ^^^ x))) (p q : Nat) (HP : Hid (Cr.more 65535 L = p)) (HQ : Hid (Cr.more 65535 l = q)) (s t : ByteArray) (HS : Hid (str L = s)) (HT : Hid (str l = t)) (heq : ((p : Int) == (q : Int)) = (s.toList == t.toList)) :
    Calls Try.prog 6 #[.slice A l.length c, .int .i64 at_, .int .u8 x, .int .u8 y] w fun e w' => e = .returned (.bool true) ∧ Below w.heap.size w w' := by
  have hk0 := And.intro hlo (And.intro hhi (And.intro hy HY))
  clear hk0
  have d1 : ((l.length : Int) == 0) = false := beq_eq_false_iff_ne.2 (by omega)
  have d2 : decide ((500 : Int) < (l.length : Int)) = false := by simp; omega
  have d3 : decide (at_ < 0) = true := by simp; omega
  have d4 : decide ((a : Int) + 1 < (l.length : Int)) = false := by simp; omega
  have hXb : X < 256 := HX.out ▸ getD_byte hb hal
  have x1 := Cb.xor_u8 hXb hx
  have HA := Lib.hid hA
  have HB := Lib.hid hb
  have HQ2 := Lib.hid heq
  clear hA hb heq
  go_enter Try.func6, Try.ntmps6
  go_wp2_with fail
  refine (awake_c _).mono ?_
  rintro e w1 ⟨rfl, hbw⟩
  have HE := Lib.hid (own_empty (W := w1) (base := w.heap.size) hbw.size)
  have HW := Lib.hid (hbw.alloc hbw.size (.cells #[] 5))
  have HSZ : Hid (w.heap.size ≤ (w1.alloc (.cells #[] 5)).heap.size) := by have := hbw.size; show _ ≤ _; simp; omega
  clear hbw
  go_wp2_with (first | (at_builtin; refine wpList_append_bytes rfl (.tmp 31) (.tmp 32) rfl w.heap.size _ [] rfl HE.out A l c rfl (HA.out.below HW.out) (by simp; omega) HSZ.out ?_; intro v1 w2 hown hg; simp only [List.nil_append] at hown; replace HW := Lib.hid (HW.out.grown hg HSZ.out (ownBlock_le HE.out)); obtain ⟨g, cap, rfl, _, _⟩ := hown.form (by omega); have HR := Lib.hid (RowB.of_own hown); have e1 := HR.out.1.cell hal; have e2 := HR.out.1.frozen a; rw [HX.out] at e1; clear hown hg))
  have HR2 := Lib.hid (HR.out.1.set hal (X ^^^ x))
  have HW2 := Lib.hid (HW.out.setCell (p := ⟨g, a, none⟩) HR.out.2 (.int .u8 ((X ^^^ x : Nat) : Int)))
  rw [← HL.out] at HR2
  clear HE HR e1 e2
  generalize w2.setCell ⟨g, a, none⟩ (.int .u8 ((X ^^^ x : Nat) : Int)) = W at *
  have HN := Lib.hid (Tn.new HW2.out HR2.out)
  clear HR2 HW2 HW
  refine (new_c _).mono ?_
  rintro e w3 ⟨rfl, hw⟩
  rw [← hw] at HN
  clear hw
  generalize W.heap.size = b at *
  have HLen : Hid (L.length = l.length) := by show L.length = l.length; rw [HL.out]; simp
  have C1 : Hid (∀ W, Tn w b 0 g L W → Calls Try.prog 13 #[.pointer (some ⟨b, 0, none⟩), .slice (some ⟨g, 0, none⟩) l.length cap] W fun e w' => e = .returned (.int .u16 p) ∧ Tn w b 1 g L w') := fun W h => (of_v b 0 (some ⟨g, 0, none⟩) L cap W HP HLen.out (HL.out ▸ set_bytes HB.out (Nat.xor_lt_two_pow (n := 8) hXb hx)) (by omega) h.own.is (by decide) (h.row.bytes h.off)).mono fun e w' ⟨h1, h2, h3⟩ => ⟨h1, h.step h2 h3⟩
  have C2 : Hid (∀ W, Tn w b 1 g L W → Calls Try.prog 13 #[.pointer (some ⟨b, 0, none⟩), .slice A l.length c] W fun e w' => e = .returned (.int .u16 q) ∧ Tn w b 2 g L w') := fun W h => (of_v b 1 A l c W HQ rfl HB.out (by omega) h.own.is (by decide) (HA.out.own h.own)).mono fun e w' ⟨h1, h2, h3⟩ => ⟨h1, h.step h2 h3⟩
  have KP : Hid (∀ n W, Tn w b n g L W → (convert 23 9 (.slice (some ⟨g, 0, none⟩) l.length cap)).run Try.prog W = .ok (.string s) W ∧ (convert 23 9 (.slice A l.length c)).run Try.prog W = .ok (.string t) W) := fun n W h => ⟨conv_n (h.row.bytes h.off) HLen.out h1 HS, conv_n (HA.out.own h.own) rfl h1 HT⟩
  replace HN := Lib.hid HN.out.drew
  have hq := HQ2.out
  clear HX HY HL HP HQ HS HT HA HB HLen x1 HQ2
  go_wp2_with fail
  go_region_held3 (fun W => (convert 23 9 (.slice (some ⟨g, 0, none⟩) l.length cap)).run Try.prog W = .ok (.string s) W ∧ (convert 23 9 (.slice A l.length c)).run Try.prog W = .ok (.string t) W)
    (first | exact KP.out _ _ HN.out | exact KP.out _ _ (by assumption))
    (first
      | (go_at_call 13; (with_reducible refine (C1.out _ ?_).mono ?_); (exact HN.out); rintro e w9 ⟨rfl, hO1⟩)
      | (go_at_call 13; (with_reducible refine (C2.out _ ?_).mono ?_); (exact hO1); rintro e w10 ⟨rfl, hO2⟩))
  all_goals
    have HF := Lib.hid hO2
    clear hO2 hO1
    go_wp2_with fail
    go_ret
    exact ⟨rfl, HF.out.own.old⟩

set_option maxRecDepth 100000 in
set_option maxHeartbeats 8000000 in
theorem turns_pos2 (A : Option Addr) (l : List Nat) (c : Nat) (at_ : Int) (x y : Nat) (h1 : 1 ≤ l.length) (h5 : l.length ≤ 500) (hlo : -9223372036854775808 ≤ at_) (hhi : at_ ≤ 9223372036854775807) (hs : 0 ≤ at_) (a : Nat) (ha : at_.tmod (l.length : Int) = (a : Int)) (hal : a < l.length) (hn : a + 1 < l.length) (hx : x < 256) (hy : y < 256) (hb : Cr.Bytes l) (w : World) (hA : InB w A l)
    (X Y : Nat) (HX : Hid (l.getD a 0 = X)) (HY : Hid (l.getD (a + 1) 0 = Y)) (L : List Nat) (HL : Hid (L = (l.set a (X ^^^ x)).set (a + 1) (Y ^^^ y))) (p q : Nat) (HP : Hid (Cr.more 65535 L = p)) (HQ : Hid (Cr.more 65535 l = q)) (s t : ByteArray) (HS : Hid (str L = s)) (HT : Hid (str l = t)) (heq : ((p : Int) == (q : Int)) = (s.toList == t.toList)) :
    Calls Try.prog 6 #[.slice A l.length c, .int .i64 at_, .int .u8 x, .int .u8 y] w fun e w' => e = .returned (.bool true) ∧ Below w.heap.size w w' := by
  have hk0 := And.intro hlo (And.intro hhi (And.intro hy HY))
  clear hk0
  have d1 : ((l.length : Int) == 0) = false := beq_eq_false_iff_ne.2 (by omega)
  have d2 : decide ((500 : Int) < (l.length : Int)) = false := by simp; omega
  have d3 : decide (at_ < 0) = false := by simp; omega
  have d4 : decide ((a : Int) + 1 < (l.length : Int)) = true := by simp; omega
  have hXb : X < 256 := HX.out ▸ getD_byte hb hal
  have x1 := Cb.xor_u8 hXb hx
  have hYb : Y < 256 := HY.out ▸ getD_byte hb hn
  have x2 := Cb.xor_u8 hYb hy
  have HA := Lib.hid hA
  have HB := Lib.hid hb
  have HQ2 := Lib.hid heq
  clear hA hb heq
  go_enter Try.func6, Try.ntmps6
  go_wp2_with fail
  refine (awake_c _).mono ?_
  rintro e w1 ⟨rfl, hbw⟩
  have HE := Lib.hid (own_empty (W := w1) (base := w.heap.size) hbw.size)
  have HW := Lib.hid (hbw.alloc hbw.size (.cells #[] 5))
  have HSZ : Hid (w.heap.size ≤ (w1.alloc (.cells #[] 5)).heap.size) := by have := hbw.size; show _ ≤ _; simp; omega
  clear hbw
  go_wp2_with (first | (at_builtin; refine wpList_append_bytes rfl (.tmp 31) (.tmp 32) rfl w.heap.size _ [] rfl HE.out A l c rfl (HA.out.below HW.out) (by simp; omega) HSZ.out ?_; intro v1 w2 hown hg; simp only [List.nil_append] at hown; replace HW := Lib.hid (HW.out.grown hg HSZ.out (ownBlock_le HE.out)); obtain ⟨g, cap, rfl, _, _⟩ := hown.form (by omega); have HR := Lib.hid (RowB.of_own hown); have e1 := HR.out.1.cell hal; have e2 := HR.out.1.frozen a; rw [HX.out] at e1; have e3 := HR.out.1.cell hn; have e4 := HR.out.1.frozen (a + 1); rw [HY.out] at e3; clear hown hg))
  have HR2 := Lib.hid ((HR.out.1.set hal (X ^^^ x)).set (i := a + 1) (by rw [List.length_set]; exact hn) (Y ^^^ y))
  have HW2 := Lib.hid ((HW.out.setCell (p := ⟨g, a, none⟩) HR.out.2 (.int .u8 ((X ^^^ x : Nat) : Int))).setCell (p := ⟨g, a + 1, none⟩) HR.out.2 (.int .u8 ((Y ^^^ y : Nat) : Int)))
  rw [← HL.out] at HR2
  clear HE HR e1 e2 e3 e4 x2
  generalize (w2.setCell ⟨g, a, none⟩ (.int .u8 ((X ^^^ x : Nat) : Int))).setCell ⟨g, a + 1, none⟩ (.int .u8 ((Y ^^^ y : Nat) : Int)) = W at *
  have HN := Lib.hid (Tn.new HW2.out HR2.out)
  clear HR2 HW2 HW
  refine (new_c _).mono ?_
  rintro e w3 ⟨rfl, hw⟩
  rw [← hw] at HN
  clear hw
  generalize W.heap.size = b at *
  have HLen : Hid (L.length = l.length) := by show L.length = l.length; rw [HL.out]; simp
  have C1 : Hid (∀ W, Tn w b 0 g L W → Calls Try.prog 13 #[.pointer (some ⟨b, 0, none⟩), .slice (some ⟨g, 0, none⟩) l.length cap] W fun e w' => e = .returned (.int .u16 p) ∧ Tn w b 1 g L w') := fun W h => (of_v b 0 (some ⟨g, 0, none⟩) L cap W HP HLen.out (HL.out ▸ set_bytes (set_bytes HB.out (Nat.xor_lt_two_pow (n := 8) hXb hx)) (Nat.xor_lt_two_pow (n := 8) hYb hy)) (by omega) h.own.is (by decide) (h.row.bytes h.off)).mono fun e w' ⟨h1, h2, h3⟩ => ⟨h1, h.step h2 h3⟩
  have C2 : Hid (∀ W, Tn w b 1 g L W → Calls Try.prog 13 #[.pointer (some ⟨b, 0, none⟩), .slice A l.length c] W fun e w' => e = .returned (.int .u16 q) ∧ Tn w b 2 g L w') := fun W h => (of_v b 1 A l c W HQ rfl HB.out (by omega) h.own.is (by decide) (HA.out.own h.own)).mono fun e w' ⟨h1, h2, h3⟩ => ⟨h1, h.step h2 h3⟩
  have KP : Hid (∀ n W, Tn w b n g L W → (convert 23 9 (.slice (some ⟨g, 0, none⟩) l.length cap)).run Try.prog W = .ok (.string s) W ∧ (convert 23 9 (.slice A l.length c)).run Try.prog W = .ok (.string t) W) := fun n W h => ⟨conv_n (h.row.bytes h.off) HLen.out h1 HS, conv_n (HA.out.own h.own) rfl h1 HT⟩
  replace HN := Lib.hid HN.out.drew
  have hq := HQ2.out
  clear HX HY HL HP HQ HS HT HA HB HLen x1 HQ2
  go_wp2_with fail
  go_region_held3 (fun W => (convert 23 9 (.slice (some ⟨g, 0, none⟩) l.length cap)).run Try.prog W = .ok (.string s) W ∧ (convert 23 9 (.slice A l.length c)).run Try.prog W = .ok (.string t) W)
    (first | exact KP.out _ _ HN.out | exact KP.out _ _ (by assumption))
    (first
      | (go_at_call 13; (with_reducible refine (C1.out _ ?_).mono ?_); (exact HN.out); rintro e w9 ⟨rfl, hO1⟩)
      | (go_at_call 13; (with_reducible refine (C2.out _ ?_).mono ?_); (exact hO1); rintro e w10 ⟨rfl, hO2⟩))
  all_goals
    have HF := Lib.hid hO2
    clear hO2 hO1
    go_wp2_with fail
    go_ret
    exact ⟨rfl, HF.out.own.old⟩

set_option maxRecDepth 100000 in
set_option maxHeartbeats 8000000 in
theorem turns_pos1 (A : Option Addr) (l : List Nat) (c : Nat) (at_ : Int) (x y : Nat) (h1 : 1 ≤ l.length) (h5 : l.length ≤ 500) (hlo : -9223372036854775808 ≤ at_) (hhi : at_ ≤ 9223372036854775807) (hs : 0 ≤ at_) (a : Nat) (ha : at_.tmod (l.length : Int) = (a : Int)) (hal : a < l.length) (hn : a + 1 = l.length) (hx : x < 256) (hy : y < 256) (hb : Cr.Bytes l) (w : World) (hA : InB w A l)
    (X Y : Nat) (HX : Hid (l.getD a 0 = X)) (HY : Hid (l.getD (a + 1) 0 = Y)) (L : List Nat) (HL : Hid (L = l.set a (X ^^^ x))) (p q : Nat) (HP : Hid (Cr.more 65535 L = p)) (HQ : Hid (Cr.more 65535 l = q)) (s t : ByteArray) (HS : Hid (str L = s)) (HT : Hid (str l = t)) (heq : ((p : Int) == (q : Int)) = (s.toList == t.toList)) :
    Calls Try.prog 6 #[.slice A l.length c, .int .i64 at_, .int .u8 x, .int .u8 y] w fun e w' => e = .returned (.bool true) ∧ Below w.heap.size w w' := by
  have hk0 := And.intro hlo (And.intro hhi (And.intro hy HY))
  clear hk0
  have d1 : ((l.length : Int) == 0) = false := beq_eq_false_iff_ne.2 (by omega)
  have d2 : decide ((500 : Int) < (l.length : Int)) = false := by simp; omega
  have d3 : decide (at_ < 0) = false := by simp; omega
  have d4 : decide ((a : Int) + 1 < (l.length : Int)) = false := by simp; omega
  have hXb : X < 256 := HX.out ▸ getD_byte hb hal
  have x1 := Cb.xor_u8 hXb hx
  have HA := Lib.hid hA
  have HB := Lib.hid hb
  have HQ2 := Lib.hid heq
  clear hA hb heq
  go_enter Try.func6, Try.ntmps6
  go_wp2_with fail
  refine (awake_c _).mono ?_
  rintro e w1 ⟨rfl, hbw⟩
  have HE := Lib.hid (own_empty (W := w1) (base := w.heap.size) hbw.size)
  have HW := Lib.hid (hbw.alloc hbw.size (.cells #[] 5))
  have HSZ : Hid (w.heap.size ≤ (w1.alloc (.cells #[] 5)).heap.size) := by have := hbw.size; show _ ≤ _; simp; omega
  clear hbw
  go_wp2_with (first | (at_builtin; refine wpList_append_bytes rfl (.tmp 31) (.tmp 32) rfl w.heap.size _ [] rfl HE.out A l c rfl (HA.out.below HW.out) (by simp; omega) HSZ.out ?_; intro v1 w2 hown hg; simp only [List.nil_append] at hown; replace HW := Lib.hid (HW.out.grown hg HSZ.out (ownBlock_le HE.out)); obtain ⟨g, cap, rfl, _, _⟩ := hown.form (by omega); have HR := Lib.hid (RowB.of_own hown); have e1 := HR.out.1.cell hal; have e2 := HR.out.1.frozen a; rw [HX.out] at e1; clear hown hg))
  have HR2 := Lib.hid (HR.out.1.set hal (X ^^^ x))
  have HW2 := Lib.hid (HW.out.setCell (p := ⟨g, a, none⟩) HR.out.2 (.int .u8 ((X ^^^ x : Nat) : Int)))
  rw [← HL.out] at HR2
  clear HE HR e1 e2
  generalize w2.setCell ⟨g, a, none⟩ (.int .u8 ((X ^^^ x : Nat) : Int)) = W at *
  have HN := Lib.hid (Tn.new HW2.out HR2.out)
  clear HR2 HW2 HW
  refine (new_c _).mono ?_
  rintro e w3 ⟨rfl, hw⟩
  rw [← hw] at HN
  clear hw
  generalize W.heap.size = b at *
  have HLen : Hid (L.length = l.length) := by show L.length = l.length; rw [HL.out]; simp
  have C1 : Hid (∀ W, Tn w b 0 g L W → Calls Try.prog 13 #[.pointer (some ⟨b, 0, none⟩), .slice (some ⟨g, 0, none⟩) l.length cap] W fun e w' => e = .returned (.int .u16 p) ∧ Tn w b 1 g L w') := fun W h => (of_v b 0 (some ⟨g, 0, none⟩) L cap W HP HLen.out (HL.out ▸ set_bytes HB.out (Nat.xor_lt_two_pow (n := 8) hXb hx)) (by omega) h.own.is (by decide) (h.row.bytes h.off)).mono fun e w' ⟨h1, h2, h3⟩ => ⟨h1, h.step h2 h3⟩
  have C2 : Hid (∀ W, Tn w b 1 g L W → Calls Try.prog 13 #[.pointer (some ⟨b, 0, none⟩), .slice A l.length c] W fun e w' => e = .returned (.int .u16 q) ∧ Tn w b 2 g L w') := fun W h => (of_v b 1 A l c W HQ rfl HB.out (by omega) h.own.is (by decide) (HA.out.own h.own)).mono fun e w' ⟨h1, h2, h3⟩ => ⟨h1, h.step h2 h3⟩
  have KP : Hid (∀ n W, Tn w b n g L W → (convert 23 9 (.slice (some ⟨g, 0, none⟩) l.length cap)).run Try.prog W = .ok (.string s) W ∧ (convert 23 9 (.slice A l.length c)).run Try.prog W = .ok (.string t) W) := fun n W h => ⟨conv_n (h.row.bytes h.off) HLen.out h1 HS, conv_n (HA.out.own h.own) rfl h1 HT⟩
  replace HN := Lib.hid HN.out.drew
  have hq := HQ2.out
  clear HX HY HL HP HQ HS HT HA HB HLen x1 HQ2
  go_wp2_with fail
  go_region_held3 (fun W => (convert 23 9 (.slice (some ⟨g, 0, none⟩) l.length cap)).run Try.prog W = .ok (.string s) W ∧ (convert 23 9 (.slice A l.length c)).run Try.prog W = .ok (.string t) W)
    (first | exact KP.out _ _ HN.out | exact KP.out _ _ (by assumption))
    (first
      | (go_at_call 13; (with_reducible refine (C1.out _ ?_).mono ?_); (exact HN.out); rintro e w9 ⟨rfl, hO1⟩)
      | (go_at_call 13; (with_reducible refine (C2.out _ ?_).mono ?_); (exact hO1); rintro e w10 ⟨rfl, hO2⟩))
  all_goals
    have HF := Lib.hid hO2
    clear hO2 hO1
    go_wp2_with fail
    go_ret
    exact ⟨rfl, HF.out.own.old⟩

theorem tmod_nat {n : Nat} (hn : 1 ≤ n) {v : Int} (hv : 0 ≤ v) : ∃ a : Nat, v.tmod (n : Int) = (a : Int) ∧ a < n := by
  have h0 : 0 ≤ v.tmod (n : Int) := Int.tmod_nonneg _ hv
  have h2 : v.tmod (n : Int) < (n : Int) := Int.tmod_lt_of_pos v (by omega)
  exact ⟨(v.tmod (n : Int)).toNat, by omega, by omega⟩

theorem CrcTurns_walk (A : Option Addr) (l : List Nat) (c : Nat) (_ : l.length ≤ 9223372036854775807) (_ : l.length ≤ c) (hb : Cr.Bytes l) (at_ : Int) (hw : (Lit.int .i64 at_).wf = true) (x : Nat) (hx : x < 256) (y : Nat) (hy : y < 256) (w : World) (hA : InB w A l) :
    Calls Try.prog 6 #[.slice A l.length c, .int .i64 at_, .int .u8 x, .int .u8 y] w fun e w' => e = .returned (.bool true) ∧ Below w.heap.size w w' := by
  by_cases h : l.length = 0 ∨ 500 < l.length
  · exact turns_long A l c at_ x y h w
  have h1 : 1 ≤ l.length := by omega
  have h5 : l.length ≤ 500 := by omega
  obtain ⟨lo, hi⟩ := i64_lim hw
  by_cases hs : at_ < 0
  · obtain ⟨a, ha, hal⟩ := tmod_nat h1 (v := -(at_ + 1)) (by omega)
    rw [Int.neg_tmod] at ha
    have b1 : Cr.Bytes (l.set a (l.getD a 0 ^^^ x)) := set_bytes hb (Nat.xor_lt_two_pow (n := 8) (getD_byte hb hal) hx)
    by_cases hn : a + 1 < l.length
    · have b2 : Cr.Bytes ((l.set a (l.getD a 0 ^^^ x)).set (a + 1) (l.getD (a + 1) 0 ^^^ y)) := set_bytes b1 (Nat.xor_lt_two_pow (n := 8) (getD_byte hb hn) hy)
      exact turns_neg2 A l c at_ x y h1 h5 lo hi hs a ha hal hn hx hy hb w hA _ _ rfl rfl _ rfl _ _ rfl rfl _ _ rfl rfl (str_beq b2 hb (turn_two hn hb hx hy))
    · exact turns_neg1 A l c at_ x y h1 h5 lo hi hs a ha hal (by omega) hx hy hb w hA _ _ rfl rfl _ rfl _ _ rfl rfl _ _ rfl rfl (str_beq b1 hb (turn_one hal hb hx))
  · obtain ⟨a, ha, hal⟩ := tmod_nat h1 (v := at_) (by omega)
    have b1 : Cr.Bytes (l.set a (l.getD a 0 ^^^ x)) := set_bytes hb (Nat.xor_lt_two_pow (n := 8) (getD_byte hb hal) hx)
    by_cases hn : a + 1 < l.length
    · have b2 : Cr.Bytes ((l.set a (l.getD a 0 ^^^ x)).set (a + 1) (l.getD (a + 1) 0 ^^^ y)) := set_bytes b1 (Nat.xor_lt_two_pow (n := 8) (getD_byte hb hn) hy)
      exact turns_pos2 A l c at_ x y h1 h5 lo hi (by omega) a ha hal hn hx hy hb w hA _ _ rfl rfl _ rfl _ _ rfl rfl _ _ rfl rfl (str_beq b2 hb (turn_two hn hb hx hy))
    · exact turns_pos1 A l c at_ x y h1 h5 lo hi (by omega) a ha hal (by omega) hx hy hb w hA _ _ rfl rfl _ rfl _ _ rfl rfl _ _ rfl rfl (str_beq b1 hb (turn_one hal hb hx))
end Crc
end Go.Proofs.Ytikpmiphjaciiaa
