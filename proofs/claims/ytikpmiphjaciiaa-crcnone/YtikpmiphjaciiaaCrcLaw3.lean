/- The walk of CrcNone. -/
import Derived.Test.YtikpmiphjaciiaaCrcLaw2
namespace Go.Proofs.Ytikpmiphjaciiaa
namespace Crc
open Go.RowKit

set_option maxRecDepth 100000 in
set_option maxHeartbeats 1600000 in
theorem none_long (s t x : Nat) (A : Option Addr) (l : List Nat) (c : Nat) (w : World) (hf : 500 < l.length) :
    Calls Try.prog 8 #[.int .u16 s, .int .u16 t, .int .u8 x, .slice A l.length c] w fun e w' => e = .returned (.bool true) ∧ Below w.heap.size w w' := by
  have d1 : decide ((500 : Int) < (l.length : Int)) = true := by simp; omega
  go_enter Try.func8, Try.ntmps8
  go_wp2_with fail
  refine (awake_c _).mono ?_
  rintro e w1 ⟨rfl, hb⟩
  have HN := Lib.hid hb
  clear hb
  go_wp2_with fail
  go_ret
  exact ⟨rfl, HN.out⟩

theorem one_bytes {x : Nat} (hx : x < 256) : Cr.Bytes [x] := fun v hv => by simp at hv; omega
theorem two_bytes' {x y : Nat} (hx : x < 256) (hy : y < 256) : Cr.Bytes [x, y] := fun v hv => by simp at hv; omega
theorem more_one (s x : Nat) : Cr.more s [x] = Cr.byt s x := by rw [Cr.more_cons, Cr.more_nil]

theorem more_1 (b n s x p : Nat) (hp : Hid (Cr.byt s x = p)) (A : Option Addr) (w : World) (hs : s < 65536) (hx : x < 256) (h : Is w b n) (hn : n + 1 < 4611686018427387904) (hA : BytesAt w b A [x]) :
    Calls Try.prog 11 #[.pointer (some ⟨b, 0, none⟩), .int .u16 s, .slice A 1 1] w fun e w' => e = .returned (.int .u16 p) ∧ Is w' b (n + 1) ∧ Off b w w' := by
  have := more_n (N := 1) b n s A [x] 1 w rfl hs (one_bytes hx) (by decide) h hn hA
  rwa [more_one, hp.out] at this
theorem of_own (b n k : Nat) (A : Option Addr) (l : List Nat) (c : Nat) (w : World) (hl : l.length ≤ 500) (hb : Cr.Bytes l) (hk : Hid (Cr.more 65535 l = k)) (hk6 : k < 65536) (h : Is w b n) (hn : n + 1 < 4611686018427387904) (hA : BytesAt w b A (l ++ [k / 256, k % 256])) :
    Calls Try.prog 13 #[.pointer (some ⟨b, 0, none⟩), .slice A (l.length + 2) c] w fun e w' => e = .returned (.int .u16 0) ∧ Is w' b (n + 1) ∧ Off b w w' := by
  have e := Cr.own_more hb
  rw [hk.out] at e
  have := of_n (N := l.length + 2) b n A _ c w (by simp) (app_bytes hb (two_bytes' (by omega) (by omega))) (by omega) h hn hA
  rwa [e] at this

theorem src_two (W : World) (k : Nat) : InB (W.alloc (.cells #[.int .u8 ((k : Int) / 256), .int .u8 ((k : Int) % 256)] 5)) (some ⟨W.heap.size, 0, none⟩) [k / 256, k % 256] := by
  intro i hi
  refine ⟨W.heap.size, 0, rfl, ?_⟩
  rw [Nat.zero_add, World.cell?_alloc_mark]
  have : i = 0 ∨ i = 1 := by simp at hi; omega
  rcases this with rfl | rfl <;> simp

set_option maxRecDepth 100000 in
set_option maxHeartbeats 3200000 in
theorem none_ok (s : Nat) (hs : s < 65536) (t : Nat) (ht : t < 65536) (x : Nat) (hx : x < 256) (A : Option Addr) (l : List Nat) (c : Nat) (hl : l.length ≤ 500) (hb : Cr.Bytes l) (w : World) (hA : InB w A l) (p q k : Nat)
    (HP : Hid (Cr.byt s x = p)) (HQ : Hid (Cr.byt t x = q)) (HK : Hid (Cr.more 65535 l = k)) (hk : k < 65536) (heq : ((p : Int) == (q : Int)) = ((s : Int) == (t : Int))) :
    Calls Try.prog 8 #[.int .u16 s, .int .u16 t, .int .u8 x, .slice A l.length c] w fun e w' => e = .returned (.bool true) ∧ Below w.heap.size w w' := by
  have d1 : decide ((500 : Int) < (l.length : Int)) = false := by simp; omega
  have HA := Lib.hid hA
  have HB := Lib.hid hb
  clear hA hb
  go_enter Try.func8, Try.ntmps8
  go_wp2_with fail
  refine (awake_c _).mono ?_
  rintro e w1 ⟨rfl, hb⟩
  have HN := Lib.hid (Own.new_after hb)
  clear hb
  go_wp2_with fail
  refine (new_c _).mono ?_
  rintro e w2 ⟨rfl, hw⟩
  rw [← hw] at HN
  clear hw
  generalize w1.heap.size = b at *
  go_wp2_with fail
  refine (of_c b _ A l c _ HB.out (by omega) HN.out.is (by decide) (HA.out.own HN.out)).mono ?_
  rintro e w3 ⟨rfl, hi, ho⟩
  replace HN := Lib.hid (HN.out.step hi ho)
  clear hi ho
  rw [HK.out]
  go_wp2_with fail
  refine (more_nil s b _ hs _ HN.out.is (by decide)).mono ?_
  rintro e w4 ⟨rfl, hi, ho⟩
  replace HN := Lib.hid (HN.out.step hi ho)
  clear hi ho
  have HX : Hid (BytesAt (w4.alloc (.cells #[.int .u8 x] 5)) b (some ⟨w4.heap.size, 0, none⟩) [x]) := bytes_new _ HN.out.is.lt _ rfl
  replace HN := Lib.hid (HN.out.alloc (.cells #[.int .u8 x] 5))
  go_wp2_with fail
  refine (more_1 b _ s x p HP _ _ hs hx HN.out.is (by decide) HX.out).mono ?_
  rintro e w5 ⟨rfl, hi, ho⟩
  replace HN := Lib.hid (HN.out.step hi ho)
  clear hi ho HX
  have HX : Hid (BytesAt (w5.alloc (.cells #[.int .u8 x] 5)) b (some ⟨w5.heap.size, 0, none⟩) [x]) := bytes_new _ HN.out.is.lt _ rfl
  replace HN := Lib.hid (HN.out.alloc (.cells #[.int .u8 x] 5))
  go_wp2_with fail
  refine (more_1 b _ t x q HQ _ _ ht hx HN.out.is (by decide) HX.out).mono ?_
  rintro e w6 ⟨rfl, hi, ho⟩
  replace HN := Lib.hid (HN.out.step hi ho)
  clear hi ho HX
  have HE := Lib.hid (own_empty (W := w6) (base := b + 1) HN.out.is.lt)
  replace HN := Lib.hid (HN.out.alloc (.cells #[] 5))
  go_wp2_with (first | (at_builtin; refine wpList_append_bytes rfl (.tmp 48) (.tmp 49) rfl (b + 1) _ [] rfl HE.out A l c rfl (HA.out.below HN.out.old) (by simp; omega) HN.out.is.lt ?_; intro v1 w7 hown1 hg1; simp only [List.nil_append] at hown1; replace HN := Lib.hid (HN.out.grown hg1 (ownBlock_le HE.out)); have HO1 := Lib.hid hown1; clear hown1 hg1) | (at_builtin; refine wpList_append_bytes rfl (.tmp 50) (.tmp 56) rfl (b + 1) _ l rfl (HO1.out.alloc _) _ [k / 256, k % 256] 2 rfl (src_two w7 k) (by simp; omega) (HN.out.alloc _).is.lt ?_; intro v2 w8 hown2 hg2; replace HN := Lib.hid ((HN.out.alloc _).grown hg2 (ownBlock_le HO1.out)); obtain ⟨A2, c2, rfl, hA2, _⟩ := own_bytes hown2; have HX := Lib.hid hA2; clear hown2 hg2 hA2))
  refine (of_own b _ k A2 l c2 _ hl HB.out HK hk HN.out.is (by decide) HX.out).mono ?_
  rintro e w9 ⟨rfl, hi, ho⟩
  replace HN := Lib.hid (HN.out.step hi ho)
  clear hi ho
  go_wp2_with fail
  go_ret
  exact ⟨rfl, HN.out.old⟩

theorem CrcNone_walk (s : Nat) (hs : s < 65536) (t : Nat) (ht : t < 65536) (x : Nat) (hx : x < 256) (A : Option Addr) (l : List Nat) (c : Nat) (_ : l.length ≤ 9223372036854775807) (_ : l.length ≤ c) (hb : Cr.Bytes l) (w : World) (hA : InB w A l) :
    Calls Try.prog 8 #[.int .u16 s, .int .u16 t, .int .u8 x, .slice A l.length c] w fun e w' => e = .returned (.bool true) ∧ Below w.heap.size w w' := by
  by_cases h : 500 < l.length
  · exact none_long s t x A l c w h
  · refine none_ok s hs t ht x hx A l c (by omega) hb w hA _ _ _ rfl rfl rfl (Cr.more_lt (by decide) hb) ?_
    have e := Cr.byt_inj hs ht hx
    generalize Cr.byt s x = p at *
    generalize Cr.byt t x = q at *
    by_cases c1 : s = t
    · rw [beq_iff_eq.2 (by rw [e.2 c1] : (p : Int) = q), beq_iff_eq.2 (by rw [c1] : (s : Int) = t)]
    · have : ¬ p = q := fun h => c1 (e.1 h)
      rw [beq_eq_false_iff_ne.2 (by omega : (p : Int) ≠ q), beq_eq_false_iff_ne.2 (by omega : (s : Int) ≠ t)]
end Crc
end Go.Proofs.Ytikpmiphjaciiaa
