/- The walk of CrcGoes. -/
import Derived.Test.YtikpmiphjaciiaaCrcAppend
namespace Go.Proofs.Ytikpmiphjaciiaa
namespace Crc
open Go.RowKit

set_option maxRecDepth 100000 in
set_option maxHeartbeats 1600000 in
theorem goes_long (s : Nat) (A : Option Addr) (l : List Nat) (c : Nat) (B : Option Addr) (m : List Nat) (cb : Nat) (w : World) (hf : 1000 < l.length ∨ 1000 < m.length) :
    Calls Try.prog 4 #[.int .u16 s, .slice A l.length c, .slice B m.length cb] w fun e w' => e = .returned (.bool true) ∧ Below w.heap.size w w' := by
  by_cases h1 : 1000 < l.length
  · have d1 : decide ((1000 : Int) < (l.length : Int)) = true := by simp; omega
    clear hf
    go_enter Try.func4, Try.ntmps4
    go_wp2_with fail
    refine (awake_c _).mono ?_
    rintro e w1 ⟨rfl, hb⟩
    have HN := Lib.hid hb
    clear hb
    go_wp2_with fail
    go_ret
    exact ⟨rfl, HN.out⟩
  · have d1 : decide ((1000 : Int) < (l.length : Int)) = false := by simp; omega
    have d2 : decide ((1000 : Int) < (m.length : Int)) = true := by simp; omega
    clear hf
    go_enter Try.func4, Try.ntmps4
    go_wp2_with fail
    refine (awake_c _).mono ?_
    rintro e w1 ⟨rfl, hb⟩
    have HN := Lib.hid hb
    clear hb
    go_wp2_with fail
    go_ret
    exact ⟨rfl, HN.out⟩

theorem app_bytes {a b : List Nat} (ha : Cr.Bytes a) (hb : Cr.Bytes b) : Cr.Bytes (a ++ b) := fun v hv => (List.mem_append.1 hv).elim (ha v) (hb v)

set_option maxRecDepth 100000 in
set_option maxHeartbeats 3200000 in
theorem goes_ok (s : Nat) (hs : s < 65536) (A : Option Addr) (l : List Nat) (c : Nat) (B : Option Addr) (m : List Nat) (cb : Nat) (hl : l.length ≤ 1000) (hm : m.length ≤ 1000) (hb : Cr.Bytes l) (hbm : Cr.Bytes m) (w : World) (hA : InB w A l) (hB : InB w B m) :
    Calls Try.prog 4 #[.int .u16 s, .slice A l.length c, .slice B m.length cb] w fun e w' => e = .returned (.bool true) ∧ Below w.heap.size w w' := by
  have d1 : decide ((1000 : Int) < (l.length : Int)) = false := by simp; omega
  have d2 : decide ((1000 : Int) < (m.length : Int)) = false := by simp; omega
  have HA := Lib.hid hA
  have HB := Lib.hid hb
  have HC := Lib.hid hB
  have HD := Lib.hid hbm
  have E := Lib.hid (Cr.more_append s l m)
  clear hA hb hB hbm
  go_enter Try.func4, Try.ntmps4
  go_wp2_with fail
  refine (awake_c _).mono ?_
  rintro e w1 ⟨rfl, hb⟩
  have HN := Lib.hid (Own.new_after hb)
  clear hb
  go_wp2_with fail
  refine (new_c _).mono ?_
  rintro e w2 ⟨rfl, hw⟩
  rw [← hw] at HN
  clear hw
  generalize w1.heap.size = b at *
  go_wp2_with fail
  refine (more_c b _ s A l c _ hs HB.out (by omega) HN.out.is (by decide) (HA.out.own HN.out)).mono ?_
  rintro e w3 ⟨rfl, hi, ho⟩
  replace HN := Lib.hid (HN.out.step hi ho)
  clear hi ho
  go_wp2_with fail
  refine (more_c b _ _ B m cb _ (Cr.more_lt hs HB.out) HD.out (by omega) HN.out.is (by decide) (HC.out.own HN.out)).mono ?_
  rintro e w4 ⟨rfl, hi, ho⟩
  replace HN := Lib.hid (HN.out.step hi ho)
  clear hi ho
  rw [← E.out]
  have HE := Lib.hid (own_empty (W := w4) (base := b + 1) HN.out.is.lt)
  have hsz := HN.out.is.lt
  replace HN := Lib.hid (HN.out.alloc (.cells #[] 5))
  go_wp2_with (first | (at_builtin; refine wpList_append_bytes rfl (.tmp 31) (.tmp 32) rfl (b + 1) _ [] rfl HE.out A l c rfl (HA.out.below HN.out.old) (by simp; omega) HN.out.is.lt ?_; intro v1 w5 hown1 hg1; simp only [List.nil_append] at hown1; replace HN := Lib.hid (HN.out.grown hg1 (ownBlock_le HE.out)); have HO1 := Lib.hid hown1; clear hown1 hg1) | (at_builtin; refine wpList_append_bytes rfl (.tmp 33) (.tmp 34) rfl (b + 1) _ l rfl HO1.out B m cb rfl (HC.out.below HN.out.old) (by omega) HN.out.is.lt ?_; intro v2 w6 hown2 hg2; replace HN := Lib.hid (HN.out.grown hg2 (ownBlock_le HO1.out)); obtain ⟨A2, c2, rfl, hA2, _⟩ := own_bytes hown2; have HX := Lib.hid hA2; clear hown2 hg2 hA2))
  refine (more_n b _ s A2 (l ++ m) c2 _ List.length_append hs (app_bytes HB.out HD.out) (by omega) HN.out.is (by decide) HX.out).mono ?_
  rintro e w7 ⟨rfl, hi, ho⟩
  replace HN := Lib.hid (HN.out.step hi ho)
  clear hi ho
  go_wp2_with fail
  go_ret
  exact ⟨rfl, HN.out.old⟩

theorem CrcGoes_walk (s : Nat) (hs : s < 65536) (A : Option Addr) (l : List Nat) (c : Nat) (_ : l.length ≤ 9223372036854775807) (_ : l.length ≤ c) (hb : Cr.Bytes l) (B : Option Addr) (m : List Nat) (cb : Nat) (_ : m.length ≤ 9223372036854775807) (_ : m.length ≤ cb) (hbm : Cr.Bytes m) (w : World) (hA : InB w A l) (hB : InB w B m) :
    Calls Try.prog 4 #[.int .u16 s, .slice A l.length c, .slice B m.length cb] w fun e w' => e = .returned (.bool true) ∧ Below w.heap.size w w' := by
  by_cases h : 1000 < l.length ∨ 1000 < m.length
  · exact goes_long s A l c B m cb w h
  · exact goes_ok s hs A l c B m cb (by omega) (by omega) hb hbm w hA hB
end Crc
end Go.Proofs.Ytikpmiphjaciiaa
