/- The walk of CrcTells. -/
import Derived.Test.YtikpmiphjaciiaaCrcAwake
namespace Go.Proofs.Ytikpmiphjaciiaa
namespace Crc
open Go.RowKit Go.WideShapes Go.ChangeShapes Go.ChangeAt

/-- Bytes that came in. -/
def InB (w : World) (A : Option Addr) (l : List Nat) : Prop := ∀ i, i < l.length → ∃ c o, A = some ⟨c, o, none⟩ ∧ w.cell? ⟨c, o + i, none⟩ = some (.int .u8 (l.getD i 0 : Nat))

theorem u8_nat {v : Int} (h : (Lit.int .u8 v).wf = true) : ∃ n : Nat, v = n ∧ n < 256 := by
  simp only [Lit.wf, IntKind.min, IntKind.max, IntKind.signed, IntKind.bits, Bool.and_eq_true, decide_eq_true_eq, Bool.false_eq_true, if_false] at h
  exact ⟨v.toNat, by omega, by omega⟩
theorem u16_nat {v : Int} (h : (Lit.int .u16 v).wf = true) : ∃ n : Nat, v = n ∧ n < 65536 := by
  simp only [Lit.wf, IntKind.min, IntKind.max, IntKind.signed, IntKind.bits, Bool.and_eq_true, decide_eq_true_eq, Bool.false_eq_true, if_false] at h
  exact ⟨v.toNat, by omega, by omega⟩
theorem i64_lim {v : Int} (h : (Lit.int .i64 v).wf = true) : -9223372036854775808 ≤ v ∧ v ≤ 9223372036854775807 := by
  simp only [Lit.wf, IntKind.min, IntKind.max, IntKind.signed, IntKind.bits, Bool.and_eq_true, decide_eq_true_eq, if_true] at h
  omega

theorem cellsByte : Try.prog.cellsOf 5 = 1 := by kernel_rfl
theorem bytes_of_ints {w : World} {A : Option Addr} {l : List Int} (h : Lk.IntsAt w .u8 A l) (hw : ∀ n ∈ l, (Lit.int .u8 n).wf = true) : ∃ m : List Nat, m.length = l.length ∧ Cr.Bytes m ∧ InB w A m := by
  refine ⟨l.map Int.toNat, by simp, fun v hv => ?_, fun i hi => ?_⟩
  · obtain ⟨z, hz, rfl⟩ := List.mem_map.1 hv
    obtain ⟨n, rfl, hn⟩ := u8_nat (hw z hz)
    simpa using hn
  · have hi' : i < l.length := by simpa using hi
    obtain ⟨c, o, e, hc⟩ := h i hi'
    refine ⟨c, o, e, hc.trans ?_⟩
    obtain ⟨n, hn, _⟩ := u8_nat (hw l[i] (List.getElem_mem _))
    simp [hi', hn]

section
variable {H : Type} {enc : TypeId × Value → H}
/-- A slice of bytes that came in. -/
theorem open_bytes {W : World} {base : Nat} {v : Value} {d : DataW H} {ps : List MemPlace} (hv : Value.okWide Try.prog W .any base 23 v) (h : DataW.Trod enc Try.prog W 0 (fun _ => true) true 23 v d ps) :
    ∃ (A : Option Addr) (l : List Nat) (cap : Nat), v = .slice A l.length cap ∧ l.length ≤ 9223372036854775807 ∧ l.length ≤ cap ∧ Cr.Bytes l ∧ InB W A l := by
  obtain ⟨A, l, c, rfl, hlc, hm, hI, hw⟩ := Lk.open_ints_any Try.underlying23 Try.underlying5 cellsByte hv h
  obtain ⟨m, hl, hb, hi⟩ := bytes_of_ints hI hw
  exact ⟨A, m, c, by rw [hl], by unfold maxLen at hm; omega, by omega, hb, hi⟩
end

theorem InB.own {w W : World} {b n : Nat} {A : Option Addr} {l : List Nat} (h : InB w A l) (ho : Own w.heap.size b n w W) : BytesAt W b A l := by
  intro i hi
  obtain ⟨c, o, e, hc⟩ := h i hi
  have hlt : c < w.heap.size := World.block_lt_of_cell? _ _ hc
  have := ho.le
  exact ⟨c, o, e, by omega, (ho.old.cell (p := ⟨c, o + i, none⟩) hlt).trans hc⟩
theorem Own.new_after {w W : World} (hb : Below w.heap.size w W) : Own w.heap.size W.heap.size 0 w (W.alloc (.cells Z 55)) := ⟨new_is W, hb.size, hb.alloc hb.size _⟩

set_option maxRecDepth 100000 in
set_option maxHeartbeats 1600000 in
theorem CrcTells_walk (s : Nat) (hs : s < 65536) (A : Option Addr) (l : List Nat) (c : Nat) (hl : l.length ≤ 9223372036854775807) (_ : l.length ≤ c) (hb : Cr.Bytes l) (w : World) (hA : InB w A l) :
    Calls Try.prog 3 #[.int .u16 s, .slice A l.length c] w fun e w' => e = .returned (.bool true) ∧ Below w.heap.size w w' := by
  have HA := Lib.hid hA
  have HB := Lib.hid hb
  clear hA hb
  by_cases hf : l.length ≤ 1000
  · have d1 : decide ((1000 : Int) < (l.length : Int)) = false := by simp; omega
    go_enter Try.func3, Try.ntmps3
    go_wp2_with fail
    refine (awake_c _).mono ?_
    rintro e w1 ⟨rfl, hb⟩
    have HN := Lib.hid (Own.new_after hb)
    clear hb
    go_wp2_with fail
    refine (new_c _).mono ?_
    rintro e w2 ⟨rfl, hw⟩
    rw [← hw] at HN
    clear hw
    generalize w1.heap.size = b at *
    go_wp2_with fail
    refine (more_c b _ s A l c _ hs HB.out hl HN.out.is (by decide) (HA.out.own HN.out)).mono ?_
    rintro e w3 ⟨rfl, hi, ho⟩
    replace HN := Lib.hid (HN.out.step hi ho)
    clear hi ho
    go_wp2_with fail
    refine (rmore_c b s A l c _ hs HB.out hl (HA.out.own HN.out)).mono ?_
    rintro e w4 ⟨rfl, rfl⟩
    go_wp2_with fail
    refine (of_c b _ A l c _ HB.out hl HN.out.is (by decide) (HA.out.own HN.out)).mono ?_
    rintro e w5 ⟨rfl, hi, ho⟩
    replace HN := Lib.hid (HN.out.step hi ho)
    clear hi ho
    go_wp2_with fail
    refine (rmore_c b 65535 A l c _ (by decide) HB.out hl (HA.out.own HN.out)).mono ?_
    rintro e w6 ⟨rfl, rfl⟩
    go_wp2_with fail
    go_ret
    exact ⟨rfl, HN.out.old⟩
  · have d1 : decide ((1000 : Int) < (l.length : Int)) = true := by simp; omega
    go_enter Try.func3, Try.ntmps3
    go_wp2_with fail
    refine (awake_c _).mono ?_
    rintro e w1 ⟨rfl, hb⟩
    have HN := Lib.hid hb
    clear hb
    go_wp2_with fail
    go_ret
    exact ⟨rfl, HN.out⟩
end Crc
end Go.Proofs.Ytikpmiphjaciiaa
