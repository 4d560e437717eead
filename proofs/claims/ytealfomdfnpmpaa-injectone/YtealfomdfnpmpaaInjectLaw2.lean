/- The walk of InjectStays. -/
import Derived.Test.YtealfomdfnpmpaaInjectLaw1
namespace Go.Proofs.Ytealfomdfnpmpaa
namespace Jw
open Go.RowKit Nj

/-- Is one of the first m there? -/
def any (L : List Flt) (fr : Int) (m : Nat) : Bool := (L.take m).any (onB · fr)
theorem any_succ {L : List Flt} {fr : Int} {m : Nat} (h : m < L.length) : any L fr (m + 1) = (any L fr m || onB (L.getD m zero) fr) := by
  unfold any; rw [take_snoc h, List.any_append]; simp
theorem any_off {L : List Flt} {fr : Int} (h : any L fr L.length = false) : ∀ j ∈ L, ¬ On j fr := by
  unfold any at h
  rw [List.take_length, List.any_eq_false] at h
  intro j hj ho
  exact h j hj (onB_t ho)

set_option maxRecDepth 100000 in
set_option maxHeartbeats 8000000 in
theorem InjectStays_walk (A : Option Addr) (n cp : Nat) (L : List Flt) (hn : L.length = n) (fr la c : Int) (hc : 0 ≤ c ∧ c ≤ 65535) (w : World) (hA : Fls w A L) :
    Calls Try.prog 5 #[.slice A n cp, .int .i64 fr, .int .i64 la, .int .u16 c] w fun e w' => e = .returned (.bool true) ∧ Below w.heap.size w w' := by
  have HA := Lib.hid hA
  have HN := Lib.hid hn
  clear hA hn
  have w0 : IntKind.i64.wrap c = c := IntWalk.i64_in _ (by omega)
  by_cases h30 : 30 < n
  · have d0 : decide ((30 : Int) < (n : Int)) = true := by simp; omega
    go_enter Try.func5, Try.ntmps5
    go_wp2_with (first | (go_at_call 8; refine (awake_c _).mono ?_; rintro e W ⟨rfl, hb⟩; have HB := Lib.hid hb; clear hb) | fail)
    go_ret
    exact ⟨rfl, HB.out⟩
  · have d0 : decide ((30 : Int) < (n : Int)) = false := by simp; omega
    go_enter Try.func5, Try.ntmps5
    go_wp2_with (first | (go_at_call 8; refine (awake_c _).mono ?_; rintro e W1 ⟨rfl, hb⟩; have HB1 := Lib.hid hb; clear hb) | fail)
    go_loopw [10, 11] (fun t i wr => ∃ (m : Nat) (q : Bool), m ≤ n ∧ i = .int .i64 m ∧ t = .bool q ∧ any L fr m = q ∧ Below w.heap.size w wr) (fun _ i _ => n - (intOf i).toNat)
    case atStart => exact ⟨0, false, Nat.zero_le _, rfl, rfl, rfl, HB1.out⟩
    case round =>
      obtain ⟨m, q, hm, rfl, rfl, hq, hb⟩ := hrel
      have HB := Lib.hid hb
      clear hb
      by_cases hlt : m < n
      · obtain ⟨b, o, rfl, hbl, hr0⟩ := HA.out.at_ m (by rw [HN.out]; exact hlt)
        have HQ := Lib.hid (any_succ (fr := fr) (L := L) (m := m) (by rw [HN.out]; exact hlt))
        rw [hq] at HQ
        obtain ⟨k, s, f, l, ej⟩ := getD_eta L m
        rw [ej] at hr0 HQ
        have HR := Lib.hid (fun W (hb : Below w.heap.size w W) => range_below hb hbl hr0)
        obtain ⟨r2, e2⟩ : ∃ r, onB ⟨k, s, f, l⟩ fr = r := ⟨_, rfl⟩
        have C2 := Lib.hid (on_v e2)
        rw [e2] at HQ
        clear hr0 ej e2 hq
        cases q with
        | true =>
          go_wp2_with fail
          go_roundw
          case rel => exact ⟨m + 1, true, by omega, by go_num, rfl, HQ.out, HB.out⟩
          case measure => simp [intOf]; omega
        | false =>
          go_wp2_with (first | (refine ldm rfl _ rfl _ _ _ _ _ _ rfl (HR.out _ HB.out) ?_) | (go_at_call 11; (with_reducible refine (C2.out _).mono ?_); rintro e W ⟨rfl, hb⟩; replace HB := Lib.hid (grew HB.out hb); clear hb C2) | fail)
          go_roundw
          case rel => exact ⟨m + 1, r2, by omega, by go_num, rfl, HQ.out.trans (by simp), HB.out⟩
          case measure => simp [intOf]; omega
      · obtain rfl : m = n := by omega
        have hv0 := ap_in L fr la c
        obtain ⟨v, hv⟩ : ∃ v, ap L fr la c = v := ⟨_, rfl⟩
        rw [hv] at hv0
        obtain ⟨v1, v2⟩ := hv0
        have C := Lib.hid (fun W hA => apply_v (A := A) (cp := cp) hv HN.out W hA)
        cases q with
        | true =>
          clear hv hq
          go_wp2_with (first
            | (go_at_call 13; (with_reducible refine (C.out _ (HA.out.below HB.out)).mono ?_); rintro e W ⟨rfl, hb⟩; replace HB := Lib.hid (grew HB.out hb); clear hb C)
            | fail)
          go_ret
          exact ⟨rfl, HB.out⟩
        | false =>
          have ev : v = c := by rw [← hv, ap_off L (any_off (by rw [HN.out]; exact hq)), cl_id hc]
          clear hv hq
          subst ev
          go_wp2_with (first
            | (go_at_call 13; (with_reducible refine (C.out _ (HA.out.below HB.out)).mono ?_); rintro e W ⟨rfl, hb⟩; replace HB := Lib.hid (grew HB.out hb); clear hb C)
            | fail)
          go_ret
          exact ⟨rfl, HB.out⟩
end Jw
end Go.Proofs.Ytealfomdfnpmpaa
