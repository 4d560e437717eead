/- The walks of InjectNames, InjectTells. -/
import Derived.Test.YtealfomdfnpmpaaInjectAwake
namespace Go.Proofs.Ytealfomdfnpmpaa
namespace Jw
open Go.RowKit Nj

theorem rapply_v {A : Option Addr} {n cp : Nat} {L : List Flt} {fr la c v : Int} (hv : ap L fr la c = v) (hn : L.length = n) (w : World) (hA : Fls w A L) :
    Calls Try.prog 14 #[.slice A n cp, .int .i64 fr, .int .i64 la, .int .i64 c] w fun e w' => e = .returned (.int .i64 v) ∧ Below w.heap.size w w' := hv ▸ rapply_c A n cp L fr la c hn w hA
theorem ron_v {k s f l fr : Int} {v : Bool} (hv : onB ⟨k, s, f, l⟩ fr = v) (w : World) : Calls Try.prog 12 #[.agg (fc k s f l), .int .i64 fr] w fun e w' => e = .returned (.bool v) ∧ Below w.heap.size w w' := hv ▸ ron_c k s f l fr w
theorem rcheck_v {k s f l v : Int} (hv : err ⟨k, s, f, l⟩ = v) (w : World) : Calls Try.prog 10 #[.agg (fc k s f l)] w fun e w' => e = .returned (.int .i64 v) ∧ Below w.heap.size w w' := hv ▸ rcheck_c k s f l w
theorem grew {w W W' : World} (h : Below w.heap.size w W) (k : Below W.heap.size W W') : Below w.heap.size w W' := h.trans (k.mono h.size)

set_option maxRecDepth 100000 in
theorem InjectNames_walk (w : World) : Calls Try.prog 3 #[] w fun e w' => e = .returned (.bool true) ∧ Below w.heap.size w w' := by
  go_enter Try.func3, Try.ntmps3
  go_wp2_with (first | (go_at_call 8; refine (awake_c _).mono ?_; rintro e W ⟨rfl, hb⟩; have HB := Lib.hid hb; clear hb) | fail)
  go_ret
  exact ⟨rfl, HB.out⟩

set_option maxRecDepth 100000 in
set_option maxHeartbeats 8000000 in
theorem InjectTells_walk (A : Option Addr) (n cp : Nat) (L : List Flt) (hn : L.length = n) (fr la c : Int) (w : World) (hA : Fls w A L) :
    Calls Try.prog 4 #[.slice A n cp, .int .i64 fr, .int .i64 la, .int .i64 c] w fun e w' => e = .returned (.bool true) ∧ Below w.heap.size w w' := by
  have HA := Lib.hid hA
  have HN := Lib.hid hn
  clear hA hn
  by_cases h30 : 30 < n
  · have d0 : decide ((30 : Int) < (n : Int)) = true := by simp; omega
    go_enter Try.func4, Try.ntmps4
    go_wp2_with (first | (go_at_call 8; refine (awake_c _).mono ?_; rintro e W ⟨rfl, hb⟩; have HB := Lib.hid hb; clear hb) | fail)
    go_ret
    exact ⟨rfl, HB.out⟩
  · have d0 : decide ((30 : Int) < (n : Int)) = false := by simp; omega
    go_enter Try.func4, Try.ntmps4
    go_wp2_with (first | (go_at_call 8; refine (awake_c _).mono ?_; rintro e W1 ⟨rfl, hb⟩; have HB1 := Lib.hid hb; clear hb) | fail)
    go_loopw [10] (fun i wr => ∃ m : Nat, m ≤ n ∧ i = .int .i64 m ∧ Below w.heap.size w wr) (fun i _ => n - (intOf i).toNat)
    case atStart => exact ⟨0, Nat.zero_le _, rfl, HB1.out⟩
    case round =>
      obtain ⟨m, hm, rfl, hb⟩ := hrel
      have HB := Lib.hid hb
      clear hb
      by_cases hlt : m < n
      · obtain ⟨b, o, rfl, hbl, hr0⟩ := HA.out.at_ m (by rw [HN.out]; exact hlt)
        obtain ⟨k, s, f, l, ej⟩ := getD_eta L m
        rw [ej] at hr0
        have HR : Hid (∀ W, Below w.heap.size w W → W.cell? ⟨b, o + m * 4, none⟩ = some (.int .i64 k) ∧ W.cell? ⟨b, o + m * 4 + 1, none⟩ = some (.int .i64 s) ∧ W.cell? ⟨b, o + m * 4 + 2, none⟩ = some (.int .i64 f) ∧ W.cell? ⟨b, o + m * 4 + 3, none⟩ = some (.int .i64 l)) := fun W hb => range_cells (range_below hb hbl hr0)
        obtain ⟨r1, e1⟩ : ∃ r, err ⟨k, s, f, l⟩ = r := ⟨_, rfl⟩
        obtain ⟨r2, e2⟩ : ∃ r, onB ⟨k, s, f, l⟩ fr = r := ⟨_, rfl⟩
        have C1 := Lib.hid (check_v e1)
        have D1 := Lib.hid (rcheck_v e1)
        have C2 := Lib.hid (on_v e2)
        have D2 := Lib.hid (ron_v e2)
        clear hr0 ej e1 e2
        go_wp2_with fail
        go_region_held3 (fun V => V.cell? ⟨b, o + m * 4, none⟩ = some (.int .i64 k) ∧ V.cell? ⟨b, o + m * 4 + 1, none⟩ = some (.int .i64 s) ∧ V.cell? ⟨b, o + m * 4 + 2, none⟩ = some (.int .i64 f) ∧ V.cell? ⟨b, o + m * 4 + 3, none⟩ = some (.int .i64 l))
          (first | exact HR.out _ HB.out | exact HR.out _ HB.out.drew | fail)
          (first
            | (go_at_call 9; (with_reducible refine (C1.out _).mono ?_); rintro e W ⟨rfl, hb⟩; replace HB := Lib.hid (grew HB.out.drew hb); clear hb C1)
            | (go_at_call 10; (with_reducible refine (D1.out _).mono ?_); rintro e W ⟨rfl, hb⟩; replace HB := Lib.hid (grew HB.out hb); clear hb D1)
            | (go_at_call 11; (with_reducible refine (C2.out _).mono ?_); rintro e W ⟨rfl, hb⟩; replace HB := Lib.hid (grew HB.out hb); clear hb C2)
            | (go_at_call 12; (with_reducible refine (D2.out _).mono ?_); rintro e W ⟨rfl, hb⟩; replace HB := Lib.hid (grew HB.out hb); clear hb D2)
            | fail)
        all_goals
          go_wp2_with fail
          go_roundw
          case rel => exact ⟨m + 1, by omega, by go_num, HB.out⟩
          case measure => simp [intOf]; omega
      · obtain ⟨v, hv⟩ : ∃ v, ap L fr la c = v := ⟨_, rfl⟩
        have C := Lib.hid (fun W hA => apply_v (A := A) (cp := cp) hv HN.out W hA)
        have D := Lib.hid (fun W hA => rapply_v (A := A) (cp := cp) hv HN.out W hA)
        clear hv
        obtain rfl : m = n := by omega
        go_wp2_with (first
          | (go_at_call 13; (with_reducible refine (C.out _ (HA.out.below HB.out)).mono ?_); rintro e W ⟨rfl, hb⟩; replace HB := Lib.hid (grew HB.out hb); clear hb C)
          | (go_at_call 14; (with_reducible refine (D.out _ (HA.out.below HB.out)).mono ?_); rintro e W ⟨rfl, hb⟩; replace HB := Lib.hid (grew HB.out hb); clear hb D)
          | fail)
        go_ret
        exact ⟨rfl, HB.out⟩
end Jw
end Go.Proofs.Ytealfomdfnpmpaa
