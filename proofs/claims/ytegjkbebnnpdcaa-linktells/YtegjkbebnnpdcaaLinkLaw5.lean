/- The walk of LinkTells. -/
import Derived.Test.YtegjkbebnnpdcaaLinkRef1
namespace Go.Proofs.Ytegjkbebnnpdcaa
namespace Lw
open Go.RowKit

theorem conv_nil (W : World) : (convert 27 9 (.slice none 0 0)).run Try.prog W = .ok (.string ByteArray.empty) W := by
  simp [convert, run_underlying Try.underlying27, run_underlying Try.underlying9, run_underlying Try.underlying5, go_sem]
  rfl

set_option maxRecDepth 100000 in
set_option maxHeartbeats 8000000 in
theorem tells_ok (p : Ln.Pk) (hp : Ln.okB p = true) (w : World) : Calls Try.prog 4 #[.agg (pc p)] w fun e w' => e = .returned (.bool true) ∧ Below w.heap.size w w' := by
  have HV := Lib.hid ((Hv.nil w).made (.cells (pc p) 26))
  have CE := Lib.hid (enc_ok p hp)
  have CR := Lib.hid (renc_ok p hp)
  have K1 := Lib.hid (check_b true p hp)
  have K2 := Lib.hid (rcheck_b true p hp)
  have HL := Lib.hid (Ln.enc_len p)
  obtain ⟨s, hs⟩ : ∃ s, Crc.str (Ln.enc p) = s := ⟨_, rfl⟩
  have HS := Lib.hid hs
  clear hs hp
  go_enter Try.func4, Try.ntmps4
  go_wp2_with (first
    | (go_at_call 9; refine (awake_c _).mono ?_; rintro e w1 ⟨rfl, hb⟩; replace HV := Lib.hid (HV.out.grow hb); clear hb)
    | (refine ld_pk rfl _ rfl _ _ rfl (HV.out.has (w.heap.size, .cells (pc p) 26 (0, 0)) (by simp)) ?_))
  refine (CE.out _).mono ?_
  rintro e W2 ⟨ga, hga, rfl, hr, hb⟩
  obtain ⟨oa, hoa, fa⟩ := row_obj hr
  have FA := Lib.hid fa
  replace HV := Lib.hid ((HV.out.grow hb).add (ga, oa) hoa)
  clear hr hb hoa fa CE hga
  go_wp2_with (first
    | (refine ld_pk rfl _ rfl _ _ rfl (HV.out.has (w.heap.size, .cells (pc p) 26 (0, 0)) (by simp)) ?_))
  refine (CR.out _).mono ?_
  rintro e W3 ⟨A, c, rfl, hin, hb⟩
  replace HV := Lib.hid (HV.out.grow hb)
  have HI := Lib.hid hin
  clear hin hb CR
  have SS : Hid (∀ V, Below W3.heap.size W3 V → (fun V => (V.cell? ⟨w.heap.size, 0, none⟩ = some (.int .i64 p.f) ∧ V.cell? ⟨w.heap.size, 1, none⟩ = some (.int .i64 p.n) ∧ V.cell? ⟨w.heap.size, 2, none⟩ = some (.int .i64 p.a) ∧ V.cell? ⟨w.heap.size, 3, none⟩ = some (.int .i64 p.b) ∧ V.cell? ⟨w.heap.size, 4, none⟩ = some (.int .i64 p.c) ∧ V.cell? ⟨w.heap.size, 5, none⟩ = some (.int .i64 p.d) ∧ V.cell? ⟨w.heap.size, 6, none⟩ = some (.int .i64 p.e) ∧ V.cell? ⟨w.heap.size, 7, none⟩ = some (.bool p.ga) ∧ V.cell? ⟨w.heap.size, 8, none⟩ = some (.bool p.gb) ∧ V.cell? ⟨w.heap.size, 9, none⟩ = some (.bool p.gc) ∧ V.cell? ⟨w.heap.size, 10, none⟩ = some (.bool p.gd) ∧ V.cell? ⟨w.heap.size, 11, none⟩ = some (.bool p.ge) ∧ V.cell? ⟨w.heap.size, 12, none⟩ = some (.int .i64 p.m) ∧ V.cell? ⟨w.heap.size, 13, none⟩ = some (.int .i64 p.s)) ∧ (convert 27 9 (.slice (some ⟨ga, 0, none⟩) 32 32)).run Try.prog V = .ok (.string s) V ∧ (convert 27 9 (.slice A 32 c)).run Try.prog V = .ok (.string s) V) V) := fun V hb => ⟨Pkt.all (show Pkt V w.heap.size p from (HV.out.grow hb).has (w.heap.size, .cells (pc p) 26 (0, 0)) (by simp)), by rw [← HS.out]; exact conv_n (inb_any (row_inb (FA.out V ((HV.out.grow hb).has (ga, oa) (by simp))))) (by decide) HL.out, by rw [← HS.out]; exact conv_n (inb_any (HI.out.below hb)) (by decide) HL.out⟩
  have HB0 := Lib.hid (Below.refl W3.heap.size W3)
  go_wp2_with fail
  dsimp only [pc] at *
  go_region_held3 (fun V => (V.cell? ⟨w.heap.size, 0, none⟩ = some (.int .i64 p.f) ∧ V.cell? ⟨w.heap.size, 1, none⟩ = some (.int .i64 p.n) ∧ V.cell? ⟨w.heap.size, 2, none⟩ = some (.int .i64 p.a) ∧ V.cell? ⟨w.heap.size, 3, none⟩ = some (.int .i64 p.b) ∧ V.cell? ⟨w.heap.size, 4, none⟩ = some (.int .i64 p.c) ∧ V.cell? ⟨w.heap.size, 5, none⟩ = some (.int .i64 p.d) ∧ V.cell? ⟨w.heap.size, 6, none⟩ = some (.int .i64 p.e) ∧ V.cell? ⟨w.heap.size, 7, none⟩ = some (.bool p.ga) ∧ V.cell? ⟨w.heap.size, 8, none⟩ = some (.bool p.gb) ∧ V.cell? ⟨w.heap.size, 9, none⟩ = some (.bool p.gc) ∧ V.cell? ⟨w.heap.size, 10, none⟩ = some (.bool p.gd) ∧ V.cell? ⟨w.heap.size, 11, none⟩ = some (.bool p.ge) ∧ V.cell? ⟨w.heap.size, 12, none⟩ = some (.int .i64 p.m) ∧ V.cell? ⟨w.heap.size, 13, none⟩ = some (.int .i64 p.s)) ∧ (convert 27 9 (.slice (some ⟨ga, 0, none⟩) 32 32)).run Try.prog V = .ok (.string s) V ∧ (convert 27 9 (.slice A 32 c)).run Try.prog V = .ok (.string s) V) (first | exact SS.out _ HB0.out | exact SS.out _ HB0.out.drew | exact SS.out _ HB1.out | exact SS.out _ HB2.out | fail)
    (first
      | (go_at_call 12; refine (K1.out _).mono ?_; rintro e W4 ⟨rfl, hb⟩; have HB1 := Lib.hid (HB0.out.drew.trans hb); clear hb)
      | (go_at_call 13; refine (K2.out _).mono ?_; rintro e W5 ⟨rfl, hb⟩; have HB2 := Lib.hid (HB1.out.trans (hb.mono HB1.out.size)); clear hb)
      | fail)
  all_goals
    clear SS
    have HF := Lib.hid (HV.out.grow HB2.out).old
    clear HV HB0 HB1 HB2
    go_wp2_with fail
    go_ret
    exact ⟨rfl, HF.out⟩

set_option maxRecDepth 100000 in
set_option maxHeartbeats 8000000 in
theorem tells_bad (p : Ln.Pk) (hp : Ln.okB p = false) (w : World) : Calls Try.prog 4 #[.agg (pc p)] w fun e w' => e = .returned (.bool true) ∧ Below w.heap.size w w' := by
  have HV := Lib.hid ((Hv.nil w).made (.cells (pc p) 26))
  have CE := Lib.hid (enc_bad p hp)
  have CR := Lib.hid (renc_bad p hp)
  have K1 := Lib.hid (check_b false p hp)
  have K2 := Lib.hid (rcheck_b false p hp)
  have HL := Lib.hid (Ln.enc_len p)
  obtain ⟨s, hs⟩ : ∃ s, Crc.str (Ln.enc p) = s := ⟨_, rfl⟩
  have HS := Lib.hid hs
  clear hs hp
  go_enter Try.func4, Try.ntmps4
  go_wp2_with (first
    | (go_at_call 9; refine (awake_c _).mono ?_; rintro e w1 ⟨rfl, hb⟩; replace HV := Lib.hid (HV.out.grow hb); clear hb)
    | (refine ld_pk rfl _ rfl _ _ rfl (HV.out.has (w.heap.size, .cells (pc p) 26 (0, 0)) (by simp)) ?_))
  refine (CE.out _).mono ?_
  rintro e W2 ⟨rfl, hb⟩
  replace HV := Lib.hid (HV.out.grow hb)
  clear hb CE
  go_wp2_with (first
    | (refine ld_pk rfl _ rfl _ _ rfl (HV.out.has (w.heap.size, .cells (pc p) 26 (0, 0)) (by simp)) ?_))
  refine (CR.out _).mono ?_
  rintro e W3 ⟨rfl, hb⟩
  replace HV := Lib.hid (HV.out.grow hb)
  clear hb CR
  have SS : Hid (∀ V, Below W3.heap.size W3 V → (fun V => (V.cell? ⟨w.heap.size, 0, none⟩ = some (.int .i64 p.f) ∧ V.cell? ⟨w.heap.size, 1, none⟩ = some (.int .i64 p.n) ∧ V.cell? ⟨w.heap.size, 2, none⟩ = some (.int .i64 p.a) ∧ V.cell? ⟨w.heap.size, 3, none⟩ = some (.int .i64 p.b) ∧ V.cell? ⟨w.heap.size, 4, none⟩ = some (.int .i64 p.c) ∧ V.cell? ⟨w.heap.size, 5, none⟩ = some (.int .i64 p.d) ∧ V.cell? ⟨w.heap.size, 6, none⟩ = some (.int .i64 p.e) ∧ V.cell? ⟨w.heap.size, 7, none⟩ = some (.bool p.ga) ∧ V.cell? ⟨w.heap.size, 8, none⟩ = some (.bool p.gb) ∧ V.cell? ⟨w.heap.size, 9, none⟩ = some (.bool p.gc) ∧ V.cell? ⟨w.heap.size, 10, none⟩ = some (.bool p.gd) ∧ V.cell? ⟨w.heap.size, 11, none⟩ = some (.bool p.ge) ∧ V.cell? ⟨w.heap.size, 12, none⟩ = some (.int .i64 p.m) ∧ V.cell? ⟨w.heap.size, 13, none⟩ = some (.int .i64 p.s)) ∧ (convert 27 9 (.slice none 0 0)).run Try.prog V = .ok (.string ByteArray.empty) V) V) := fun V hb => ⟨Pkt.all (show Pkt V w.heap.size p from (HV.out.grow hb).has (w.heap.size, .cells (pc p) 26 (0, 0)) (by simp)), conv_nil V⟩
  have HB0 := Lib.hid (Below.refl W3.heap.size W3)
  go_wp2_with fail
  dsimp only [pc] at *
  go_region_held3 (fun V => (V.cell? ⟨w.heap.size, 0, none⟩ = some (.int .i64 p.f) ∧ V.cell? ⟨w.heap.size, 1, none⟩ = some (.int .i64 p.n) ∧ V.cell? ⟨w.heap.size, 2, none⟩ = some (.int .i64 p.a) ∧ V.cell? ⟨w.heap.size, 3, none⟩ = some (.int .i64 p.b) ∧ V.cell? ⟨w.heap.size, 4, none⟩ = some (.int .i64 p.c) ∧ V.cell? ⟨w.heap.size, 5, none⟩ = some (.int .i64 p.d) ∧ V.cell? ⟨w.heap.size, 6, none⟩ = some (.int .i64 p.e) ∧ V.cell? ⟨w.heap.size, 7, none⟩ = some (.bool p.ga) ∧ V.cell? ⟨w.heap.size, 8, none⟩ = some (.bool p.gb) ∧ V.cell? ⟨w.heap.size, 9, none⟩ = some (.bool p.gc) ∧ V.cell? ⟨w.heap.size, 10, none⟩ = some (.bool p.gd) ∧ V.cell? ⟨w.heap.size, 11, none⟩ = some (.bool p.ge) ∧ V.cell? ⟨w.heap.size, 12, none⟩ = some (.int .i64 p.m) ∧ V.cell? ⟨w.heap.size, 13, none⟩ = some (.int .i64 p.s)) ∧ (convert 27 9 (.slice none 0 0)).run Try.prog V = .ok (.string ByteArray.empty) V) (first | exact SS.out _ HB0.out | exact SS.out _ HB0.out.drew | exact SS.out _ HB1.out | exact SS.out _ HB2.out | fail)
    (first
      | (go_at_call 12; refine (K1.out _).mono ?_; rintro e W4 ⟨rfl, hb⟩; have HB1 := Lib.hid (HB0.out.drew.trans hb); clear hb)
      | (go_at_call 13; refine (K2.out _).mono ?_; rintro e W5 ⟨rfl, hb⟩; have HB2 := Lib.hid (HB1.out.trans (hb.mono HB1.out.size)); clear hb)
      | fail)
  all_goals
    clear SS
    have HF := Lib.hid (HV.out.grow HB2.out).old
    clear HV HB0 HB1 HB2
    go_wp2_with fail
    go_ret
    exact ⟨rfl, HF.out⟩

theorem LinkTells_walk (p : Ln.Pk) (w : World) : Calls Try.prog 4 #[.agg (pc p)] w fun e w' => e = .returned (.bool true) ∧ Below w.heap.size w w' := by
  cases hp : Ln.okB p
  · exact tells_bad p hp w
  · exact tells_ok p hp w
end Lw
end Go.Proofs.Ytegjkbebnnpdcaa
