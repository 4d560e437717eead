/- The walk of InjectAdds. -/
import Derived.Test.YtealfomdfnpmpaaInjectLaw2
namespace Go.Proofs.Ytealfomdfnpmpaa
namespace Jw
open Go.RowKit Nj

theorem Kp.set {w W : World} {g : Nat} {k s f l : Int} (h : Kp w W g k s f l) (hg : w.heap.size ≤ g) (K : Int) : Kp w (W.setCell ⟨g, 0, none⟩ (.int .i64 K)) g K s f l :=
  ⟨Joins.block_setCell h.at_ _, h.old.setCell hg _⟩
theorem Blk.new_at (w : World) (k s f l : Int) {b : Nat} (h : b = w.heap.size) : Blk (w.alloc (.cells (fc k s f l) 27)) b k s f l := h ▸ Blk.new w k s f l
theorem there_iff (K s f l fr : Int) (hK : K = 1 ∨ K = 5 ∨ K = 6) (hs : -32768 ≤ s ∧ s ≤ 32767) (hf : 0 ≤ f ∧ f ≤ 255) (hl : 0 ≤ l ∧ l ≤ 255) : On ⟨K, s, f, l⟩ fr ↔ (f ≤ fr ∧ fr < f + l) := by
  constructor
  · exact fun h => ⟨h.2.2.1, h.2.2.2⟩
  · exact fun h => ⟨⟨by simp only; omega, by simp only; omega, by simp only; omega, by simp only; omega, by simp only; omega, by simp only; omega, by simp only; omega, by simp only; omega⟩, by simp only; omega, h.1, h.2⟩
theorem ap_one (j : Flt) (fr la n : Int) : ap [j] fr la n = one fr la (cl n) j := rfl

theorem tm0 {si : Int} (h : si % 2 = 0) : (si.tmod 2 != 0) = false := by
  have : si.tmod 2 = 0 := Int.tmod_eq_zero_of_dvd (Int.dvd_of_emod_eq_zero h)
  simp [this]
theorem tm1 {si : Int} (h : si % 2 = 1) : (si.tmod 2 != 0) = true := by
  have : si.tmod 2 ≠ 0 := fun e => by have := Int.emod_eq_zero_of_dvd (Int.dvd_of_tmod_eq_zero e); omega
  simp [this]

set_option maxRecDepth 100000 in
set_option maxHeartbeats 40000000 in
theorem InjectAdds_walk (s f l fr n : Int) (hs : -32768 ≤ s ∧ s ≤ 32767) (hf : 0 ≤ f ∧ f ≤ 255) (hl : 0 ≤ l ∧ l ≤ 255) (hfr : 0 ≤ fr ∧ fr ≤ 65535) (hn : 0 ≤ n ∧ n ≤ 65535) (w : World) :
    Calls Try.prog 7 #[.int .i16 s, .int .u8 f, .int .u8 l, .int .u16 fr, .int .u16 n] w fun e w' => e = .returned (.bool true) ∧ Below w.heap.size w w' := by
  have x1 : IntKind.i64.wrap s = s := IntWalk.i64_in _ (by omega)
  have x2 : IntKind.i64.wrap f = f := IntWalk.i64_in _ (by omega)
  have x3 : IntKind.i64.wrap l = l := IntWalk.i64_in _ (by omega)
  have x4 : IntKind.i64.wrap fr = fr := IntWalk.i64_in _ (by omega)
  have x5 : IntKind.i64.wrap n = n := IntWalk.i64_in _ (by omega)
  obtain ⟨g, hg⟩ : ∃ g, fr % 600 = g := ⟨_, rfl⟩
  have hg2 : fr.tmod 600 = g := by rw [Int.tmod_eq_emod_of_nonneg hfr.1, hg]
  have g1 : 0 ≤ g := by omega
  have g2 : g < 600 := by omega
  obtain ⟨si, hsi⟩ : ∃ si, g - f = si := ⟨_, rfl⟩
  have x6 : IntKind.i64.wrap (g - f) = si := by rw [IntWalk.i64_in _ (by omega), hsi]
  have x7 : IntKind.i64.wrap (f + l) = f + l := IntWalk.i64_in _ (by omega)
  have HSI := Lib.hid hsi
  have HSI2 : Hid (-256 ≤ si ∧ si ≤ 600) := by show _ ∧ _; omega
  have HS := Lib.hid hs
  have HF := Lib.hid hf
  have HL := Lib.hid hl
  have HNN := Lib.hid hn
  clear hg
  -- cases
  rcases (by omega : (f ≤ g ∧ g < f + l) ∨ (f ≤ g ∧ f + l ≤ g) ∨ g < f) with ⟨q1, q2⟩ | ⟨q1, q2⟩ | q1
  · have t1 : decide (f ≤ g) = true := decide_eq_true q1
    have t2 : decide (g < f + l) = true := decide_eq_true q2
    have HT : Hid ((f ≤ g ∧ g < f + l)) := ⟨q1, q2⟩
    have si0 : 0 ≤ si := by omega
    clear q1 q2
    clear hs hf hl hfr hn g1 g2 hsi
    go_enter Try.func7, Try.ntmps7
    go_wp2_with (first | (go_at_call 8; refine (awake_c _).mono ?_; rintro e W1 ⟨rfl, hb⟩; have HB := Lib.hid hb; clear hb) | fail)
    have HG : Hid (w.heap.size ≤ W1.heap.size) := HB.out.size
    have HK0 : Hid (Kp w (W1.alloc (.cells (fc 0 s f l) 27)) W1.heap.size 0 s f l) := ⟨Blk.new W1 0 s f l, HB.out.alloc HB.out.size _⟩
    go_loopw [49] (fun i wr => ∃ (m : Nat) (kk : Int), m ≤ 3 ∧ i = .int .i64 m ∧ Kp w wr W1.heap.size kk s f l) (fun i _ => 3 - (intOf i).toNat)
    case atStart => exact ⟨0, 0, by decide, rfl, HK0.out⟩
    case round =>
      obtain ⟨m, kk, hm, rfl, hk⟩ := hrel
      have HK := Lib.hid hk
      obtain ⟨c0, c1, c2, c3⟩ := hk.at_.fld
      have fz : wr.frozen? ⟨W1.heap.size, 0, none⟩ = false := by simp [World.frozen?, show wr.heap[W1.heap.size]? = _ from hk.at_]
      clear hk HK0
      have i0 : ∀ w, (Instr.index 35 (.agg #[.int .i64 1, .int .i64 5, .int .i64 6]) (.int .i64 0)).run Try.prog w = .ok (.int .i64 1) w := fun _ => by kernel_rfl
      have i1 : ∀ w, (Instr.index 35 (.agg #[.int .i64 1, .int .i64 5, .int .i64 6]) (.int .i64 1)).run Try.prog w = .ok (.int .i64 5) w := fun _ => by kernel_rfl
      have i2 : ∀ w, (Instr.index 35 (.agg #[.int .i64 1, .int .i64 5, .int .i64 6]) (.int .i64 2)).run Try.prog w = .ok (.int .i64 6) w := fun _ => by kernel_rfl
      rcases (by omega : m = 0 ∨ m = 1 ∨ m = 2 ∨ m = 3) with rfl | rfl | rfl | rfl
      · have D : Hid (∀ W, Calls Try.prog 11 #[.agg (fc 1 s f l), .int .i64 g] W fun e w' => e = .returned (.bool true) ∧ Below W.heap.size W w') := fun W => on_v (onB_t ((there_iff 1 s f l g (by omega) HS.out HF.out HL.out).2 HT.out)) W
        have hv : ap [⟨1, s, f, l⟩] g 5 n = cl (n + s) := by rw [ap_one, one_on ((there_iff 1 s f l g (by omega) HS.out HF.out HL.out).2 HT.out)]; simp only; rw [HSI.out, wh_1 rfl, cl_id HNN.out]
        rcases (by omega : n + s < 0 ∨ 65535 < n + s ∨ (0 ≤ n + s ∧ n + s ≤ 65535)) with z | z | ⟨z, z2⟩
        · have yw : IntKind.i64.wrap (n + s) = n + s := IntWalk.i64_in _ (by have := HS.out; have := HNN.out; omega)
          have C : Hid (∀ W b, Blk W b 1 s f l → Calls Try.prog 13 #[.slice (some ⟨b, 0, none⟩) 1 1, .int .i64 g, .int .i64 5, .int .i64 n] W fun e w' => e = .returned (.int .i64 0) ∧ Below W.heap.size W w') := fun W b hb => apply_v (L := [⟨1, s, f, l⟩]) (by rw [hv]; exact if_pos z) rfl W hb.one
          go_wp2_with fail
          replace HK := Lib.hid (HK.out.set HG.out 1)
          refine (C.out _ _ (Blk.new_at _ 1 s f l (by simp [World.setCell]))).mono ?_
          rintro e W2 ⟨rfl, hb⟩
          replace HK := Lib.hid ((HK.out.grow ((Below.refl _ _).alloc (Nat.le_refl _) _)).grow hb)
          clear hb C
          go_wp2_with (first | (refine ld rfl _ rfl _ _ _ _ _ rfl HK.out.at_ ?_) | (go_at_call 11; (with_reducible refine (D.out _).mono ?_); rintro e W3 ⟨rfl, hb⟩; replace HK := Lib.hid (HK.out.grow hb); clear hb D) | fail)
          go_roundw
          case rel => exact ⟨1, 1, by decide, by go_num, HK.out⟩
          case measure => simp [intOf]
        · have yw : IntKind.i64.wrap (n + s) = n + s := IntWalk.i64_in _ (by have := HS.out; have := HNN.out; omega)
          have C : Hid (∀ W b, Blk W b 1 s f l → Calls Try.prog 13 #[.slice (some ⟨b, 0, none⟩) 1 1, .int .i64 g, .int .i64 5, .int .i64 n] W fun e w' => e = .returned (.int .i64 65535) ∧ Below W.heap.size W w') := fun W b hb => apply_v (L := [⟨1, s, f, l⟩]) (by rw [hv]; unfold cl; rw [if_neg (by omega), if_pos z]) rfl W hb.one
          go_wp2_with fail
          replace HK := Lib.hid (HK.out.set HG.out 1)
          refine (C.out _ _ (Blk.new_at _ 1 s f l (by simp [World.setCell]))).mono ?_
          rintro e W2 ⟨rfl, hb⟩
          replace HK := Lib.hid ((HK.out.grow ((Below.refl _ _).alloc (Nat.le_refl _) _)).grow hb)
          clear hb C
          go_wp2_with (first | (refine ld rfl _ rfl _ _ _ _ _ rfl HK.out.at_ ?_) | (go_at_call 11; (with_reducible refine (D.out _).mono ?_); rintro e W3 ⟨rfl, hb⟩; replace HK := Lib.hid (HK.out.grow hb); clear hb D) | fail)
          go_roundw
          case rel => exact ⟨1, 1, by decide, by go_num, HK.out⟩
          case measure => simp [intOf]
        · have yw : IntKind.i64.wrap (n + s) = n + s := IntWalk.i64_in _ (by have := HS.out; have := HNN.out; omega)
          have C : Hid (∀ W b, Blk W b 1 s f l → Calls Try.prog 13 #[.slice (some ⟨b, 0, none⟩) 1 1, .int .i64 g, .int .i64 5, .int .i64 n] W fun e w' => e = .returned (.int .i64 (n + s)) ∧ Below W.heap.size W w') := fun W b hb => apply_v (L := [⟨1, s, f, l⟩]) (by rw [hv]; exact cl_id ⟨z, z2⟩) rfl W hb.one
          go_wp2_with fail
          replace HK := Lib.hid (HK.out.set HG.out 1)
          refine (C.out _ _ (Blk.new_at _ 1 s f l (by simp [World.setCell]))).mono ?_
          rintro e W2 ⟨rfl, hb⟩
          replace HK := Lib.hid ((HK.out.grow ((Below.refl _ _).alloc (Nat.le_refl _) _)).grow hb)
          clear hb C
          go_wp2_with (first | (refine ld rfl _ rfl _ _ _ _ _ rfl HK.out.at_ ?_) | (go_at_call 11; (with_reducible refine (D.out _).mono ?_); rintro e W3 ⟨rfl, hb⟩; replace HK := Lib.hid (HK.out.grow hb); clear hb D) | fail)
          go_roundw
          case rel => exact ⟨1, 1, by decide, by go_num, HK.out⟩
          case measure => simp [intOf]
      · have D : Hid (∀ W, Calls Try.prog 11 #[.agg (fc 5 s f l), .int .i64 g] W fun e w' => e = .returned (.bool true) ∧ Below W.heap.size W w') := fun W => on_v (onB_t ((there_iff 5 s f l g (by omega) HS.out HF.out HL.out).2 HT.out)) W
        rcases Int.emod_two_eq si with e2 | e2
        · have d6 : (si.tmod 2 != 0) = false := tm0 e2
          have d7 : (si % 2 != 0) = false := by simp [e2]
          have d8 : si.tmod 2 = 0 := by simpa using d6
          have hv : ap [⟨5, s, f, l⟩] g 5 n = cl (n + s) := by rw [ap_one, one_on ((there_iff 5 s f l g (by omega) HS.out HF.out HL.out).2 HT.out)]; simp only; rw [HSI.out, wh_5 rfl d8, cl_id HNN.out]
          rcases (by omega : n + s < 0 ∨ 65535 < n + s ∨ (0 ≤ n + s ∧ n + s ≤ 65535)) with z | z | ⟨z, z2⟩
          · have yw : IntKind.i64.wrap (n + s) = n + s := IntWalk.i64_in _ (by have := HS.out; have := HNN.out; omega)
            have C : Hid (∀ W b, Blk W b 5 s f l → Calls Try.prog 13 #[.slice (some ⟨b, 0, none⟩) 1 1, .int .i64 g, .int .i64 5, .int .i64 n] W fun e w' => e = .returned (.int .i64 0) ∧ Below W.heap.size W w') := fun W b hb => apply_v (L := [⟨5, s, f, l⟩]) (by rw [hv]; exact if_pos z) rfl W hb.one
            go_wp2_with fail
            replace HK := Lib.hid (HK.out.set HG.out 5)
            refine (C.out _ _ (Blk.new_at _ 5 s f l (by simp [World.setCell]))).mono ?_
            rintro e W2 ⟨rfl, hb⟩
            replace HK := Lib.hid ((HK.out.grow ((Below.refl _ _).alloc (Nat.le_refl _) _)).grow hb)
            clear hb C
            go_wp2_with (first | (refine ld rfl _ rfl _ _ _ _ _ rfl HK.out.at_ ?_) | (go_at_call 11; (with_reducible refine (D.out _).mono ?_); rintro e W3 ⟨rfl, hb⟩; replace HK := Lib.hid (HK.out.grow hb); clear hb D) | fail)
            go_roundw
            case rel => exact ⟨2, 5, by decide, by go_num, HK.out⟩
            case measure => simp [intOf]
          · have yw : IntKind.i64.wrap (n + s) = n + s := IntWalk.i64_in _ (by have := HS.out; have := HNN.out; omega)
            have C : Hid (∀ W b, Blk W b 5 s f l → Calls Try.prog 13 #[.slice (some ⟨b, 0, none⟩) 1 1, .int .i64 g, .int .i64 5, .int .i64 n] W fun e w' => e = .returned (.int .i64 65535) ∧ Below W.heap.size W w') := fun W b hb => apply_v (L := [⟨5, s, f, l⟩]) (by rw [hv]; unfold cl; rw [if_neg (by omega), if_pos z]) rfl W hb.one
            go_wp2_with fail
            replace HK := Lib.hid (HK.out.set HG.out 5)
            refine (C.out _ _ (Blk.new_at _ 5 s f l (by simp [World.setCell]))).mono ?_
            rintro e W2 ⟨rfl, hb⟩
            replace HK := Lib.hid ((HK.out.grow ((Below.refl _ _).alloc (Nat.le_refl _) _)).grow hb)
            clear hb C
            go_wp2_with (first | (refine ld rfl _ rfl _ _ _ _ _ rfl HK.out.at_ ?_) | (go_at_call 11; (with_reducible refine (D.out _).mono ?_); rintro e W3 ⟨rfl, hb⟩; replace HK := Lib.hid (HK.out.grow hb); clear hb D) | fail)
            go_roundw
            case rel => exact ⟨2, 5, by decide, by go_num, HK.out⟩
            case measure => simp [intOf]
          · have yw : IntKind.i64.wrap (n + s) = n + s := IntWalk.i64_in _ (by have := HS.out; have := HNN.out; omega)
            have C : Hid (∀ W b, Blk W b 5 s f l → Calls Try.prog 13 #[.slice (some ⟨b, 0, none⟩) 1 1, .int .i64 g, .int .i64 5, .int .i64 n] W fun e w' => e = .returned (.int .i64 (n + s)) ∧ Below W.heap.size W w') := fun W b hb => apply_v (L := [⟨5, s, f, l⟩]) (by rw [hv]; exact cl_id ⟨z, z2⟩) rfl W hb.one
            go_wp2_with fail
            replace HK := Lib.hid (HK.out.set HG.out 5)
            refine (C.out _ _ (Blk.new_at _ 5 s f l (by simp [World.setCell]))).mono ?_
            rintro e W2 ⟨rfl, hb⟩
            replace HK := Lib.hid ((HK.out.grow ((Below.refl _ _).alloc (Nat.le_refl _) _)).grow hb)
            clear hb C
            go_wp2_with (first | (refine ld rfl _ rfl _ _ _ _ _ rfl HK.out.at_ ?_) | (go_at_call 11; (with_reducible refine (D.out _).mono ?_); rintro e W3 ⟨rfl, hb⟩; replace HK := Lib.hid (HK.out.grow hb); clear hb D) | fail)
            go_roundw
            case rel => exact ⟨2, 5, by decide, by go_num, HK.out⟩
            case measure => simp [intOf]
        · have d6 : (si.tmod 2 != 0) = true := tm1 e2
          have d7 : (si % 2 != 0) = true := by simp [e2]
          have d8 : ¬ si.tmod 2 = 0 := by simpa using d6
          have hv : ap [⟨5, s, f, l⟩] g 5 n = n := by rw [ap_one, one_on ((there_iff 5 s f l g (by omega) HS.out HF.out HL.out).2 HT.out)]; simp only; rw [HSI.out, wh_5n rfl d8, cl_id HNN.out, cl_id HNN.out]
          clear d8 e2
          obtain ⟨n1, n2⟩ := HNN.out
          have C : Hid (∀ W b, Blk W b 5 s f l → Calls Try.prog 13 #[.slice (some ⟨b, 0, none⟩) 1 1, .int .i64 g, .int .i64 5, .int .i64 n] W fun e w' => e = .returned (.int .i64 n) ∧ Below W.heap.size W w') := fun W b hb => apply_v (L := [⟨5, s, f, l⟩]) (hv) rfl W hb.one
          go_wp2_with fail
          replace HK := Lib.hid (HK.out.set HG.out 5)
          refine (C.out _ _ (Blk.new_at _ 5 s f l (by simp [World.setCell]))).mono ?_
          rintro e W2 ⟨rfl, hb⟩
          replace HK := Lib.hid ((HK.out.grow ((Below.refl _ _).alloc (Nat.le_refl _) _)).grow hb)
          clear hb C
          go_wp2_with (first | (refine ld rfl _ rfl _ _ _ _ _ rfl HK.out.at_ ?_) | (go_at_call 11; (with_reducible refine (D.out _).mono ?_); rintro e W3 ⟨rfl, hb⟩; replace HK := Lib.hid (HK.out.grow hb); clear hb D) | fail)
          go_roundw
          case rel => exact ⟨2, 5, by decide, by go_num, HK.out⟩
          case measure => simp [intOf]
      · have D : Hid (∀ W, Calls Try.prog 11 #[.agg (fc 6 s f l), .int .i64 g] W fun e w' => e = .returned (.bool true) ∧ Below W.heap.size W w') := fun W => on_v (onB_t ((there_iff 6 s f l g (by omega) HS.out HF.out HL.out).2 HT.out)) W
        have y1 : IntKind.i64.wrap (si + 1) = si + 1 := IntWalk.i64_in _ (by have := HSI2.out; omega)
        have y2 := Fx.mul_abs_le (a := s) (b := si + 1) (A := 32768) (B := 1000) (by have := HS.out; omega) (by have := HS.out; omega) (by have := HSI2.out; omega) (by have := HSI2.out; omega)
        obtain ⟨pp, hpp⟩ : ∃ pp, s * (si + 1) = pp := ⟨_, rfl⟩
        rw [hpp] at y2
        have y3 : IntKind.i64.wrap (s * (si + 1)) = pp := by rw [hpp]; exact IntWalk.i64_in _ (by omega)
        have hv : ap [⟨6, s, f, l⟩] g 5 n = cl (n + pp) := by rw [ap_one, one_on ((there_iff 6 s f l g (by omega) HS.out HF.out HL.out).2 HT.out)]; simp only; rw [HSI.out, wh_6 rfl, hpp, cl_id HNN.out]
        rcases (by omega : n + pp < 0 ∨ 65535 < n + pp ∨ (0 ≤ n + pp ∧ n + pp ≤ 65535)) with z | z | ⟨z, z2⟩
        · have yw : IntKind.i64.wrap (n + pp) = n + pp := IntWalk.i64_in _ (by have := HS.out; have := HNN.out; omega)
          have C : Hid (∀ W b, Blk W b 6 s f l → Calls Try.prog 13 #[.slice (some ⟨b, 0, none⟩) 1 1, .int .i64 g, .int .i64 5, .int .i64 n] W fun e w' => e = .returned (.int .i64 0) ∧ Below W.heap.size W w') := fun W b hb => apply_v (L := [⟨6, s, f, l⟩]) (by rw [hv]; exact if_pos z) rfl W hb.one
          go_wp2_with fail
          replace HK := Lib.hid (HK.out.set HG.out 6)
          refine (C.out _ _ (Blk.new_at _ 6 s f l (by simp [World.setCell]))).mono ?_
          rintro e W2 ⟨rfl, hb⟩
          replace HK := Lib.hid ((HK.out.grow ((Below.refl _ _).alloc (Nat.le_refl _) _)).grow hb)
          clear hb C
          go_wp2_with (first | (refine ld rfl _ rfl _ _ _ _ _ rfl HK.out.at_ ?_) | (go_at_call 11; (with_reducible refine (D.out _).mono ?_); rintro e W3 ⟨rfl, hb⟩; replace HK := Lib.hid (HK.out.grow hb); clear hb D) | fail)
          go_roundw
          case rel => exact ⟨3, 6, by decide, by go_num, HK.out⟩
          case measure => simp [intOf]
        · have yw : IntKind.i64.wrap (n + pp) = n + pp := IntWalk.i64_in _ (by have := HS.out; have := HNN.out; omega)
          have C : Hid (∀ W b, Blk W b 6 s f l → Calls Try.prog 13 #[.slice (some ⟨b, 0, none⟩) 1 1, .int .i64 g, .int .i64 5, .int .i64 n] W fun e w' => e = .returned (.int .i64 65535) ∧ Below W.heap.size W w') := fun W b hb => apply_v (L := [⟨6, s, f, l⟩]) (by rw [hv]; unfold cl; rw [if_neg (by omega), if_pos z]) rfl W hb.one
          go_wp2_with fail
          replace HK := Lib.hid (HK.out.set HG.out 6)
          refine (C.out _ _ (Blk.new_at _ 6 s f l (by simp [World.setCell]))).mono ?_
          rintro e W2 ⟨rfl, hb⟩
          replace HK := Lib.hid ((HK.out.grow ((Below.refl _ _).alloc (Nat.le_refl _) _)).grow hb)
          clear hb C
          go_wp2_with (first | (refine ld rfl _ rfl _ _ _ _ _ rfl HK.out.at_ ?_) | (go_at_call 11; (with_reducible refine (D.out _).mono ?_); rintro e W3 ⟨rfl, hb⟩; replace HK := Lib.hid (HK.out.grow hb); clear hb D) | fail)
          go_roundw
          case rel => exact ⟨3, 6, by decide, by go_num, HK.out⟩
          case measure => simp [intOf]
        · have yw : IntKind.i64.wrap (n + pp) = n + pp := IntWalk.i64_in _ (by have := HS.out; have := HNN.out; omega)
          have C : Hid (∀ W b, Blk W b 6 s f l → Calls Try.prog 13 #[.slice (some ⟨b, 0, none⟩) 1 1, .int .i64 g, .int .i64 5, .int .i64 n] W fun e w' => e = .returned (.int .i64 (n + pp)) ∧ Below W.heap.size W w') := fun W b hb => apply_v (L := [⟨6, s, f, l⟩]) (by rw [hv]; exact cl_id ⟨z, z2⟩) rfl W hb.one
          go_wp2_with fail
          replace HK := Lib.hid (HK.out.set HG.out 6)
          refine (C.out _ _ (Blk.new_at _ 6 s f l (by simp [World.setCell]))).mono ?_
          rintro e W2 ⟨rfl, hb⟩
          replace HK := Lib.hid ((HK.out.grow ((Below.refl _ _).alloc (Nat.le_refl _) _)).grow hb)
          clear hb C
          go_wp2_with (first | (refine ld rfl _ rfl _ _ _ _ _ rfl HK.out.at_ ?_) | (go_at_call 11; (with_reducible refine (D.out _).mono ?_); rintro e W3 ⟨rfl, hb⟩; replace HK := Lib.hid (HK.out.grow hb); clear hb D) | fail)
          go_roundw
          case rel => exact ⟨3, 6, by decide, by go_num, HK.out⟩
          case measure => simp [intOf]
      · go_wp2_with fail
        go_ret
        exact ⟨rfl, HK.out.old⟩
  · have t1 : decide (f ≤ g) = true := decide_eq_true q1
    have t2 : decide (g < f + l) = false := decide_eq_false (by omega)
    have HT : Hid (¬ (f ≤ g ∧ g < f + l)) := fun h => by omega
    clear q1 q2
    clear hs hf hl hfr hn g1 g2 hsi
    go_enter Try.func7, Try.ntmps7
    go_wp2_with (first | (go_at_call 8; refine (awake_c _).mono ?_; rintro e W1 ⟨rfl, hb⟩; have HB := Lib.hid hb; clear hb) | fail)
    have HG : Hid (w.heap.size ≤ W1.heap.size) := HB.out.size
    have HK0 : Hid (Kp w (W1.alloc (.cells (fc 0 s f l) 27)) W1.heap.size 0 s f l) := ⟨Blk.new W1 0 s f l, HB.out.alloc HB.out.size _⟩
    go_loopw [49] (fun i wr => ∃ (m : Nat) (kk : Int), m ≤ 3 ∧ i = .int .i64 m ∧ Kp w wr W1.heap.size kk s f l) (fun i _ => 3 - (intOf i).toNat)
    case atStart => exact ⟨0, 0, by decide, rfl, HK0.out⟩
    case round =>
      obtain ⟨m, kk, hm, rfl, hk⟩ := hrel
      have HK := Lib.hid hk
      obtain ⟨c0, c1, c2, c3⟩ := hk.at_.fld
      have fz : wr.frozen? ⟨W1.heap.size, 0, none⟩ = false := by simp [World.frozen?, show wr.heap[W1.heap.size]? = _ from hk.at_]
      clear hk HK0
      have i0 : ∀ w, (Instr.index 35 (.agg #[.int .i64 1, .int .i64 5, .int .i64 6]) (.int .i64 0)).run Try.prog w = .ok (.int .i64 1) w := fun _ => by kernel_rfl
      have i1 : ∀ w, (Instr.index 35 (.agg #[.int .i64 1, .int .i64 5, .int .i64 6]) (.int .i64 1)).run Try.prog w = .ok (.int .i64 5) w := fun _ => by kernel_rfl
      have i2 : ∀ w, (Instr.index 35 (.agg #[.int .i64 1, .int .i64 5, .int .i64 6]) (.int .i64 2)).run Try.prog w = .ok (.int .i64 6) w := fun _ => by kernel_rfl
      rcases (by omega : m = 0 ∨ m = 1 ∨ m = 2 ∨ m = 3) with rfl | rfl | rfl | rfl
      · have D : Hid (∀ W, Calls Try.prog 11 #[.agg (fc 1 s f l), .int .i64 g] W fun e w' => e = .returned (.bool false) ∧ Below W.heap.size W w') := fun W => on_v (onB_f (mt (there_iff 1 s f l g (by omega) HS.out HF.out HL.out).1 HT.out)) W
        have C : Hid (∀ W b, Blk W b 1 s f l → Calls Try.prog 13 #[.slice (some ⟨b, 0, none⟩) 1 1, .int .i64 g, .int .i64 5, .int .i64 n] W fun e w' => e = .returned (.int .i64 n) ∧ Below W.heap.size W w') := fun W b hb => apply_v (L := [⟨1, s, f, l⟩]) (by rw [ap_one, one_off (mt (there_iff 1 s f l g (by omega) HS.out HF.out HL.out).1 HT.out), cl_id HNN.out]) rfl W hb.one
        go_wp2_with fail
        replace HK := Lib.hid (HK.out.set HG.out 1)
        refine (C.out _ _ (Blk.new_at _ 1 s f l (by simp [World.setCell]))).mono ?_
        rintro e W2 ⟨rfl, hb⟩
        replace HK := Lib.hid ((HK.out.grow ((Below.refl _ _).alloc (Nat.le_refl _) _)).grow hb)
        clear hb C
        go_wp2_with (first | (refine ld rfl _ rfl _ _ _ _ _ rfl HK.out.at_ ?_) | (go_at_call 11; (with_reducible refine (D.out _).mono ?_); rintro e W3 ⟨rfl, hb⟩; replace HK := Lib.hid (HK.out.grow hb); clear hb D) | fail)
        go_roundw
        case rel => exact ⟨1, 1, by decide, by go_num, HK.out⟩
        case measure => simp [intOf]
      · have D : Hid (∀ W, Calls Try.prog 11 #[.agg (fc 5 s f l), .int .i64 g] W fun e w' => e = .returned (.bool false) ∧ Below W.heap.size W w') := fun W => on_v (onB_f (mt (there_iff 5 s f l g (by omega) HS.out HF.out HL.out).1 HT.out)) W
        rcases Int.emod_two_eq si with e2 | e2
        · have d6 : (si.tmod 2 != 0) = false := tm0 e2
          have d7 : (si % 2 != 0) = false := by simp [e2]
          clear e2
          have C : Hid (∀ W b, Blk W b 5 s f l → Calls Try.prog 13 #[.slice (some ⟨b, 0, none⟩) 1 1, .int .i64 g, .int .i64 5, .int .i64 n] W fun e w' => e = .returned (.int .i64 n) ∧ Below W.heap.size W w') := fun W b hb => apply_v (L := [⟨5, s, f, l⟩]) (by rw [ap_one, one_off (mt (there_iff 5 s f l g (by omega) HS.out HF.out HL.out).1 HT.out), cl_id HNN.out]) rfl W hb.one
          go_wp2_with fail
          replace HK := Lib.hid (HK.out.set HG.out 5)
          refine (C.out _ _ (Blk.new_at _ 5 s f l (by simp [World.setCell]))).mono ?_
          rintro e W2 ⟨rfl, hb⟩
          replace HK := Lib.hid ((HK.out.grow ((Below.refl _ _).alloc (Nat.le_refl _) _)).grow hb)
          clear hb C
          go_wp2_with (first | (refine ld rfl _ rfl _ _ _ _ _ rfl HK.out.at_ ?_) | (go_at_call 11; (with_reducible refine (D.out _).mono ?_); rintro e W3 ⟨rfl, hb⟩; replace HK := Lib.hid (HK.out.grow hb); clear hb D) | fail)
          go_roundw
          case rel => exact ⟨2, 5, by decide, by go_num, HK.out⟩
          case measure => simp [intOf]
        · have d6 : (si.tmod 2 != 0) = true := tm1 e2
          have d7 : (si % 2 != 0) = true := by simp [e2]
          clear e2
          have C : Hid (∀ W b, Blk W b 5 s f l → Calls Try.prog 13 #[.slice (some ⟨b, 0, none⟩) 1 1, .int .i64 g, .int .i64 5, .int .i64 n] W fun e w' => e = .returned (.int .i64 n) ∧ Below W.heap.size W w') := fun W b hb => apply_v (L := [⟨5, s, f, l⟩]) (by rw [ap_one, one_off (mt (there_iff 5 s f l g (by omega) HS.out HF.out HL.out).1 HT.out), cl_id HNN.out]) rfl W hb.one
          go_wp2_with fail
          replace HK := Lib.hid (HK.out.set HG.out 5)
          refine (C.out _ _ (Blk.new_at _ 5 s f l (by simp [World.setCell]))).mono ?_
          rintro e W2 ⟨rfl, hb⟩
          replace HK := Lib.hid ((HK.out.grow ((Below.refl _ _).alloc (Nat.le_refl _) _)).grow hb)
          clear hb C
          go_wp2_with (first | (refine ld rfl _ rfl _ _ _ _ _ rfl HK.out.at_ ?_) | (go_at_call 11; (with_reducible refine (D.out _).mono ?_); rintro e W3 ⟨rfl, hb⟩; replace HK := Lib.hid (HK.out.grow hb); clear hb D) | fail)
          go_roundw
          case rel => exact ⟨2, 5, by decide, by go_num, HK.out⟩
          case measure => simp [intOf]
      · have D : Hid (∀ W, Calls Try.prog 11 #[.agg (fc 6 s f l), .int .i64 g] W fun e w' => e = .returned (.bool false) ∧ Below W.heap.size W w') := fun W => on_v (onB_f (mt (there_iff 6 s f l g (by omega) HS.out HF.out HL.out).1 HT.out)) W
        have y1 : IntKind.i64.wrap (si + 1) = si + 1 := IntWalk.i64_in _ (by have := HSI2.out; omega)
        have y2 := Fx.mul_abs_le (a := s) (b := si + 1) (A := 32768) (B := 1000) (by have := HS.out; omega) (by have := HS.out; omega) (by have := HSI2.out; omega) (by have := HSI2.out; omega)
        obtain ⟨pp, hpp⟩ : ∃ pp, s * (si + 1) = pp := ⟨_, rfl⟩
        rw [hpp] at y2
        have y3 : IntKind.i64.wrap (s * (si + 1)) = pp := by rw [hpp]; exact IntWalk.i64_in _ (by omega)
        clear hpp
        have C : Hid (∀ W b, Blk W b 6 s f l → Calls Try.prog 13 #[.slice (some ⟨b, 0, none⟩) 1 1, .int .i64 g, .int .i64 5, .int .i64 n] W fun e w' => e = .returned (.int .i64 n) ∧ Below W.heap.size W w') := fun W b hb => apply_v (L := [⟨6, s, f, l⟩]) (by rw [ap_one, one_off (mt (there_iff 6 s f l g (by omega) HS.out HF.out HL.out).1 HT.out), cl_id HNN.out]) rfl W hb.one
        go_wp2_with fail
        replace HK := Lib.hid (HK.out.set HG.out 6)
        refine (C.out _ _ (Blk.new_at _ 6 s f l (by simp [World.setCell]))).mono ?_
        rintro e W2 ⟨rfl, hb⟩
        replace HK := Lib.hid ((HK.out.grow ((Below.refl _ _).alloc (Nat.le_refl _) _)).grow hb)
        clear hb C
        go_wp2_with (first | (refine ld rfl _ rfl _ _ _ _ _ rfl HK.out.at_ ?_) | (go_at_call 11; (with_reducible refine (D.out _).mono ?_); rintro e W3 ⟨rfl, hb⟩; replace HK := Lib.hid (HK.out.grow hb); clear hb D) | fail)
        go_roundw
        case rel => exact ⟨3, 6, by decide, by go_num, HK.out⟩
        case measure => simp [intOf]
      · go_wp2_with fail
        go_ret
        exact ⟨rfl, HK.out.old⟩
  · have t1 : decide (f ≤ g) = false := decide_eq_false (by omega)
    have HT : Hid (¬ (f ≤ g ∧ g < f + l)) := fun h => by omega
    clear q1
    clear hs hf hl hfr hn g1 g2 hsi
    go_enter Try.func7, Try.ntmps7
    go_wp2_with (first | (go_at_call 8; refine (awake_c _).mono ?_; rintro e W1 ⟨rfl, hb⟩; have HB := Lib.hid hb; clear hb) | fail)
    have HG : Hid (w.heap.size ≤ W1.heap.size) := HB.out.size
    have HK0 : Hid (Kp w (W1.alloc (.cells (fc 0 s f l) 27)) W1.heap.size 0 s f l) := ⟨Blk.new W1 0 s f l, HB.out.alloc HB.out.size _⟩
    go_loopw [49] (fun i wr => ∃ (m : Nat) (kk : Int), m ≤ 3 ∧ i = .int .i64 m ∧ Kp w wr W1.heap.size kk s f l) (fun i _ => 3 - (intOf i).toNat)
    case atStart => exact ⟨0, 0, by decide, rfl, HK0.out⟩
    case round =>
      obtain ⟨m, kk, hm, rfl, hk⟩ := hrel
      have HK := Lib.hid hk
      obtain ⟨c0, c1, c2, c3⟩ := hk.at_.fld
      have fz : wr.frozen? ⟨W1.heap.size, 0, none⟩ = false := by simp [World.frozen?, show wr.heap[W1.heap.size]? = _ from hk.at_]
      clear hk HK0
      have i0 : ∀ w, (Instr.index 35 (.agg #[.int .i64 1, .int .i64 5, .int .i64 6]) (.int .i64 0)).run Try.prog w = .ok (.int .i64 1) w := fun _ => by kernel_rfl
      have i1 : ∀ w, (Instr.index 35 (.agg #[.int .i64 1, .int .i64 5, .int .i64 6]) (.int .i64 1)).run Try.prog w = .ok (.int .i64 5) w := fun _ => by kernel_rfl
      have i2 : ∀ w, (Instr.index 35 (.agg #[.int .i64 1, .int .i64 5, .int .i64 6]) (.int .i64 2)).run Try.prog w = .ok (.int .i64 6) w := fun _ => by kernel_rfl
      rcases (by omega : m = 0 ∨ m = 1 ∨ m = 2 ∨ m = 3) with rfl | rfl | rfl | rfl
      · have D : Hid (∀ W, Calls Try.prog 11 #[.agg (fc 1 s f l), .int .i64 g] W fun e w' => e = .returned (.bool false) ∧ Below W.heap.size W w') := fun W => on_v (onB_f (mt (there_iff 1 s f l g (by omega) HS.out HF.out HL.out).1 HT.out)) W
        have C : Hid (∀ W b, Blk W b 1 s f l → Calls Try.prog 13 #[.slice (some ⟨b, 0, none⟩) 1 1, .int .i64 g, .int .i64 5, .int .i64 n] W fun e w' => e = .returned (.int .i64 n) ∧ Below W.heap.size W w') := fun W b hb => apply_v (L := [⟨1, s, f, l⟩]) (by rw [ap_one, one_off (mt (there_iff 1 s f l g (by omega) HS.out HF.out HL.out).1 HT.out), cl_id HNN.out]) rfl W hb.one
        go_wp2_with fail
        replace HK := Lib.hid (HK.out.set HG.out 1)
        refine (C.out _ _ (Blk.new_at _ 1 s f l (by simp [World.setCell]))).mono ?_
        rintro e W2 ⟨rfl, hb⟩
        replace HK := Lib.hid ((HK.out.grow ((Below.refl _ _).alloc (Nat.le_refl _) _)).grow hb)
        clear hb C
        go_wp2_with (first | (refine ld rfl _ rfl _ _ _ _ _ rfl HK.out.at_ ?_) | (go_at_call 11; (with_reducible refine (D.out _).mono ?_); rintro e W3 ⟨rfl, hb⟩; replace HK := Lib.hid (HK.out.grow hb); clear hb D) | fail)
        go_roundw
        case rel => exact ⟨1, 1, by decide, by go_num, HK.out⟩
        case measure => simp [intOf]
      · have D : Hid (∀ W, Calls Try.prog 11 #[.agg (fc 5 s f l), .int .i64 g] W fun e w' => e = .returned (.bool false) ∧ Below W.heap.size W w') := fun W => on_v (onB_f (mt (there_iff 5 s f l g (by omega) HS.out HF.out HL.out).1 HT.out)) W
        rcases Int.emod_two_eq si with e2 | e2
        · have d6 : (si.tmod 2 != 0) = false := tm0 e2
          have d7 : (si % 2 != 0) = false := by simp [e2]
          clear e2
          have C : Hid (∀ W b, Blk W b 5 s f l → Calls Try.prog 13 #[.slice (some ⟨b, 0, none⟩) 1 1, .int .i64 g, .int .i64 5, .int .i64 n] W fun e w' => e = .returned (.int .i64 n) ∧ Below W.heap.size W w') := fun W b hb => apply_v (L := [⟨5, s, f, l⟩]) (by rw [ap_one, one_off (mt (there_iff 5 s f l g (by omega) HS.out HF.out HL.out).1 HT.out), cl_id HNN.out]) rfl W hb.one
          go_wp2_with fail
          replace HK := Lib.hid (HK.out.set HG.out 5)
          refine (C.out _ _ (Blk.new_at _ 5 s f l (by simp [World.setCell]))).mono ?_
          rintro e W2 ⟨rfl, hb⟩
          replace HK := Lib.hid ((HK.out.grow ((Below.refl _ _).alloc (Nat.le_refl _) _)).grow hb)
          clear hb C
          go_wp2_with (first | (refine ld rfl _ rfl _ _ _ _ _ rfl HK.out.at_ ?_) | (go_at_call 11; (with_reducible refine (D.out _).mono ?_); rintro e W3 ⟨rfl, hb⟩; replace HK := Lib.hid (HK.out.grow hb); clear hb D) | fail)
          go_roundw
          case rel => exact ⟨2, 5, by decide, by go_num, HK.out⟩
          case measure => simp [intOf]
        · have d6 : (si.tmod 2 != 0) = true := tm1 e2
          have d7 : (si % 2 != 0) = true := by simp [e2]
          clear e2
          have C : Hid (∀ W b, Blk W b 5 s f l → Calls Try.prog 13 #[.slice (some ⟨b, 0, none⟩) 1 1, .int .i64 g, .int .i64 5, .int .i64 n] W fun e w' => e = .returned (.int .i64 n) ∧ Below W.heap.size W w') := fun W b hb => apply_v (L := [⟨5, s, f, l⟩]) (by rw [ap_one, one_off (mt (there_iff 5 s f l g (by omega) HS.out HF.out HL.out).1 HT.out), cl_id HNN.out]) rfl W hb.one
          go_wp2_with fail
          replace HK := Lib.hid (HK.out.set HG.out 5)
          refine (C.out _ _ (Blk.new_at _ 5 s f l (by simp [World.setCell]))).mono ?_
          rintro e W2 ⟨rfl, hb⟩
          replace HK := Lib.hid ((HK.out.grow ((Below.refl _ _).alloc (Nat.le_refl _) _)).grow hb)
          clear hb C
          go_wp2_with (first | (refine ld rfl _ rfl _ _ _ _ _ rfl HK.out.at_ ?_) | (go_at_call 11; (with_reducible refine (D.out _).mono ?_); rintro e W3 ⟨rfl, hb⟩; replace HK := Lib.hid (HK.out.grow hb); clear hb D) | fail)
          go_roundw
          case rel => exact ⟨2, 5, by decide, by go_num, HK.out⟩
          case measure => simp [intOf]
      · have D : Hid (∀ W, Calls Try.prog 11 #[.agg (fc 6 s f l), .int .i64 g] W fun e w' => e = .returned (.bool false) ∧ Below W.heap.size W w') := fun W => on_v (onB_f (mt (there_iff 6 s f l g (by omega) HS.out HF.out HL.out).1 HT.out)) W
        have y1 : IntKind.i64.wrap (si + 1) = si + 1 := IntWalk.i64_in _ (by have := HSI2.out; omega)
        have y2 := Fx.mul_abs_le (a := s) (b := si + 1) (A := 32768) (B := 1000) (by have := HS.out; omega) (by have := HS.out; omega) (by have := HSI2.out; omega) (by have := HSI2.out; omega)
        obtain ⟨pp, hpp⟩ : ∃ pp, s * (si + 1) = pp := ⟨_, rfl⟩
        rw [hpp] at y2
        have y3 : IntKind.i64.wrap (s * (si + 1)) = pp := by rw [hpp]; exact IntWalk.i64_in _ (by omega)
        clear hpp
        have C : Hid (∀ W b, Blk W b 6 s f l → Calls Try.prog 13 #[.slice (some ⟨b, 0, none⟩) 1 1, .int .i64 g, .int .i64 5, .int .i64 n] W fun e w' => e = .returned (.int .i64 n) ∧ Below W.heap.size W w') := fun W b hb => apply_v (L := [⟨6, s, f, l⟩]) (by rw [ap_one, one_off (mt (there_iff 6 s f l g (by omega) HS.out HF.out HL.out).1 HT.out), cl_id HNN.out]) rfl W hb.one
        go_wp2_with fail
        replace HK := Lib.hid (HK.out.set HG.out 6)
        refine (C.out _ _ (Blk.new_at _ 6 s f l (by simp [World.setCell]))).mono ?_
        rintro e W2 ⟨rfl, hb⟩
        replace HK := Lib.hid ((HK.out.grow ((Below.refl _ _).alloc (Nat.le_refl _) _)).grow hb)
        clear hb C
        go_wp2_with (first | (refine ld rfl _ rfl _ _ _ _ _ rfl HK.out.at_ ?_) | (go_at_call 11; (with_reducible refine (D.out _).mono ?_); rintro e W3 ⟨rfl, hb⟩; replace HK := Lib.hid (HK.out.grow hb); clear hb D) | fail)
        go_roundw
        case rel => exact ⟨3, 6, by decide, by go_num, HK.out⟩
        case measure => simp [intOf]
      · go_wp2_with fail
        go_ret
        exact ⟨rfl, HK.out.old⟩
end Jw
end Go.Proofs.Ytealfomdfnpmpaa
