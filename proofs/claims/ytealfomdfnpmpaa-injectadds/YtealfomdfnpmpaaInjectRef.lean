/- The document's On and Apply; faults in a slice. -/
import Derived.Test.YtealfomdfnpmpaaInjectChange
namespace Go.Proofs.Ytealfomdfnpmpaa
namespace Jw
open Go.RowKit Nj

theorem rcheck_ok {k s f l : Int} (h : Ok ⟨k, s, f, l⟩) (w : World) : Calls Try.prog 10 #[.agg (fc k s f l)] w fun e w' => e = .returned (.int .i64 0) ∧ Below w.heap.size w w' := by
  have := rcheck_c k s f l w
  rwa [err_ok h] at this
theorem rcheck_no {k s f l : Int} (h : ¬ Ok ⟨k, s, f, l⟩) (w : World) : Calls Try.prog 10 #[.agg (fc k s f l)] w fun e w' => e = .returned (.int .i64 1) ∧ Below w.heap.size w w' := by
  have := rcheck_c k s f l w
  rwa [err_no h] at this

set_option maxRecDepth 100000 in
set_option maxHeartbeats 4000000 in
theorem ron_c (k s f l fr : Int) (w : World) : Calls Try.prog 12 #[.agg (fc k s f l), .int .i64 fr] w fun e w' => e = .returned (.bool (onB ⟨k, s, f, l⟩ fr)) ∧ Below w.heap.size w w' := by
  have KP := Lib.hid (Kp.new w k s f l)
  by_cases ho : Ok ⟨k, s, f, l⟩
  · have CK := Lib.hid (fun w => rcheck_ok ho w)
    have HW : Hid (IntKind.i64.wrap (f + l) = f + l) := IntWalk.i64_in _ (by have := ho.2.2.2.2.1; have := ho.2.2.2.2.2.1; have := ho.2.2.2.2.2.2.1; have := ho.2.2.2.2.2.2.2; simp only at *; omega)
    have ET : Hid (k ≠ 0 → f ≤ fr → fr < f + l → onB ⟨k, s, f, l⟩ fr = true) := fun a b c => onB_t ⟨ho, a, b, c⟩
    have EF : Hid (¬ (k ≠ 0 ∧ f ≤ fr ∧ fr < f + l) → onB ⟨k, s, f, l⟩ fr = false) := fun h => onB_f fun o => h o.2
    clear ho
    rcases (by omega : k = 0 ∨ (k ≠ 0 ∧ fr < f) ∨ (k ≠ 0 ∧ f ≤ fr ∧ f + l ≤ fr) ∨ (k ≠ 0 ∧ f ≤ fr ∧ fr < f + l)) with h | ⟨h, g⟩ | ⟨h, g, u⟩ | ⟨h, g, u⟩
    · have E := Lib.hid (EF.out (by omega))
      have d0 : (k != 0) = false := by simp [h]
      clear ET EF h
      go_enter Try.func12, Try.ntmps12
      go_wp2_with (first | (refine ld rfl _ rfl _ _ _ _ _ rfl KP.out.at_ ?_) | (go_at_call 10; (with_reducible refine (CK.out _).mono ?_); rintro e W ⟨rfl, hb⟩; replace KP := Lib.hid (KP.out.grow hb); clear hb CK; have c0 := KP.out.at_.fld.1) | fail)
      go_ret
      exact ⟨ret_bool E.out.symm, KP.out.old⟩
    · have E := Lib.hid (EF.out (by omega))
      clear ET EF
      have d0 : (k != 0) = true := by simp [h]
      have d1 : decide (f ≤ fr) = false := decide_eq_false (by omega)
      clear h g
      go_enter Try.func12, Try.ntmps12
      go_wp2_with (first | (refine ld rfl _ rfl _ _ _ _ _ rfl KP.out.at_ ?_) | (go_at_call 10; (with_reducible refine (CK.out _).mono ?_); rintro e W ⟨rfl, hb⟩; replace KP := Lib.hid (KP.out.grow hb); clear hb CK; obtain ⟨c0, c1, c2, c3⟩ := KP.out.at_.fld) | fail)
      go_ret
      exact ⟨ret_bool E.out.symm, KP.out.old⟩
    · have E := Lib.hid (EF.out (by omega))
      clear ET EF
      have d0 : (k != 0) = true := by simp [h]
      have d1 : decide (f ≤ fr) = true := decide_eq_true (by omega)
      have d2 : decide (fr < f + l) = false := decide_eq_false (by omega)
      have hw := HW.out
      clear h g u
      go_enter Try.func12, Try.ntmps12
      go_wp2_with (first | (refine ld rfl _ rfl _ _ _ _ _ rfl KP.out.at_ ?_) | (go_at_call 10; (with_reducible refine (CK.out _).mono ?_); rintro e W ⟨rfl, hb⟩; replace KP := Lib.hid (KP.out.grow hb); clear hb CK; obtain ⟨c0, c1, c2, c3⟩ := KP.out.at_.fld) | fail)
      go_ret
      exact ⟨ret_bool E.out.symm, KP.out.old⟩
    · have E := Lib.hid (ET.out h g u)
      clear ET EF
      have d0 : (k != 0) = true := by simp [h]
      have d1 : decide (f ≤ fr) = true := decide_eq_true (by omega)
      have d2 : decide (fr < f + l) = true := decide_eq_true (by omega)
      have hw := HW.out
      clear h g u
      go_enter Try.func12, Try.ntmps12
      go_wp2_with (first | (refine ld rfl _ rfl _ _ _ _ _ rfl KP.out.at_ ?_) | (go_at_call 10; (with_reducible refine (CK.out _).mono ?_); rintro e W ⟨rfl, hb⟩; replace KP := Lib.hid (KP.out.grow hb); clear hb CK; obtain ⟨c0, c1, c2, c3⟩ := KP.out.at_.fld) | fail)
      go_ret
      exact ⟨ret_bool E.out.symm, KP.out.old⟩
  · have CK := Lib.hid (fun w => rcheck_no ho w)
    have E : Hid (onB ⟨k, s, f, l⟩ fr = false) := onB_f fun o => ho o.1
    clear ho
    go_enter Try.func12, Try.ntmps12
    go_wp2_with (first | (refine ld rfl _ rfl _ _ _ _ _ rfl KP.out.at_ ?_) | (go_at_call 10; (with_reducible refine (CK.out _).mono ?_); rintro e W ⟨rfl, hb⟩; replace KP := Lib.hid (KP.out.grow hb); clear hb CK; obtain ⟨c0, c1, c2, c3⟩ := KP.out.at_.fld) | fail)
    go_ret
    exact ⟨ret_bool E.out.symm, KP.out.old⟩

/-- Faults in a slice. -/
structure Fls (W : World) (A : Option Addr) (L : List Flt) : Prop where
  len : L.length ≤ 9223372036854775807
  at_ : ∀ i, i < L.length → ∃ b o, A = some ⟨b, o, none⟩ ∧ b < W.heap.size ∧ W.rangeAt b (o + i * 4) (fc (L.getD i zero).k (L.getD i zero).s (L.getD i zero).f (L.getD i zero).l).toList
theorem range_below {n : Nat} {W W' : World} (h : Below n W W') {b o : Nat} {cs : List Value} (hb : b < n) (hr : W.rangeAt b o cs) : W'.rangeAt b o cs := fun j v hv => (h.cell (p := ⟨b, o + j, none⟩) hb).trans (hr j v hv)
theorem Fls.below {W W' : World} {A : Option Addr} {L : List Flt} (h : Fls W A L) (hb : Below W.heap.size W W') : Fls W' A L :=
  ⟨h.len, fun i hi => by
    obtain ⟨b, o, e, hl, hr⟩ := h.at_ i hi
    exact ⟨b, o, e, Nat.lt_of_lt_of_le hl hb.size, range_below hb hl hr⟩⟩
/-- A fault in the midst of a block: its cells, one by one. -/
theorem range_cells {W : World} {b o : Nat} {k s f l : Int} (h : W.rangeAt b o (fc k s f l).toList) :
    W.cell? ⟨b, o, none⟩ = some (.int .i64 k) ∧ W.cell? ⟨b, o + 1, none⟩ = some (.int .i64 s) ∧ W.cell? ⟨b, o + 2, none⟩ = some (.int .i64 f) ∧ W.cell? ⟨b, o + 3, none⟩ = some (.int .i64 l) :=
  ⟨h 0 _ rfl, h 1 _ rfl, h 2 _ rfl, h 3 _ rfl⟩
/-- A fault loaded out of the midst of a block. -/
theorem ldm {ops : Array Oper} {rest : List Oper} {op : Oper} {a : Act} {w : World} {Q : Exit → Act → World → Prop} (hw : Region.wanted op (yielded ops a.tmps) = true) (x : Operand) (ho : op.op = .load 27 x)
    (b off : Nat) (k s f l : Int) (hx : a.eval x = .pointer (some ⟨b, off, none⟩)) (hP : w.rangeAt b off (fc k s f l).toList)
    (c : wpList Try.prog ops Q rest (a.put op.dst (.agg (fc k s f l))) w) : wpList Try.prog ops Q (op :: rest) a w :=
  wpList_wanted hw fun _ hK => wp_load_mid 27 x ho b off hx (fc k s f l).toList _ hP Try.underlying27 rfl info_fc (hK _ _ c)

theorem wh_1 {k s f l si la c : Int} (h : k = 1) : wh ⟨k, s, f, l⟩ si la c = c + s := if_pos h
theorem wh_2 {k s f l si la c : Int} (h : k = 2) : wh ⟨k, s, f, l⟩ si la c = la := by subst h; rfl
theorem wh_3 {k s f l si la c : Int} (h : k = 3) : wh ⟨k, s, f, l⟩ si la c = 65535 := by subst h; rfl
theorem wh_4 {k s f l si la c : Int} (h : k = 4) : wh ⟨k, s, f, l⟩ si la c = 0 := by subst h; rfl
theorem wh_5 {k s f l si la c : Int} (h : k = 5) (g : si.tmod 2 = 0) : wh ⟨k, s, f, l⟩ si la c = c + s := by
  subst h; show (if si.tmod 2 = 0 then c + s else c) = _; rw [if_pos g]
theorem wh_5n {k s f l si la c : Int} (h : k = 5) (g : ¬ si.tmod 2 = 0) : wh ⟨k, s, f, l⟩ si la c = c := by
  subst h; show (if si.tmod 2 = 0 then c + s else c) = _; rw [if_neg g]
theorem wh_6 {k s f l si la c : Int} (h : k = 6) : wh ⟨k, s, f, l⟩ si la c = c + s * (si + 1) := by subst h; rfl

theorem getD_eta (L : List Flt) (i : Nat) : ∃ k s f l, L.getD i zero = ⟨k, s, f, l⟩ := ⟨_, _, _, _, rfl⟩

set_option maxRecDepth 100000 in
set_option maxHeartbeats 8000000 in
theorem rapply_c (A : Option Addr) (n cp : Nat) (L : List Flt) (fr la c : Int) (hn : L.length = n) (w : World) (hA : Fls w A L) :
    Calls Try.prog 14 #[.slice A n cp, .int .i64 fr, .int .i64 la, .int .i64 c] w fun e w' => e = .returned (.int .i64 (ap L fr la c)) ∧ Below w.heap.size w w' := by
  have HA := Lib.hid hA
  have HN := Lib.hid hn
  have hlen : n ≤ 9223372036854775807 := by rw [← hn]; exact hA.len
  clear hA hn
  go_enter Try.func14, Try.ntmps14
  go_wp2_with (first | (go_at_call 19; refine (count_c _ _).mono ?_; rintro e w' ⟨rfl, rfl⟩) | fail)
  go_loopw [9, 10] (fun t i wr => ∃ (m : Nat) (x : Int), m ≤ n ∧ i = .int .i64 m ∧ t = .int .i64 x ∧ ap (L.take m) fr la c = x ∧ Below w.heap.size w wr) (fun _ i _ => n - (intOf i).toNat)
  case atStart => exact ⟨0, _, Nat.zero_le _, rfl, rfl, rfl, Below.refl _ _⟩
  case round =>
    obtain ⟨m, x, hm, rfl, rfl, hx, hb⟩ := hrel
    have HB := Lib.hid hb
    have hxi := ap_in (L.take m) fr la c
    rw [hx] at hxi
    by_cases hlt : m < n
    · obtain ⟨b, o, rfl, hbl, hr0⟩ := HA.out.at_ m (by rw [HN.out]; exact hlt)
      have HS : Hid (ap (L.take (m + 1)) fr la c = one fr la x (L.getD m zero)) := by show _ = _; rw [take_snoc (by rw [HN.out]; exact hlt), ap_snoc, hx]
      obtain ⟨k, s, f, l, ej⟩ := getD_eta L m
      rw [ej] at HS hr0
      have HR := Lib.hid (fun W (hb : Below w.heap.size w W) => range_below hb hbl hr0)
      clear hr0 hx hb ej
      by_cases hon : On ⟨k, s, f, l⟩ fr
      · have CO : Hid (∀ W, Calls Try.prog 12 #[.agg (fc k s f l), .int .i64 fr] W fun e w' => e = .returned (.bool true) ∧ Below W.heap.size W w') := fun W => by
          have := ron_c k s f l fr W
          rwa [onB_t hon] at this
        rw [one_on hon] at HS
        obtain ⟨⟨h1, h2, h3, h4, h5, h6, h7, h8⟩, h9, h10, h11⟩ := hon
        simp only at h1 h2 h3 h4 h5 h6 h7 h8 h9 h10 h11 HS
        obtain ⟨si, hsi⟩ : ∃ si, fr - f = si := ⟨_, rfl⟩
        rw [hsi] at HS
        have w1 : IntKind.i64.wrap (fr - f) = si := by rw [IntWalk.i64_in _ (by omega), hsi]
        have q1 : 0 ≤ si := by omega
        have q2 : si < 1073741824 := by omega
        clear hsi h5 h6 h7 h8 h10 h11
        rcases (by omega : k = 1 ∨ k = 2 ∨ k = 3 ∨ k = 4 ∨ (k = 5 ∧ si.tmod 2 = 0) ∨ (k = 5 ∧ ¬ si.tmod 2 = 0) ∨ k = 6) with h | h | h | h | ⟨h, g⟩ | ⟨h, g⟩ | h
        · rw [wh_1 h] at HS
          have d1 : (k == 1) = true := by simp [h]
          have w2 : IntKind.i64.wrap (x + s) = x + s := IntWalk.i64_in _ (by omega)
          clear h h1 h2 h9
          go_wp2_with (first | (refine ldm rfl _ rfl _ _ _ _ _ _ rfl (HR.out _ HB.out) ?_) | (go_at_call 12; (with_reducible refine (CO.out _).mono ?_); rintro e W ⟨rfl, hb⟩; replace HB := Lib.hid (HB.out.trans (hb.mono HB.out.size)); clear hb CO; obtain ⟨c0, c1, c2, c3⟩ := range_cells (HR.out _ HB.out)) | (go_at_call 19; refine (count_c _ _).mono ?_; rintro e w' ⟨rfl, rfl⟩) | fail)
          go_roundw
          case rel => exact ⟨m + 1, _, by omega, by go_num, rfl, HS.out, HB.out⟩
          case measure => simp [intOf]; omega
        · rw [wh_2 h] at HS
          have d1 : (k == 1) = false := by simp [h]
          have d2 : (k == 2) = true := by simp [h]
          clear h h1 h2 h9
          go_wp2_with (first | (refine ldm rfl _ rfl _ _ _ _ _ _ rfl (HR.out _ HB.out) ?_) | (go_at_call 12; (with_reducible refine (CO.out _).mono ?_); rintro e W ⟨rfl, hb⟩; replace HB := Lib.hid (HB.out.trans (hb.mono HB.out.size)); clear hb CO; obtain ⟨c0, c1, c2, c3⟩ := range_cells (HR.out _ HB.out)) | (go_at_call 19; refine (count_c _ _).mono ?_; rintro e w' ⟨rfl, rfl⟩) | fail)
          go_roundw
          case rel => exact ⟨m + 1, _, by omega, by go_num, rfl, HS.out, HB.out⟩
          case measure => simp [intOf]; omega
        · rw [wh_3 h] at HS
          have d1 : (k == 1) = false := by simp [h]
          have d2 : (k == 2) = false := by simp [h]
          have d3 : (k == 3) = true := by simp [h]
          clear h h1 h2 h9
          go_wp2_with (first | (refine ldm rfl _ rfl _ _ _ _ _ _ rfl (HR.out _ HB.out) ?_) | (go_at_call 12; (with_reducible refine (CO.out _).mono ?_); rintro e W ⟨rfl, hb⟩; replace HB := Lib.hid (HB.out.trans (hb.mono HB.out.size)); clear hb CO; obtain ⟨c0, c1, c2, c3⟩ := range_cells (HR.out _ HB.out)) | (go_at_call 19; refine (count_c _ _).mono ?_; rintro e w' ⟨rfl, rfl⟩) | fail)
          go_roundw
          case rel => exact ⟨m + 1, _, by omega, by go_num, rfl, HS.out, HB.out⟩
          case measure => simp [intOf]; omega
        · rw [wh_4 h] at HS
          have d1 : (k == 1) = false := by simp [h]
          have d2 : (k == 2) = false := by simp [h]
          have d3 : (k == 3) = false := by simp [h]
          have d4 : (k == 4) = true := by simp [h]
          clear h h1 h2 h9
          go_wp2_with (first | (refine ldm rfl _ rfl _ _ _ _ _ _ rfl (HR.out _ HB.out) ?_) | (go_at_call 12; (with_reducible refine (CO.out _).mono ?_); rintro e W ⟨rfl, hb⟩; replace HB := Lib.hid (HB.out.trans (hb.mono HB.out.size)); clear hb CO; obtain ⟨c0, c1, c2, c3⟩ := range_cells (HR.out _ HB.out)) | (go_at_call 19; refine (count_c _ _).mono ?_; rintro e w' ⟨rfl, rfl⟩) | fail)
          go_roundw
          case rel => exact ⟨m + 1, _, by omega, by go_num, rfl, HS.out, HB.out⟩
          case measure => simp [intOf]; omega
        · rw [wh_5 h g] at HS
          have d1 : (k == 1) = false := by simp [h]
          have d2 : (k == 2) = false := by simp [h]
          have d3 : (k == 3) = false := by simp [h]
          have d4 : (k == 4) = false := by simp [h]
          have d5 : (k == 5) = true := by simp [h]
          have d6 : (si.tmod 2 == 0) = true := by simp [g]
          have d7 : (si % 2 == 0) = true := by rw [← Int.tmod_eq_emod_of_nonneg q1]; exact d6
          have w2 : IntKind.i64.wrap (x + s) = x + s := IntWalk.i64_in _ (by omega)
          clear g
          clear h h1 h2 h9
          go_wp2_with (first | (refine ldm rfl _ rfl _ _ _ _ _ _ rfl (HR.out _ HB.out) ?_) | (go_at_call 12; (with_reducible refine (CO.out _).mono ?_); rintro e W ⟨rfl, hb⟩; replace HB := Lib.hid (HB.out.trans (hb.mono HB.out.size)); clear hb CO; obtain ⟨c0, c1, c2, c3⟩ := range_cells (HR.out _ HB.out)) | (go_at_call 19; refine (count_c _ _).mono ?_; rintro e w' ⟨rfl, rfl⟩) | fail)
          go_roundw
          case rel => exact ⟨m + 1, _, by omega, by go_num, rfl, HS.out, HB.out⟩
          case measure => simp [intOf]; omega
        · rw [wh_5n h g, cl_id hxi] at HS
          have d1 : (k == 1) = false := by simp [h]
          have d2 : (k == 2) = false := by simp [h]
          have d3 : (k == 3) = false := by simp [h]
          have d4 : (k == 4) = false := by simp [h]
          have d5 : (k == 5) = true := by simp [h]
          have d6 : (si.tmod 2 == 0) = false := by simp [g]
          have d7 : (si % 2 == 0) = false := by rw [← Int.tmod_eq_emod_of_nonneg q1]; exact d6
          clear g
          clear h h1 h2 h9
          go_wp2_with (first | (refine ldm rfl _ rfl _ _ _ _ _ _ rfl (HR.out _ HB.out) ?_) | (go_at_call 12; (with_reducible refine (CO.out _).mono ?_); rintro e W ⟨rfl, hb⟩; replace HB := Lib.hid (HB.out.trans (hb.mono HB.out.size)); clear hb CO; obtain ⟨c0, c1, c2, c3⟩ := range_cells (HR.out _ HB.out)) | (go_at_call 19; refine (count_c _ _).mono ?_; rintro e w' ⟨rfl, rfl⟩) | fail)
          go_roundw
          case rel => exact ⟨m + 1, _, by omega, by go_num, rfl, HS.out, HB.out⟩
          case measure => simp [intOf]; omega
        · rw [wh_6 h] at HS
          have d1 : (k == 1) = false := by simp [h]
          have d2 : (k == 2) = false := by simp [h]
          have d3 : (k == 3) = false := by simp [h]
          have d4 : (k == 4) = false := by simp [h]
          have d5 : (k == 5) = false := by simp [h]
          have d6 : (k == 6) = true := by simp [h]
          have HM := Fx.mul_abs_le (a := s) (b := si + 1) (A := 65535) (B := 1073741824) (by omega) (by omega) (by omega) (by omega)
          obtain ⟨p, hp⟩ : ∃ p, s * (si + 1) = p := ⟨_, rfl⟩
          rw [hp] at HS HM
          have w2 : IntKind.i64.wrap (si + 1) = si + 1 := IntWalk.i64_in _ (by omega)
          have w3 : IntKind.i64.wrap (s * (si + 1)) = p := by rw [hp]; exact IntWalk.i64_in _ (by omega)
          have w4 : IntKind.i64.wrap (x + p) = x + p := IntWalk.i64_in _ (by omega)
          clear hp HM
          clear h h1 h2 h9
          go_wp2_with (first | (refine ldm rfl _ rfl _ _ _ _ _ _ rfl (HR.out _ HB.out) ?_) | (go_at_call 12; (with_reducible refine (CO.out _).mono ?_); rintro e W ⟨rfl, hb⟩; replace HB := Lib.hid (HB.out.trans (hb.mono HB.out.size)); clear hb CO; obtain ⟨c0, c1, c2, c3⟩ := range_cells (HR.out _ HB.out)) | (go_at_call 19; refine (count_c _ _).mono ?_; rintro e w' ⟨rfl, rfl⟩) | fail)
          go_roundw
          case rel => exact ⟨m + 1, _, by omega, by go_num, rfl, HS.out, HB.out⟩
          case measure => simp [intOf]; omega
      · have CO : Hid (∀ W, Calls Try.prog 12 #[.agg (fc k s f l), .int .i64 fr] W fun e w' => e = .returned (.bool false) ∧ Below W.heap.size W w') := fun W => by
          have := ron_c k s f l fr W
          rwa [onB_f hon] at this
        rw [one_off hon] at HS
        clear hon
        go_wp2_with (first | (refine ldm rfl _ rfl _ _ _ _ _ _ rfl (HR.out _ HB.out) ?_) | (go_at_call 12; (with_reducible refine (CO.out _).mono ?_); rintro e W ⟨rfl, hb⟩; replace HB := Lib.hid (HB.out.trans (hb.mono HB.out.size)); clear hb CO) | fail)
        go_roundw
        case rel => exact ⟨m + 1, x, by omega, by go_num, rfl, HS.out, HB.out⟩
        case measure => simp [intOf]; omega
    · obtain rfl : m = n := by omega
      have E : Hid (ap L fr la c = x) := by rw [← hx, List.take_of_length_le (by rw [HN.out]; exact Nat.le_refl _)]; rfl
      clear hx hb
      go_wp2_with fail
      go_ret
      exact ⟨FixC.ret_int E.out.symm, HB.out⟩
end Jw
end Go.Proofs.Ytealfomdfnpmpaa
