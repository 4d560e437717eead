/- Whether a value is wrong: check.Wrong. -/
import Derived.Test.YtimflomgaknoaaaCheckSame
import Derived.WalkMore
import Derived.ScopeJumps
namespace Go.Proofs.Ytimflomgaknoaaa
namespace Cw
open Go.RowKit Ck Lk

theorem scope_once {c rest : Code} {Q : Exit → Act → World → Prop} {a : Act} {w : World} (l : Nat) (J : Act → World → Prop) (μ : Act → World → Nat) (hf : findLabel c l = some (Code.skip.seq rest))
    (first : (∀ a w, J a w → rest.wp Try.prog (Exit.jump l J Q) a w) → c.wp Try.prog (Exit.jump l J Q) a w)
    (pass : ∀ a w, J a w → rest.wp Try.prog (Exit.jump l (fun a' w' => J a' w' ∧ μ a' w' < μ a w) Q) a w) : (Code.scope c).wp Try.prog Q a w := by
  refine wp_scope_jumps l J μ hf (first fun a w h => Code.wp_mono (fun e a' w' hq => ?_) (pass a w h)) (fun a w h => wp_seq (wp_skip (pass a w h)))
  cases e with
  | goto l' => exact ⟨hq.1, hq.2.1⟩
  | _ => exact hq
theorem two_lw (w : World) (l : Lm) (x : Wa) : Hv w ((w.alloc (lob l)).alloc (wob x)) [(w.heap.size + 1, wob x), (w.heap.size, lob l)] := by
  have := ((Hv.nil w).made (lob l)).made (wob x)
  rwa [World.size_alloc] at this
theorem same_v {x : Wa} {v r : Int} (h : Ck.same x v = r) (w : World) : Calls Try.prog 17 #[.agg (wc x), .int .i64 v] w fun e w' => e = .returned (.int .i64 r) ∧ Below w.heap.size w w' := h ▸ same_c x v w
theorem sub_v {a b d : Int} (h : Fx.sub a b = d) (w : World) : Calls Try.prog 21 #[.int .i64 a, .int .i64 b] w fun e w' => e = .returned (.int .i64 d) ∧ w = w' := h ▸ FixC.sub_c a b w
/-- At the label: all that lay is as it was. -/
def Jw (w : World) (a' : Act) (w' : World) : Prop := ∃ (u0 u1 u2 u3 u4 u5 u6 u7 u8 u9 u10 u11 u12 u13 u14 u15 u16 u17 u18 u19 u20 u21 u22 u23 u24 u25 u26 u27 u28 u29 u30 u31 u32 u33 u34 u35 u36 u37 u38 u39 u40 u41 u42 u43 u44 u45 u46 u47 u48 u49 u50 : Value), a' = { tmps := #[u0, u1, u2, u3, u4, u5, u6, u7, u8, u9, u10, u11, u12, u13, u14, u15, u16, u17, u18, u19, u20, u21, u22, u23, u24, u25, u26, u27, u28, u29, u30, u31, u32, u33, u34, u35, u36, u37, u38, u39, u40, u41, u42, u43, u44, u45, u46, u47, u48, u49, u50], defers := [] } ∧ Below w.heap.size w w'

set_option maxRecDepth 100000 in
set_option maxHeartbeats 4000000 in
theorem wrong_1 (l : Lm) (la sm wr ri : Int) (lo be : Bool) (v d r : Int) (hk : ¬ Ok l) (hs : Ck.same ⟨la, sm, wr, ri, lo, be⟩ v = r) (hd : Fx.sub v la = d) (w : World) :
    Calls Try.prog 12 #[.agg (lc l), .agg (wc ⟨la, sm, wr, ri, lo, be⟩), .int .i64 v] w fun e w' => e = .returned (.bool true) ∧ Below w.heap.size w w' := by
  have HV := Lib.hid (two_lw w l ⟨la, sm, wr, ri, lo, be⟩)
  have CK := Lib.hid (check_no hk)
  have CD := Lib.hid (fun W => sub_v hd W)
  have CS := Lib.hid (fun W => same_v hs W)
  clear hk
  go_enter Try.func12, Try.ntmps12
  go_wp2_with fail
  refine scope_once 0 (Jw w) (fun _ _ => 0) rfl ?_ ?_
  · intro hrest
    clear hrest
    go_wp2_with (first | (refine ldl rfl _ rfl _ _ rfl HV.out.h2 ?_) | (go_at_call 21; (with_reducible refine (CD.out _).mono ?_); rintro e w' ⟨rfl, rfl⟩) | (go_at_call 10; (with_reducible refine (CK.out _).mono ?_); rintro e W ⟨rfl, hb⟩; replace HV := Lib.hid (HV.out.grow hb); clear hb CK; obtain ⟨c0, c1, c2, c3, c4, c5⟩ := lfld HV.out.h2; obtain ⟨k0, k1, k2, k3, k4, k5⟩ := wfld HV.out.head) | fail)
    go_step3
    exact ⟨rfl, _, _, _, _, _, _, _, _, _, _, _, _, _, _, _, _, _, _, _, _, _, _, _, _, _, _, _, _, _, _, _, _, _, _, _, _, _, _, _, _, _, _, _, _, _, _, _, _, _, _, _, rfl, HV.out.old⟩
  · rintro a' W ⟨u0, u1, u2, u3, u4, u5, u6, u7, u8, u9, u10, u11, u12, u13, u14, u15, u16, u17, u18, u19, u20, u21, u22, u23, u24, u25, u26, u27, u28, u29, u30, u31, u32, u33, u34, u35, u36, u37, u38, u39, u40, u41, u42, u43, u44, u45, u46, u47, u48, u49, u50, rfl, hb⟩
    have HB := Lib.hid hb
    clear hb
    go_wp2_with fail
    simp only [Exit.jump]
    go_ret
    exact ⟨rfl, HB.out⟩

set_option maxRecDepth 100000 in
set_option maxHeartbeats 4000000 in
theorem wrong_2 (l : Lm) (la sm wr ri : Int) (lo be : Bool) (v d r : Int) (hk : Ok l) (h1 : v < l.lo) (hs : Ck.same ⟨la, sm, wr, ri, lo, be⟩ v = r) (hd : Fx.sub v la = d) (w : World) :
    Calls Try.prog 12 #[.agg (lc l), .agg (wc ⟨la, sm, wr, ri, lo, be⟩), .int .i64 v] w fun e w' => e = .returned (.bool true) ∧ Below w.heap.size w w' := by
  have HV := Lib.hid (two_lw w l ⟨la, sm, wr, ri, lo, be⟩)
  have CK := Lib.hid (check_ok hk)
  have CD := Lib.hid (fun W => sub_v hd W)
  have CS := Lib.hid (fun W => same_v hs W)
  have d1 : decide (v < l.lo) = true := decide_eq_true (by omega)
  clear hk h1
  go_enter Try.func12, Try.ntmps12
  go_wp2_with fail
  refine scope_once 0 (Jw w) (fun _ _ => 0) rfl ?_ ?_
  · intro hrest
    clear hrest
    go_wp2_with (first | (refine ldl rfl _ rfl _ _ rfl HV.out.h2 ?_) | (go_at_call 21; (with_reducible refine (CD.out _).mono ?_); rintro e w' ⟨rfl, rfl⟩) | (go_at_call 10; (with_reducible refine (CK.out _).mono ?_); rintro e W ⟨rfl, hb⟩; replace HV := Lib.hid (HV.out.grow hb); clear hb CK; obtain ⟨c0, c1, c2, c3, c4, c5⟩ := lfld HV.out.h2; obtain ⟨k0, k1, k2, k3, k4, k5⟩ := wfld HV.out.head) | fail)
    go_step3
    exact ⟨rfl, _, _, _, _, _, _, _, _, _, _, _, _, _, _, _, _, _, _, _, _, _, _, _, _, _, _, _, _, _, _, _, _, _, _, _, _, _, _, _, _, _, _, _, _, _, _, _, _, _, _, _, rfl, HV.out.old⟩
  · rintro a' W ⟨u0, u1, u2, u3, u4, u5, u6, u7, u8, u9, u10, u11, u12, u13, u14, u15, u16, u17, u18, u19, u20, u21, u22, u23, u24, u25, u26, u27, u28, u29, u30, u31, u32, u33, u34, u35, u36, u37, u38, u39, u40, u41, u42, u43, u44, u45, u46, u47, u48, u49, u50, rfl, hb⟩
    have HB := Lib.hid hb
    clear hb
    go_wp2_with fail
    simp only [Exit.jump]
    go_ret
    exact ⟨rfl, HB.out⟩

set_option maxRecDepth 100000 in
set_option maxHeartbeats 4000000 in
theorem wrong_3 (l : Lm) (la sm wr ri : Int) (lo be : Bool) (v d r : Int) (hk : Ok l) (h1 : l.lo ≤ v) (h2 : l.hi < v) (hs : Ck.same ⟨la, sm, wr, ri, lo, be⟩ v = r) (hd : Fx.sub v la = d) (w : World) :
    Calls Try.prog 12 #[.agg (lc l), .agg (wc ⟨la, sm, wr, ri, lo, be⟩), .int .i64 v] w fun e w' => e = .returned (.bool true) ∧ Below w.heap.size w w' := by
  have HV := Lib.hid (two_lw w l ⟨la, sm, wr, ri, lo, be⟩)
  have CK := Lib.hid (check_ok hk)
  have CD := Lib.hid (fun W => sub_v hd W)
  have CS := Lib.hid (fun W => same_v hs W)
  have d1 : decide (v < l.lo) = false := decide_eq_false (by omega)
  have d2 : decide (l.hi < v) = true := decide_eq_true (by omega)
  clear hk h1 h2
  go_enter Try.func12, Try.ntmps12
  go_wp2_with fail
  refine scope_once 0 (Jw w) (fun _ _ => 0) rfl ?_ ?_
  · intro hrest
    clear hrest
    go_wp2_with (first | (refine ldl rfl _ rfl _ _ rfl HV.out.h2 ?_) | (go_at_call 21; (with_reducible refine (CD.out _).mono ?_); rintro e w' ⟨rfl, rfl⟩) | (go_at_call 10; (with_reducible refine (CK.out _).mono ?_); rintro e W ⟨rfl, hb⟩; replace HV := Lib.hid (HV.out.grow hb); clear hb CK; obtain ⟨c0, c1, c2, c3, c4, c5⟩ := lfld HV.out.h2; obtain ⟨k0, k1, k2, k3, k4, k5⟩ := wfld HV.out.head) | fail)
    go_step3
    exact ⟨rfl, _, _, _, _, _, _, _, _, _, _, _, _, _, _, _, _, _, _, _, _, _, _, _, _, _, _, _, _, _, _, _, _, _, _, _, _, _, _, _, _, _, _, _, _, _, _, _, _, _, _, _, rfl, HV.out.old⟩
  · rintro a' W ⟨u0, u1, u2, u3, u4, u5, u6, u7, u8, u9, u10, u11, u12, u13, u14, u15, u16, u17, u18, u19, u20, u21, u22, u23, u24, u25, u26, u27, u28, u29, u30, u31, u32, u33, u34, u35, u36, u37, u38, u39, u40, u41, u42, u43, u44, u45, u46, u47, u48, u49, u50, rfl, hb⟩
    have HB := Lib.hid hb
    clear hb
    go_wp2_with fail
    simp only [Exit.jump]
    go_ret
    exact ⟨rfl, HB.out⟩

set_option maxRecDepth 100000 in
set_option maxHeartbeats 4000000 in
theorem wrong_4 (l : Lm) (la sm wr ri : Int) (lo : Bool) (v d r : Int) (hk : Ok l) (h1 : l.lo ≤ v) (h2 : v ≤ l.hi) (h3 : l.ra < d) (hs : Ck.same ⟨la, sm, wr, ri, lo, true⟩ v = r) (hd : Fx.sub v la = d) (w : World) :
    Calls Try.prog 12 #[.agg (lc l), .agg (wc ⟨la, sm, wr, ri, lo, true⟩), .int .i64 v] w fun e w' => e = .returned (.bool true) ∧ Below w.heap.size w w' := by
  have HV := Lib.hid (two_lw w l ⟨la, sm, wr, ri, lo, true⟩)
  have CK := Lib.hid (check_ok hk)
  have CD := Lib.hid (fun W => sub_v hd W)
  have CS := Lib.hid (fun W => same_v hs W)
  have d1 : decide (v < l.lo) = false := decide_eq_false (by omega)
  have d2 : decide (l.hi < v) = false := decide_eq_false (by omega)
  have d3 : decide (l.ra < d) = true := decide_eq_true (by omega)
  clear hk h1 h2 h3
  go_enter Try.func12, Try.ntmps12
  go_wp2_with fail
  refine scope_once 0 (Jw w) (fun _ _ => 0) rfl ?_ ?_
  · intro hrest
    clear hrest
    go_wp2_with (first | (refine ldl rfl _ rfl _ _ rfl HV.out.h2 ?_) | (go_at_call 21; (with_reducible refine (CD.out _).mono ?_); rintro e w' ⟨rfl, rfl⟩) | (go_at_call 10; (with_reducible refine (CK.out _).mono ?_); rintro e W ⟨rfl, hb⟩; replace HV := Lib.hid (HV.out.grow hb); clear hb CK; obtain ⟨c0, c1, c2, c3, c4, c5⟩ := lfld HV.out.h2; obtain ⟨k0, k1, k2, k3, k4, k5⟩ := wfld HV.out.head) | fail)
    go_step3
    exact ⟨rfl, _, _, _, _, _, _, _, _, _, _, _, _, _, _, _, _, _, _, _, _, _, _, _, _, _, _, _, _, _, _, _, _, _, _, _, _, _, _, _, _, _, _, _, _, _, _, _, _, _, _, _, rfl, HV.out.old⟩
  · rintro a' W ⟨u0, u1, u2, u3, u4, u5, u6, u7, u8, u9, u10, u11, u12, u13, u14, u15, u16, u17, u18, u19, u20, u21, u22, u23, u24, u25, u26, u27, u28, u29, u30, u31, u32, u33, u34, u35, u36, u37, u38, u39, u40, u41, u42, u43, u44, u45, u46, u47, u48, u49, u50, rfl, hb⟩
    have HB := Lib.hid hb
    clear hb
    go_wp2_with fail
    simp only [Exit.jump]
    go_ret
    exact ⟨rfl, HB.out⟩

set_option maxRecDepth 100000 in
set_option maxHeartbeats 4000000 in
theorem wrong_5 (l : Lm) (la sm wr ri : Int) (lo : Bool) (v d r : Int) (hk : Ok l) (h1 : l.lo ≤ v) (h2 : v ≤ l.hi) (h3 : d ≤ l.ra) (h4 : d < -l.ra) (hs : Ck.same ⟨la, sm, wr, ri, lo, true⟩ v = r) (hd : Fx.sub v la = d) (w : World) :
    Calls Try.prog 12 #[.agg (lc l), .agg (wc ⟨la, sm, wr, ri, lo, true⟩), .int .i64 v] w fun e w' => e = .returned (.bool true) ∧ Below w.heap.size w w' := by
  have HV := Lib.hid (two_lw w l ⟨la, sm, wr, ri, lo, true⟩)
  have CK := Lib.hid (check_ok hk)
  have CD := Lib.hid (fun W => sub_v hd W)
  have CS := Lib.hid (fun W => same_v hs W)
  have ra1 := hk.2.2.1.1; have ra2 := hk.2.2.1.2; have hw : IntKind.i64.wrap (-l.ra) = -l.ra := IntWalk.i64_in _ (by omega)
  have d1 : decide (v < l.lo) = false := decide_eq_false (by omega)
  have d2 : decide (l.hi < v) = false := decide_eq_false (by omega)
  have d3 : decide (l.ra < d) = false := decide_eq_false (by omega)
  have d4 : decide (d < -l.ra) = true := decide_eq_true (by omega)
  clear hk h1 h2 h3 h4
  go_enter Try.func12, Try.ntmps12
  go_wp2_with fail
  refine scope_once 0 (Jw w) (fun _ _ => 0) rfl ?_ ?_
  · intro hrest
    clear hrest
    go_wp2_with (first | (refine ldl rfl _ rfl _ _ rfl HV.out.h2 ?_) | (go_at_call 21; (with_reducible refine (CD.out _).mono ?_); rintro e w' ⟨rfl, rfl⟩) | (go_at_call 10; (with_reducible refine (CK.out _).mono ?_); rintro e W ⟨rfl, hb⟩; replace HV := Lib.hid (HV.out.grow hb); clear hb CK; obtain ⟨c0, c1, c2, c3, c4, c5⟩ := lfld HV.out.h2; obtain ⟨k0, k1, k2, k3, k4, k5⟩ := wfld HV.out.head) | fail)
    go_step3
    exact ⟨rfl, _, _, _, _, _, _, _, _, _, _, _, _, _, _, _, _, _, _, _, _, _, _, _, _, _, _, _, _, _, _, _, _, _, _, _, _, _, _, _, _, _, _, _, _, _, _, _, _, _, _, _, rfl, HV.out.old⟩
  · rintro a' W ⟨u0, u1, u2, u3, u4, u5, u6, u7, u8, u9, u10, u11, u12, u13, u14, u15, u16, u17, u18, u19, u20, u21, u22, u23, u24, u25, u26, u27, u28, u29, u30, u31, u32, u33, u34, u35, u36, u37, u38, u39, u40, u41, u42, u43, u44, u45, u46, u47, u48, u49, u50, rfl, hb⟩
    have HB := Lib.hid hb
    clear hb
    go_wp2_with fail
    simp only [Exit.jump]
    go_ret
    exact ⟨rfl, HB.out⟩

set_option maxRecDepth 100000 in
set_option maxHeartbeats 4000000 in
theorem wrong_6 (l : Lm) (la sm wr ri : Int) (lo : Bool) (v d r : Int) (hk : Ok l) (h1 : l.lo ≤ v) (h2 : v ≤ l.hi) (h3 : d ≤ l.ra) (h4 : -l.ra ≤ d) (h5 : l.st ≠ 0) (h6 : l.st ≤ r) (hs : Ck.same ⟨la, sm, wr, ri, lo, true⟩ v = r) (hd : Fx.sub v la = d) (w : World) :
    Calls Try.prog 12 #[.agg (lc l), .agg (wc ⟨la, sm, wr, ri, lo, true⟩), .int .i64 v] w fun e w' => e = .returned (.bool true) ∧ Below w.heap.size w w' := by
  have HV := Lib.hid (two_lw w l ⟨la, sm, wr, ri, lo, true⟩)
  have CK := Lib.hid (check_ok hk)
  have CD := Lib.hid (fun W => sub_v hd W)
  have CS := Lib.hid (fun W => same_v hs W)
  have ra1 := hk.2.2.1.1; have ra2 := hk.2.2.1.2; have hw : IntKind.i64.wrap (-l.ra) = -l.ra := IntWalk.i64_in _ (by omega)
  have d1 : decide (v < l.lo) = false := decide_eq_false (by omega)
  have d2 : decide (l.hi < v) = false := decide_eq_false (by omega)
  have d3 : decide (l.ra < d) = false := decide_eq_false (by omega)
  have d4 : decide (d < -l.ra) = false := decide_eq_false (by omega)
  have d5 : (l.st != 0) = true := by simp [h5]
  have d6 : decide (l.st ≤ r) = true := decide_eq_true (by omega)
  clear hk h1 h2 h3 h4 h5 h6
  go_enter Try.func12, Try.ntmps12
  go_wp2_with fail
  refine scope_once 0 (Jw w) (fun _ _ => 0) rfl ?_ ?_
  · intro hrest
    clear hrest
    go_wp2_with (first | (refine ldl rfl _ rfl _ _ rfl HV.out.h2 ?_) | (go_at_call 21; (with_reducible refine (CD.out _).mono ?_); rintro e w' ⟨rfl, rfl⟩) | (go_at_call 10; (with_reducible refine (CK.out _).mono ?_); rintro e W ⟨rfl, hb⟩; replace HV := Lib.hid (HV.out.grow hb); clear hb CK; obtain ⟨c0, c1, c2, c3, c4, c5⟩ := lfld HV.out.h2; obtain ⟨k0, k1, k2, k3, k4, k5⟩ := wfld HV.out.head) | fail)
    clear c0 c1 c2 c3 c4 c5 k0 k1 k2 k3 k4 k5
    go_region_held3 (fun V => V.cell? ⟨w.heap.size, 3, none⟩ = some (.int .i64 l.st) ∧ WFld V (w.heap.size + 1) ⟨la, sm, wr, ri, lo, true⟩) (first | exact ⟨(lfld HV.out.h2).2.2.2.1, wfld HV.out.head⟩ | exact ⟨(lfld HV.out.drew.h2).2.2.2.1, wfld HV.out.drew.head⟩ | fail)
      (first | (go_at_call 17; (with_reducible refine (CS.out _).mono ?_); rintro e W ⟨rfl, hb⟩; replace HV := Lib.hid (HV.out.drew.grow hb); clear hb CS) | fail)
    go_wp2_with fail
    go_step3
    exact ⟨rfl, _, _, _, _, _, _, _, _, _, _, _, _, _, _, _, _, _, _, _, _, _, _, _, _, _, _, _, _, _, _, _, _, _, _, _, _, _, _, _, _, _, _, _, _, _, _, _, _, _, _, _, rfl, HV.out.old⟩
  · rintro a' W ⟨u0, u1, u2, u3, u4, u5, u6, u7, u8, u9, u10, u11, u12, u13, u14, u15, u16, u17, u18, u19, u20, u21, u22, u23, u24, u25, u26, u27, u28, u29, u30, u31, u32, u33, u34, u35, u36, u37, u38, u39, u40, u41, u42, u43, u44, u45, u46, u47, u48, u49, u50, rfl, hb⟩
    have HB := Lib.hid hb
    clear hb
    go_wp2_with fail
    simp only [Exit.jump]
    go_ret
    exact ⟨rfl, HB.out⟩

set_option maxRecDepth 100000 in
set_option maxHeartbeats 4000000 in
theorem wrong_7 (l : Lm) (la sm wr ri : Int) (lo : Bool) (v d r : Int) (hk : Ok l) (h1 : l.lo ≤ v) (h2 : v ≤ l.hi) (h3 : d ≤ l.ra) (h4 : -l.ra ≤ d) (h5 : l.st ≠ 0) (h6 : r < l.st) (hs : Ck.same ⟨la, sm, wr, ri, lo, true⟩ v = r) (hd : Fx.sub v la = d) (w : World) :
    Calls Try.prog 12 #[.agg (lc l), .agg (wc ⟨la, sm, wr, ri, lo, true⟩), .int .i64 v] w fun e w' => e = .returned (.bool false) ∧ Below w.heap.size w w' := by
  have HV := Lib.hid (two_lw w l ⟨la, sm, wr, ri, lo, true⟩)
  have CK := Lib.hid (check_ok hk)
  have CD := Lib.hid (fun W => sub_v hd W)
  have CS := Lib.hid (fun W => same_v hs W)
  have ra1 := hk.2.2.1.1; have ra2 := hk.2.2.1.2; have hw : IntKind.i64.wrap (-l.ra) = -l.ra := IntWalk.i64_in _ (by omega)
  have d1 : decide (v < l.lo) = false := decide_eq_false (by omega)
  have d2 : decide (l.hi < v) = false := decide_eq_false (by omega)
  have d3 : decide (l.ra < d) = false := decide_eq_false (by omega)
  have d4 : decide (d < -l.ra) = false := decide_eq_false (by omega)
  have d5 : (l.st != 0) = true := by simp [h5]
  have d6 : decide (l.st ≤ r) = false := decide_eq_false (by omega)
  clear hk h1 h2 h3 h4 h5 h6
  go_enter Try.func12, Try.ntmps12
  go_wp2_with fail
  refine scope_once 0 (fun _ _ => False) (fun _ _ => 0) rfl ?_ ?_
  · intro hrest
    clear hrest
    go_wp2_with (first | (refine ldl rfl _ rfl _ _ rfl HV.out.h2 ?_) | (go_at_call 21; (with_reducible refine (CD.out _).mono ?_); rintro e w' ⟨rfl, rfl⟩) | (go_at_call 10; (with_reducible refine (CK.out _).mono ?_); rintro e W ⟨rfl, hb⟩; replace HV := Lib.hid (HV.out.grow hb); clear hb CK; obtain ⟨c0, c1, c2, c3, c4, c5⟩ := lfld HV.out.h2; obtain ⟨k0, k1, k2, k3, k4, k5⟩ := wfld HV.out.head) | fail)
    clear c0 c1 c2 c3 c4 c5 k0 k1 k2 k3 k4 k5
    go_region_held3 (fun V => V.cell? ⟨w.heap.size, 3, none⟩ = some (.int .i64 l.st) ∧ WFld V (w.heap.size + 1) ⟨la, sm, wr, ri, lo, true⟩) (first | exact ⟨(lfld HV.out.h2).2.2.2.1, wfld HV.out.head⟩ | exact ⟨(lfld HV.out.drew.h2).2.2.2.1, wfld HV.out.drew.head⟩ | fail)
      (first | (go_at_call 17; (with_reducible refine (CS.out _).mono ?_); rintro e W ⟨rfl, hb⟩; replace HV := Lib.hid (HV.out.drew.grow hb); clear hb CS) | fail)
    go_wp2_with fail
    simp only [Exit.jump]
    go_ret
    exact ⟨rfl, HV.out.old⟩
  · exact fun _ _ h => h.elim

set_option maxRecDepth 100000 in
set_option maxHeartbeats 4000000 in
theorem wrong_8 (l : Lm) (la sm wr ri : Int) (lo : Bool) (v d r : Int) (hk : Ok l) (h1 : l.lo ≤ v) (h2 : v ≤ l.hi) (h3 : d ≤ l.ra) (h4 : -l.ra ≤ d) (h5 : l.st = 0) (hs : Ck.same ⟨la, sm, wr, ri, lo, true⟩ v = r) (hd : Fx.sub v la = d) (w : World) :
    Calls Try.prog 12 #[.agg (lc l), .agg (wc ⟨la, sm, wr, ri, lo, true⟩), .int .i64 v] w fun e w' => e = .returned (.bool false) ∧ Below w.heap.size w w' := by
  have HV := Lib.hid (two_lw w l ⟨la, sm, wr, ri, lo, true⟩)
  have CK := Lib.hid (check_ok hk)
  have CD := Lib.hid (fun W => sub_v hd W)
  have CS := Lib.hid (fun W => same_v hs W)
  have ra1 := hk.2.2.1.1; have ra2 := hk.2.2.1.2; have hw : IntKind.i64.wrap (-l.ra) = -l.ra := IntWalk.i64_in _ (by omega)
  have d1 : decide (v < l.lo) = false := decide_eq_false (by omega)
  have d2 : decide (l.hi < v) = false := decide_eq_false (by omega)
  have d3 : decide (l.ra < d) = false := decide_eq_false (by omega)
  have d4 : decide (d < -l.ra) = false := decide_eq_false (by omega)
  have d5 : (l.st != 0) = false := by simp [h5]
  clear hk h1 h2 h3 h4 h5
  go_enter Try.func12, Try.ntmps12
  go_wp2_with fail
  refine scope_once 0 (fun _ _ => False) (fun _ _ => 0) rfl ?_ ?_
  · intro hrest
    clear hrest
    go_wp2_with (first | (refine ldl rfl _ rfl _ _ rfl HV.out.h2 ?_) | (go_at_call 21; (with_reducible refine (CD.out _).mono ?_); rintro e w' ⟨rfl, rfl⟩) | (go_at_call 10; (with_reducible refine (CK.out _).mono ?_); rintro e W ⟨rfl, hb⟩; replace HV := Lib.hid (HV.out.grow hb); clear hb CK; obtain ⟨c0, c1, c2, c3, c4, c5⟩ := lfld HV.out.h2; obtain ⟨k0, k1, k2, k3, k4, k5⟩ := wfld HV.out.head) | fail)
    go_quiet (fail)
    have HB : Hid (∀ n, Below w.heap.size w (W.drewN n)) := fun n => HV.out.old.trans ⟨rfl, rfl, rfl, Nat.le_refl _, fun _ _ => rfl⟩
    go_wp2_with fail
    simp only [Exit.jump]
    go_ret
    exact ⟨rfl, HB.out _⟩
  · exact fun _ _ h => h.elim

set_option maxRecDepth 100000 in
set_option maxHeartbeats 4000000 in
theorem wrong_9 (l : Lm) (la sm wr ri : Int) (lo : Bool) (v d r : Int) (hk : Ok l) (h1 : l.lo ≤ v) (h2 : v ≤ l.hi) (h5 : l.st ≠ 0) (h6 : l.st ≤ r) (hs : Ck.same ⟨la, sm, wr, ri, lo, false⟩ v = r) (hd : Fx.sub v la = d) (w : World) :
    Calls Try.prog 12 #[.agg (lc l), .agg (wc ⟨la, sm, wr, ri, lo, false⟩), .int .i64 v] w fun e w' => e = .returned (.bool true) ∧ Below w.heap.size w w' := by
  have HV := Lib.hid (two_lw w l ⟨la, sm, wr, ri, lo, false⟩)
  have CK := Lib.hid (check_ok hk)
  have CD := Lib.hid (fun W => sub_v hd W)
  have CS := Lib.hid (fun W => same_v hs W)
  have d1 : decide (v < l.lo) = false := decide_eq_false (by omega)
  have d2 : decide (l.hi < v) = false := decide_eq_false (by omega)
  have d5 : (l.st != 0) = true := by simp [h5]
  have d6 : decide (l.st ≤ r) = true := decide_eq_true (by omega)
  clear hk h1 h2 h5 h6
  go_enter Try.func12, Try.ntmps12
  go_wp2_with fail
  refine scope_once 0 (Jw w) (fun _ _ => 0) rfl ?_ ?_
  · intro hrest
    clear hrest
    go_wp2_with (first | (refine ldl rfl _ rfl _ _ rfl HV.out.h2 ?_) | (go_at_call 21; (with_reducible refine (CD.out _).mono ?_); rintro e w' ⟨rfl, rfl⟩) | (go_at_call 10; (with_reducible refine (CK.out _).mono ?_); rintro e W ⟨rfl, hb⟩; replace HV := Lib.hid (HV.out.grow hb); clear hb CK; obtain ⟨c0, c1, c2, c3, c4, c5⟩ := lfld HV.out.h2; obtain ⟨k0, k1, k2, k3, k4, k5⟩ := wfld HV.out.head) | fail)
    clear c0 c1 c2 c3 c4 c5 k0 k1 k2 k3 k4 k5
    go_region_held3 (fun V => V.cell? ⟨w.heap.size, 3, none⟩ = some (.int .i64 l.st) ∧ WFld V (w.heap.size + 1) ⟨la, sm, wr, ri, lo, false⟩) (first | exact ⟨(lfld HV.out.h2).2.2.2.1, wfld HV.out.head⟩ | exact ⟨(lfld HV.out.drew.h2).2.2.2.1, wfld HV.out.drew.head⟩ | fail)
      (first | (go_at_call 17; (with_reducible refine (CS.out _).mono ?_); rintro e W ⟨rfl, hb⟩; replace HV := Lib.hid (HV.out.drew.grow hb); clear hb CS) | fail)
    go_wp2_with fail
    go_step3
    exact ⟨rfl, _, _, _, _, _, _, _, _, _, _, _, _, _, _, _, _, _, _, _, _, _, _, _, _, _, _, _, _, _, _, _, _, _, _, _, _, _, _, _, _, _, _, _, _, _, _, _, _, _, _, _, rfl, HV.out.old⟩
  · rintro a' W ⟨u0, u1, u2, u3, u4, u5, u6, u7, u8, u9, u10, u11, u12, u13, u14, u15, u16, u17, u18, u19, u20, u21, u22, u23, u24, u25, u26, u27, u28, u29, u30, u31, u32, u33, u34, u35, u36, u37, u38, u39, u40, u41, u42, u43, u44, u45, u46, u47, u48, u49, u50, rfl, hb⟩
    have HB := Lib.hid hb
    clear hb
    go_wp2_with fail
    simp only [Exit.jump]
    go_ret
    exact ⟨rfl, HB.out⟩

set_option maxRecDepth 100000 in
set_option maxHeartbeats 4000000 in
theorem wrong_10 (l : Lm) (la sm wr ri : Int) (lo : Bool) (v d r : Int) (hk : Ok l) (h1 : l.lo ≤ v) (h2 : v ≤ l.hi) (h5 : l.st ≠ 0) (h6 : r < l.st) (hs : Ck.same ⟨la, sm, wr, ri, lo, false⟩ v = r) (hd : Fx.sub v la = d) (w : World) :
    Calls Try.prog 12 #[.agg (lc l), .agg (wc ⟨la, sm, wr, ri, lo, false⟩), .int .i64 v] w fun e w' => e = .returned (.bool false) ∧ Below w.heap.size w w' := by
  have HV := Lib.hid (two_lw w l ⟨la, sm, wr, ri, lo, false⟩)
  have CK := Lib.hid (check_ok hk)
  have CD := Lib.hid (fun W => sub_v hd W)
  have CS := Lib.hid (fun W => same_v hs W)
  have d1 : decide (v < l.lo) = false := decide_eq_false (by omega)
  have d2 : decide (l.hi < v) = false := decide_eq_false (by omega)
  have d5 : (l.st != 0) = true := by simp [h5]
  have d6 : decide (l.st ≤ r) = false := decide_eq_false (by omega)
  clear hk h1 h2 h5 h6
  go_enter Try.func12, Try.ntmps12
  go_wp2_with fail
  refine scope_once 0 (fun _ _ => False) (fun _ _ => 0) rfl ?_ ?_
  · intro hrest
    clear hrest
    go_wp2_with (first | (refine ldl rfl _ rfl _ _ rfl HV.out.h2 ?_) | (go_at_call 21; (with_reducible refine (CD.out _).mono ?_); rintro e w' ⟨rfl, rfl⟩) | (go_at_call 10; (with_reducible refine (CK.out _).mono ?_); rintro e W ⟨rfl, hb⟩; replace HV := Lib.hid (HV.out.grow hb); clear hb CK; obtain ⟨c0, c1, c2, c3, c4, c5⟩ := lfld HV.out.h2; obtain ⟨k0, k1, k2, k3, k4, k5⟩ := wfld HV.out.head) | fail)
    clear c0 c1 c2 c3 c4 c5 k0 k1 k2 k3 k4 k5
    go_region_held3 (fun V => V.cell? ⟨w.heap.size, 3, none⟩ = some (.int .i64 l.st) ∧ WFld V (w.heap.size + 1) ⟨la, sm, wr, ri, lo, false⟩) (first | exact ⟨(lfld HV.out.h2).2.2.2.1, wfld HV.out.head⟩ | exact ⟨(lfld HV.out.drew.h2).2.2.2.1, wfld HV.out.drew.head⟩ | fail)
      (first | (go_at_call 17; (with_reducible refine (CS.out _).mono ?_); rintro e W ⟨rfl, hb⟩; replace HV := Lib.hid (HV.out.drew.grow hb); clear hb CS) | fail)
    go_wp2_with fail
    simp only [Exit.jump]
    go_ret
    exact ⟨rfl, HV.out.old⟩
  · exact fun _ _ h => h.elim

set_option maxRecDepth 100000 in
set_option maxHeartbeats 4000000 in
theorem wrong_11 (l : Lm) (la sm wr ri : Int) (lo : Bool) (v d r : Int) (hk : Ok l) (h1 : l.lo ≤ v) (h2 : v ≤ l.hi) (h5 : l.st = 0) (hs : Ck.same ⟨la, sm, wr, ri, lo, false⟩ v = r) (hd : Fx.sub v la = d) (w : World) :
    Calls Try.prog 12 #[.agg (lc l), .agg (wc ⟨la, sm, wr, ri, lo, false⟩), .int .i64 v] w fun e w' => e = .returned (.bool false) ∧ Below w.heap.size w w' := by
  have HV := Lib.hid (two_lw w l ⟨la, sm, wr, ri, lo, false⟩)
  have CK := Lib.hid (check_ok hk)
  have CD := Lib.hid (fun W => sub_v hd W)
  have CS := Lib.hid (fun W => same_v hs W)
  have d1 : decide (v < l.lo) = false := decide_eq_false (by omega)
  have d2 : decide (l.hi < v) = false := decide_eq_false (by omega)
  have d5 : (l.st != 0) = false := by simp [h5]
  clear hk h1 h2 h5
  go_enter Try.func12, Try.ntmps12
  go_wp2_with fail
  refine scope_once 0 (fun _ _ => False) (fun _ _ => 0) rfl ?_ ?_
  · intro hrest
    clear hrest
    go_wp2_with (first | (refine ldl rfl _ rfl _ _ rfl HV.out.h2 ?_) | (go_at_call 21; (with_reducible refine (CD.out _).mono ?_); rintro e w' ⟨rfl, rfl⟩) | (go_at_call 10; (with_reducible refine (CK.out _).mono ?_); rintro e W ⟨rfl, hb⟩; replace HV := Lib.hid (HV.out.grow hb); clear hb CK; obtain ⟨c0, c1, c2, c3, c4, c5⟩ := lfld HV.out.h2; obtain ⟨k0, k1, k2, k3, k4, k5⟩ := wfld HV.out.head) | fail)
    go_quiet (fail)
    have HB : Hid (∀ n, Below w.heap.size w (W.drewN n)) := fun n => HV.out.old.trans ⟨rfl, rfl, rfl, Nat.le_refl _, fun _ _ => rfl⟩
    go_wp2_with fail
    simp only [Exit.jump]
    go_ret
    exact ⟨rfl, HB.out _⟩
  · exact fun _ _ h => h.elim

theorem wrong_c (l : Lm) (x : Wa) (v : Int) (w : World) : Calls Try.prog 12 #[.agg (lc l), .agg (wc x), .int .i64 v] w fun e w' => e = .returned (.bool (wrong l x v)) ∧ Below w.heap.size w w' := by
  obtain ⟨la, sm, wr, ri, lo, be⟩ := x
  obtain ⟨d, hd⟩ : ∃ d, Fx.sub v la = d := ⟨_, rfl⟩
  obtain ⟨r, hs⟩ : ∃ r, Ck.same ⟨la, sm, wr, ri, lo, be⟩ v = r := ⟨_, rfl⟩
  by_cases hk : Ok l
  · by_cases h1 : v < l.lo
    · rw [wrong_t (.inr (.inl h1))]; exact wrong_2 l la sm wr ri lo be v d r hk h1 hs hd w
    by_cases h2 : l.hi < v
    · rw [wrong_t (.inr (.inr (.inl h2)))]; exact wrong_3 l la sm wr ri lo be v d r hk (by omega) h2 hs hd w
    have h1' : l.lo ≤ v := by omega
    have h2' : v ≤ l.hi := by omega
    have W : Wrong l ⟨la, sm, wr, ri, lo, be⟩ v ↔ (be = true ∧ (l.ra < d ∨ d < -l.ra)) ∨ (l.st ≠ 0 ∧ l.st ≤ r) := by
      unfold Wrong; rw [hd, hs]
      exact ⟨fun h => h.elim (fun h => absurd hk h) fun h => h.elim (fun h => absurd h h1) fun h => h.elim (fun h => absurd h h2) id, fun h => .inr (.inr (.inr h))⟩
    cases be with
    | true =>
      by_cases h3 : l.ra < d
      · rw [wrong_t (W.2 (.inl ⟨rfl, .inl h3⟩))]; exact wrong_4 l la sm wr ri lo v d r hk h1' h2' h3 hs hd w
      by_cases h4 : d < -l.ra
      · rw [wrong_t (W.2 (.inl ⟨rfl, .inr h4⟩))]; exact wrong_5 l la sm wr ri lo v d r hk h1' h2' (by omega) h4 hs hd w
      by_cases h5 : l.st = 0
      · rw [wrong_f (fun h => (W.1 h).elim (fun h => h.2.elim h3 h4) (fun h => h.1 h5))]; exact wrong_8 l la sm wr ri lo v d r hk h1' h2' (by omega) (by omega) h5 hs hd w
      by_cases h6 : l.st ≤ r
      · rw [wrong_t (W.2 (.inr ⟨h5, h6⟩))]; exact wrong_6 l la sm wr ri lo v d r hk h1' h2' (by omega) (by omega) h5 h6 hs hd w
      · rw [wrong_f (fun h => (W.1 h).elim (fun h => h.2.elim h3 h4) (fun h => h6 h.2))]; exact wrong_7 l la sm wr ri lo v d r hk h1' h2' (by omega) (by omega) h5 (by omega) hs hd w
    | false =>
      by_cases h5 : l.st = 0
      · rw [wrong_f (fun h => (W.1 h).elim (fun h => Bool.noConfusion h.1) (fun h => h.1 h5))]; exact wrong_11 l la sm wr ri lo v d r hk h1' h2' h5 hs hd w
      by_cases h6 : l.st ≤ r
      · rw [wrong_t (W.2 (.inr ⟨h5, h6⟩))]; exact wrong_9 l la sm wr ri lo v d r hk h1' h2' h5 h6 hs hd w
      · rw [wrong_f (fun h => (W.1 h).elim (fun h => Bool.noConfusion h.1) (fun h => h6 h.2))]; exact wrong_10 l la sm wr ri lo v d r hk h1' h2' h5 (by omega) hs hd w
  · rw [wrong_t (.inl hk)]; exact wrong_1 l la sm wr ri lo be v d r hk hs hd w
theorem wrong_v {l : Lm} {x : Wa} {v : Int} {b : Bool} (h : wrong l x v = b) (w : World) : Calls Try.prog 12 #[.agg (lc l), .agg (wc x), .int .i64 v] w fun e w' => e = .returned (.bool b) ∧ Below w.heap.size w w' := h ▸ wrong_c l x v w
end Cw
end Go.Proofs.Ytimflomgaknoaaa
