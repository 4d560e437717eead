/- The walk of LinkBack. -/
import Derived.Test.YtegjkbebnnpdcaaLinkLawKit
namespace Go.Proofs.Ytegjkbebnnpdcaa
namespace Lw
open Go.RowKit

theorem two_boxes (w : World) (p q : Ln.Pk) : Hv w ((w.alloc (.cells (pc p) 26)).alloc (.cells (pc q) 26)) [(w.heap.size + 1, .cells (pc q) 26 (0, 0)), (w.heap.size, .cells (pc p) 26 (0, 0))] := by
  have h := ((Hv.nil w).made (.cells (pc p) 26)).made (.cells (pc q) 26)
  rwa [show (w.alloc (.cells (pc p) 26)).heap.size = w.heap.size + 1 from by simp] at h

set_option maxRecDepth 100000 in
set_option maxHeartbeats 4000000 in
theorem back_bad (p q : Ln.Pk) (at_ x y : Nat) (h : Ln.okB p = false ∨ Ln.okB q = false) (w : World) :
    Calls Try.prog 6 #[.agg (pc p), .agg (pc q), .int .u8 at_, .int .u8 x, .int .u8 y] w fun e w' => e = .returned (.bool true) ∧ Below w.heap.size w w' := by
  have HV := Lib.hid (two_boxes w p q)
  cases hp : Ln.okB p <;> cases hq : Ln.okB q
  · have CP := Lib.hid (enc_bad p hp)
    have CQ := Lib.hid (enc_bad q hq)
    clear h hp hq
    go_enter Try.func6, Try.ntmps6
    go_wp2_with (first | (go_at_call 9; refine (awake_c _).mono ?_; rintro e w1 ⟨rfl, hb⟩; replace HV := Lib.hid (HV.out.grow hb); clear hb) | (refine ld_pk rfl _ rfl _ _ rfl (HV.out.has _ (List.mem_cons_of_mem _ (List.mem_cons_self ..))) ?_) | (refine ld_pk rfl _ rfl _ _ rfl (HV.out.has _ (List.mem_cons_self ..)) ?_) | (go_at_call 10; (with_reducible refine (CP.out _).mono ?_); rintro e w2 ⟨rfl, hb⟩; replace HV := Lib.hid (HV.out.grow hb); clear hb) | (go_at_call 10; (with_reducible refine (CQ.out _).mono ?_); rintro e w2 ⟨rfl, hb⟩; replace HV := Lib.hid (HV.out.grow hb); clear hb))
    go_ret
    exact ⟨rfl, HV.out.old⟩
  · have CP := Lib.hid (enc_bad p hp)
    have CQ := Lib.hid (enc_ok q hq)
    clear h hp hq
    go_enter Try.func6, Try.ntmps6
    go_wp2_with (first | (go_at_call 9; refine (awake_c _).mono ?_; rintro e w1 ⟨rfl, hb⟩; replace HV := Lib.hid (HV.out.grow hb); clear hb) | (refine ld_pk rfl _ rfl _ _ rfl (HV.out.has _ (List.mem_cons_of_mem _ (List.mem_cons_self ..))) ?_) | (refine ld_pk rfl _ rfl _ _ rfl (HV.out.has _ (List.mem_cons_self ..)) ?_) | (go_at_call 10; (with_reducible refine (CP.out _).mono ?_); rintro e w2 ⟨rfl, hb⟩; replace HV := Lib.hid (HV.out.grow hb); clear hb) | (go_at_call 10; (with_reducible refine (CQ.out _).mono ?_); rintro e w2 ⟨g, hg, rfl, hr, hb⟩; replace HV := Lib.hid (HV.out.grow hb); clear hb hr))
    go_ret
    exact ⟨rfl, HV.out.old⟩
  · have CP := Lib.hid (enc_ok p hp)
    have CQ := Lib.hid (enc_bad q hq)
    clear h hp hq
    go_enter Try.func6, Try.ntmps6
    go_wp2_with (first | (go_at_call 9; refine (awake_c _).mono ?_; rintro e w1 ⟨rfl, hb⟩; replace HV := Lib.hid (HV.out.grow hb); clear hb) | (refine ld_pk rfl _ rfl _ _ rfl (HV.out.has _ (List.mem_cons_of_mem _ (List.mem_cons_self ..))) ?_) | (refine ld_pk rfl _ rfl _ _ rfl (HV.out.has _ (List.mem_cons_self ..)) ?_) | (go_at_call 10; (with_reducible refine (CP.out _).mono ?_); rintro e w2 ⟨g, hg, rfl, hr, hb⟩; replace HV := Lib.hid (HV.out.grow hb); clear hb hr) | (go_at_call 10; (with_reducible refine (CQ.out _).mono ?_); rintro e w2 ⟨rfl, hb⟩; replace HV := Lib.hid (HV.out.grow hb); clear hb))
    go_ret
    exact ⟨rfl, HV.out.old⟩
  · rw [hp, hq] at h
    simp at h

set_option maxRecDepth 100000 in
set_option maxHeartbeats 8000000 in
theorem back_ok (p q : Ln.Pk) (at_ x y : Nat) (hp : Ln.okB p = true) (hq : Ln.okB q = true) (hat : at_ < 256) (hx : x < 256) (hy : y < 256) (zx zy zz : Bool) (dx : ((x : Int) == 0) = zx) (dy : ((y : Int) == 0) = zy) (hz0 : (zx && zy) = zz) (w : World) :
    Calls Try.prog 6 #[.agg (pc p), .agg (pc q), .int .u8 at_, .int .u8 x, .int .u8 y] w fun e w' => e = .returned (.bool true) ∧ Below w.heap.size w w' := by
  have HV := Lib.hid (two_boxes w p q)
  obtain ⟨i, hi⟩ : ∃ i, at_ % 31 = i := ⟨_, rfl⟩
  have him : (at_ : Int) % 31 = (i : Int) := by omega
  have hi31 : i < 31 := by omega
  have hi32 : i < 32 := by omega
  have hi33 : i + 1 < 32 := by omega
  have hiw : wrap64 ((i : Int) + 1) = (i : Int) + 1 := by unfold wrap64; omega
  clear hi
  obtain ⟨X, hX⟩ : ∃ X, (Ln.enc p).getD i 0 = X := ⟨_, rfl⟩
  obtain ⟨Y, hY⟩ : ∃ Y, (Ln.enc p).getD (i + 1) 0 = Y := ⟨_, rfl⟩
  have x1 : bits .xor .u8 (X : Int) (x : Int) = ((X ^^^ x : Nat) : Int) := Cb.xor_u8 (hX ▸ Crc.getD_byte (Ln.enc_bytes p) (by rw [Ln.enc_len]; exact hi32)) hx
  have x2 : bits .xor .u8 (Y : Int) (y : Int) = ((Y ^^^ y : Nat) : Int) := Cb.xor_u8 (hY ▸ Crc.getD_byte (Ln.enc_bytes p) (by rw [Ln.enc_len]; exact hi33)) hy
  have hX2 : X ^^^ x < 256 := Nat.xor_lt_two_pow (n := 8) (hX ▸ Crc.getD_byte (Ln.enc_bytes p) (by rw [Ln.enc_len]; exact hi32)) hx
  have hY2 : Y ^^^ y < 256 := Nat.xor_lt_two_pow (n := 8) (hY ▸ Crc.getD_byte (Ln.enc_bytes p) (by rw [Ln.enc_len]; exact hi33)) hy
  have hgd := Ln.good_turn (i := i) hi33 hx hy (Ln.okB_iff.1 hp)
  rw [hX, hY] at hgd
  generalize X ^^^ x = X' at *
  generalize Y ^^^ y = Y' at *
  have HLb := Lib.hid (Crc.set_bytes (a := i + 1) (Crc.set_bytes (a := i) (Ln.enc_bytes p) hX2) hY2)
  have HLl : Hid ((((Ln.enc p).set i X').set (i + 1) Y').length = 32) := by show _ = 32; rw [List.length_set, List.length_set, Ln.enc_len]
  have hE : Ln.decE (((Ln.enc p).set i X').set (i + 1) Y') = if zz then 0 else 50 := by
    unfold Ln.decE
    have : (Ln.good (((Ln.enc p).set i X').set (i + 1) Y')) = zz := by
      rw [Bool.eq_iff_iff, hgd, ← hz0, ← dx, ← dy]
      simp only [Bool.and_eq_true, beq_iff_eq]
      omega
    rw [this]
  have C2 := Lib.hid (fun g c W h1 h2 => dec_c 32 (some ⟨g, 0, none⟩) (((Ln.enc p).set i X').set (i + 1) Y') c W HLl.out HLb.out h1 h2)
  rw [hE] at C2
  have HX := Lib.hid hX
  have HY := Lib.hid hY
  clear hgd hE hX hY hX2 hY2 hx hy HLb
  have CP := Lib.hid (enc_ok p hp)
  have CQ := Lib.hid (enc_ok q hq)
  have CD := Lib.hid (fun g W h => dec_same p hp g 32 (by decide) W h)
  have hs := enc_same hp hq
  have HL := Lib.hid (Ln.enc_len p)
  have HL2 := Lib.hid (Ln.enc_len q)
  generalize hz : same p q = z at *
  have E1 := eq_pk p q
  rw [hz] at E1
  have E2 := ne_pk p p
  rw [same_refl] at E2
  dsimp only [pc] at E1 E2
  clear hz
  generalize hs1 : Crc.str (Ln.enc p) = s1 at *
  generalize hs2 : Crc.str (Ln.enc q) = s2 at *
  have HS1 := Lib.hid hs1
  have HS2 := Lib.hid hs2
  clear hs1 hs2
  go_enter Try.func6, Try.ntmps6
  go_wp2_with (first | (go_at_call 9; refine (awake_c _).mono ?_; rintro e w1 ⟨rfl, hb⟩; replace HV := Lib.hid (HV.out.grow hb); clear hb) | (refine ld_pk rfl _ rfl _ _ rfl (HV.out.has _ (List.mem_cons_of_mem _ (List.mem_cons_self ..))) ?_) | (refine ld_pk rfl _ rfl _ _ rfl (HV.out.has _ (List.mem_cons_self ..)) ?_))
  refine (CP.out _).mono ?_
  rintro e W1 ⟨ga, hga, rfl, hr, hb⟩
  obtain ⟨oa, hoa, fa⟩ := row_obj hr
  have FA := Lib.hid fa
  replace HV := Lib.hid ((HV.out.grow hb).add (ga, oa) hoa)
  clear hr hb hoa fa CP
  go_wp2_with (first | (refine ld_pk rfl _ rfl _ _ rfl (HV.out.has _ (List.mem_cons_of_mem _ (List.mem_cons_self ..))) ?_))
  refine (CQ.out _).mono ?_
  rintro e W2 ⟨gb, hgb, rfl, hr, hb⟩
  obtain ⟨ob, hob, fb⟩ := row_obj hr
  have FB := Lib.hid fb
  replace HV := Lib.hid ((HV.out.grow hb).add (gb, ob) hob)
  clear hr hb hob fb CQ
  go_wp2_with fail
  refine (CD.out _ _ (FA.out _ (HV.out.has (ga, oa) (by simp)))).mono ?_
  rintro e W3 ⟨rfl, hb⟩
  replace HV := Lib.hid (HV.out.grow hb)
  clear hb CD
  go_wp2_with (first | (refine st_pk rfl _ _ rfl rfl _ Ln.zero p rfl rfl (Pkt.new W3 Ln.zero) ?_; intro W4 h1 h2; replace HV := Lib.hid (HV.out.put h1 h2); clear h1 h2))
  have SS : Hid (∀ V, Hv w V _ → (fun V => (V.cell? ⟨W3.heap.size, 0, none⟩ = some (.int .i64 p.f) ∧ V.cell? ⟨W3.heap.size, 1, none⟩ = some (.int .i64 p.n) ∧ V.cell? ⟨W3.heap.size, 2, none⟩ = some (.int .i64 p.a) ∧ V.cell? ⟨W3.heap.size, 3, none⟩ = some (.int .i64 p.b) ∧ V.cell? ⟨W3.heap.size, 4, none⟩ = some (.int .i64 p.c) ∧ V.cell? ⟨W3.heap.size, 5, none⟩ = some (.int .i64 p.d) ∧ V.cell? ⟨W3.heap.size, 6, none⟩ = some (.int .i64 p.e) ∧ V.cell? ⟨W3.heap.size, 7, none⟩ = some (.bool p.ga) ∧ V.cell? ⟨W3.heap.size, 8, none⟩ = some (.bool p.gb) ∧ V.cell? ⟨W3.heap.size, 9, none⟩ = some (.bool p.gc) ∧ V.cell? ⟨W3.heap.size, 10, none⟩ = some (.bool p.gd) ∧ V.cell? ⟨W3.heap.size, 11, none⟩ = some (.bool p.ge) ∧ V.cell? ⟨W3.heap.size, 12, none⟩ = some (.int .i64 p.m) ∧ V.cell? ⟨W3.heap.size, 13, none⟩ = some (.int .i64 p.s)) ∧ (V.cell? ⟨w.heap.size, 0, none⟩ = some (.int .i64 p.f) ∧ V.cell? ⟨w.heap.size, 1, none⟩ = some (.int .i64 p.n) ∧ V.cell? ⟨w.heap.size, 2, none⟩ = some (.int .i64 p.a) ∧ V.cell? ⟨w.heap.size, 3, none⟩ = some (.int .i64 p.b) ∧ V.cell? ⟨w.heap.size, 4, none⟩ = some (.int .i64 p.c) ∧ V.cell? ⟨w.heap.size, 5, none⟩ = some (.int .i64 p.d) ∧ V.cell? ⟨w.heap.size, 6, none⟩ = some (.int .i64 p.e) ∧ V.cell? ⟨w.heap.size, 7, none⟩ = some (.bool p.ga) ∧ V.cell? ⟨w.heap.size, 8, none⟩ = some (.bool p.gb) ∧ V.cell? ⟨w.heap.size, 9, none⟩ = some (.bool p.gc) ∧ V.cell? ⟨w.heap.size, 10, none⟩ = some (.bool p.gd) ∧ V.cell? ⟨w.heap.size, 11, none⟩ = some (.bool p.ge) ∧ V.cell? ⟨w.heap.size, 12, none⟩ = some (.int .i64 p.m) ∧ V.cell? ⟨w.heap.size, 13, none⟩ = some (.int .i64 p.s)) ∧ (V.cell? ⟨w.heap.size + 1, 0, none⟩ = some (.int .i64 q.f) ∧ V.cell? ⟨w.heap.size + 1, 1, none⟩ = some (.int .i64 q.n) ∧ V.cell? ⟨w.heap.size + 1, 2, none⟩ = some (.int .i64 q.a) ∧ V.cell? ⟨w.heap.size + 1, 3, none⟩ = some (.int .i64 q.b) ∧ V.cell? ⟨w.heap.size + 1, 4, none⟩ = some (.int .i64 q.c) ∧ V.cell? ⟨w.heap.size + 1, 5, none⟩ = some (.int .i64 q.d) ∧ V.cell? ⟨w.heap.size + 1, 6, none⟩ = some (.int .i64 q.e) ∧ V.cell? ⟨w.heap.size + 1, 7, none⟩ = some (.bool q.ga) ∧ V.cell? ⟨w.heap.size + 1, 8, none⟩ = some (.bool q.gb) ∧ V.cell? ⟨w.heap.size + 1, 9, none⟩ = some (.bool q.gc) ∧ V.cell? ⟨w.heap.size + 1, 10, none⟩ = some (.bool q.gd) ∧ V.cell? ⟨w.heap.size + 1, 11, none⟩ = some (.bool q.ge) ∧ V.cell? ⟨w.heap.size + 1, 12, none⟩ = some (.int .i64 q.m) ∧ V.cell? ⟨w.heap.size + 1, 13, none⟩ = some (.int .i64 q.s)) ∧ (convert 27 9 (.slice (some ⟨ga, 0, none⟩) 32 32)).run Try.prog V = .ok (.string s1) V ∧ (convert 27 9 (.slice (some ⟨gb, 0, none⟩) 32 32)).run Try.prog V = .ok (.string s2) V) V) := fun V (h : Hv w V [(W3.heap.size, .cells (pc p) 26 (0, 0)), (gb, ob), (ga, oa), (w.heap.size + 1, .cells (pc q) 26 (0, 0)), (w.heap.size, .cells (pc p) 26 (0, 0))]) =>
    ⟨Pkt.all (show Pkt V W3.heap.size p from h.has (W3.heap.size, .cells (pc p) 26 (0, 0)) (by simp)), Pkt.all (show Pkt V w.heap.size p from h.has (w.heap.size, .cells (pc p) 26 (0, 0)) (by simp)), Pkt.all (show Pkt V (w.heap.size + 1) q from h.has (w.heap.size + 1, .cells (pc q) 26 (0, 0)) (by simp)),
      by rw [← HS1.out]; exact conv_n (inb_any (row_inb (FA.out V (h.has (ga, oa) (by simp))))) (by decide) HL.out, by rw [← HS2.out]; exact conv_n (inb_any (row_inb (FB.out V (h.has (gb, ob) (by simp))))) (by decide) HL2.out⟩
  have S1 := Lib.hid (SS.out _ HV.out)
  have S2 := Lib.hid (SS.out _ HV.out.drew)
  go_region_held3 (fun V => (V.cell? ⟨W3.heap.size, 0, none⟩ = some (.int .i64 p.f) ∧ V.cell? ⟨W3.heap.size, 1, none⟩ = some (.int .i64 p.n) ∧ V.cell? ⟨W3.heap.size, 2, none⟩ = some (.int .i64 p.a) ∧ V.cell? ⟨W3.heap.size, 3, none⟩ = some (.int .i64 p.b) ∧ V.cell? ⟨W3.heap.size, 4, none⟩ = some (.int .i64 p.c) ∧ V.cell? ⟨W3.heap.size, 5, none⟩ = some (.int .i64 p.d) ∧ V.cell? ⟨W3.heap.size, 6, none⟩ = some (.int .i64 p.e) ∧ V.cell? ⟨W3.heap.size, 7, none⟩ = some (.bool p.ga) ∧ V.cell? ⟨W3.heap.size, 8, none⟩ = some (.bool p.gb) ∧ V.cell? ⟨W3.heap.size, 9, none⟩ = some (.bool p.gc) ∧ V.cell? ⟨W3.heap.size, 10, none⟩ = some (.bool p.gd) ∧ V.cell? ⟨W3.heap.size, 11, none⟩ = some (.bool p.ge) ∧ V.cell? ⟨W3.heap.size, 12, none⟩ = some (.int .i64 p.m) ∧ V.cell? ⟨W3.heap.size, 13, none⟩ = some (.int .i64 p.s)) ∧ (V.cell? ⟨w.heap.size, 0, none⟩ = some (.int .i64 p.f) ∧ V.cell? ⟨w.heap.size, 1, none⟩ = some (.int .i64 p.n) ∧ V.cell? ⟨w.heap.size, 2, none⟩ = some (.int .i64 p.a) ∧ V.cell? ⟨w.heap.size, 3, none⟩ = some (.int .i64 p.b) ∧ V.cell? ⟨w.heap.size, 4, none⟩ = some (.int .i64 p.c) ∧ V.cell? ⟨w.heap.size, 5, none⟩ = some (.int .i64 p.d) ∧ V.cell? ⟨w.heap.size, 6, none⟩ = some (.int .i64 p.e) ∧ V.cell? ⟨w.heap.size, 7, none⟩ = some (.bool p.ga) ∧ V.cell? ⟨w.heap.size, 8, none⟩ = some (.bool p.gb) ∧ V.cell? ⟨w.heap.size, 9, none⟩ = some (.bool p.gc) ∧ V.cell? ⟨w.heap.size, 10, none⟩ = some (.bool p.gd) ∧ V.cell? ⟨w.heap.size, 11, none⟩ = some (.bool p.ge) ∧ V.cell? ⟨w.heap.size, 12, none⟩ = some (.int .i64 p.m) ∧ V.cell? ⟨w.heap.size, 13, none⟩ = some (.int .i64 p.s)) ∧ (V.cell? ⟨w.heap.size + 1, 0, none⟩ = some (.int .i64 q.f) ∧ V.cell? ⟨w.heap.size + 1, 1, none⟩ = some (.int .i64 q.n) ∧ V.cell? ⟨w.heap.size + 1, 2, none⟩ = some (.int .i64 q.a) ∧ V.cell? ⟨w.heap.size + 1, 3, none⟩ = some (.int .i64 q.b) ∧ V.cell? ⟨w.heap.size + 1, 4, none⟩ = some (.int .i64 q.c) ∧ V.cell? ⟨w.heap.size + 1, 5, none⟩ = some (.int .i64 q.d) ∧ V.cell? ⟨w.heap.size + 1, 6, none⟩ = some (.int .i64 q.e) ∧ V.cell? ⟨w.heap.size + 1, 7, none⟩ = some (.bool q.ga) ∧ V.cell? ⟨w.heap.size + 1, 8, none⟩ = some (.bool q.gb) ∧ V.cell? ⟨w.heap.size + 1, 9, none⟩ = some (.bool q.gc) ∧ V.cell? ⟨w.heap.size + 1, 10, none⟩ = some (.bool q.gd) ∧ V.cell? ⟨w.heap.size + 1, 11, none⟩ = some (.bool q.ge) ∧ V.cell? ⟨w.heap.size + 1, 12, none⟩ = some (.int .i64 q.m) ∧ V.cell? ⟨w.heap.size + 1, 13, none⟩ = some (.int .i64 q.s)) ∧ (convert 27 9 (.slice (some ⟨ga, 0, none⟩) 32 32)).run Try.prog V = .ok (.string s1) V ∧ (convert 27 9 (.slice (some ⟨gb, 0, none⟩) 32 32)).run Try.prog V = .ok (.string s2) V) (first | exact S2.out | exact S1.out) (first | fail)
  clear S1 S2 SS
  replace HV := Lib.hid HV.out.drew
  generalize W4.drew = W5 at *
  have HE := Lib.hid (Crc.own_empty (W := W5) (base := w.heap.size) HV.out.old.size)
  have HI := Lib.hid (row_inb (FA.out _ ((HV.out.alloc (.cells #[] 5)).has (ga, oa) (by simp))))
  have hbs : w.heap.size ≤ (W5.alloc (.cells #[] 5)).heap.size := (HV.out.alloc _).old.size
  go_wp2_with (first | (at_builtin; refine app_n rfl _ _ rfl w.heap.size 0 _ [] rfl HE.out rfl _ (Ln.enc p) 32 32 rfl HL.out HI.out (by decide) hbs ?_; intro A c W6 hown hin hcc hba hbel; obtain ⟨g6, cap6, he, hg6, hlt6⟩ := hown.form (by rw [List.nil_append, HL.out]; decide); cases he; rw [List.nil_append, HL.out] at hown; have HR := Lib.hid (Crc.RowB.of_own (L := Ln.enc p) (base := w.heap.size) (cap := c) (by rw [HL.out]; exact hown)); have HB := Lib.hid ((HV.out.alloc (.cells #[] 5)).old.trans hbel); have c1 := HR.out.1.cell (i := i) (by rw [HL.out]; exact hi32); have c2 := HR.out.1.frozen i; have c3 := HR.out.1.cell (i := i + 1) (by rw [HL.out]; exact hi33); have c4 := HR.out.1.frozen (i + 1); rw [HX.out] at c1; rw [HY.out] at c3; clear hown hin hba hbel HE HI hbs hlt6 FA FB HV))
  have HR8 := Lib.hid ((HR.out.1.set (i := i) (by rw [HL.out]; exact hi32) X').set (i := i + 1) (by rw [List.length_set, HL.out]; exact hi33) Y')
  have HB8 := Lib.hid ((HB.out.setCell (p := ⟨g6, i, none⟩) HR.out.2 (.int .u8 (X' : Int))).setCell (p := ⟨g6, i + 1, none⟩) HR.out.2 (.int .u8 (Y' : Int)))
  have hc32 : 32 ≤ c := by omega
  clear c1 c2 c3 c4 HR HB
  refine (C2.out _ _ _ hc32 (row_inb HR8.out)).mono ?_
  rintro e W9 ⟨rfl, hb⟩
  have HV : Hid (Hv w W9 []) := ⟨fun _ h => (List.not_mem_nil h).elim, HB8.out.trans (hb.mono HB8.out.size)⟩
  clear hb HR8 HB8 C2 HX HY HS1 HS2 HL HL2 HLl
  generalize Ln.decP _ = pp at *
  subst hz0
  cases zx <;> cases zy
  all_goals
    go_wp2_with (first | (refine st_pk rfl _ _ rfl rfl _ Ln.zero pp rfl rfl (Pkt.new W9 Ln.zero) ?_; intro W10 h1 h2; replace HV := Lib.hid (HV.out.put h1 h2); clear h1 h2))
    go_ret
    exact ⟨rfl, HV.out.old⟩

theorem LinkBack_walk (p q : Ln.Pk) (at_ : Nat) (hat : at_ < 256) (x : Nat) (hx : x < 256) (y : Nat) (hy : y < 256) (w : World) :
    Calls Try.prog 6 #[.agg (pc p), .agg (pc q), .int .u8 at_, .int .u8 x, .int .u8 y] w fun e w' => e = .returned (.bool true) ∧ Below w.heap.size w w' := by
  cases hp : Ln.okB p
  · exact back_bad p q at_ x y (.inl hp) w
  · cases hq : Ln.okB q
    · exact back_bad p q at_ x y (.inr hq) w
    · exact back_ok p q at_ x y hp hq hat hx hy _ _ _ rfl rfl rfl w
end Lw
end Go.Proofs.Ytegjkbebnnpdcaa
