/- link.decode, link.Decode. -/
import Derived.Test.YtegjkbebnnpdcaaLinkRead2
namespace Go.Proofs.Ytegjkbebnnpdcaa
namespace Lw
open Go.RowKit

theorem inb_any {w : World} {A : Option Addr} {l : List Nat} (h : Crc.InB w A l) : Crc.BytesAt w w.heap.size A l := by
  intro i hi
  obtain ⟨c, o, e, hc⟩ := h i hi
  have : c < w.heap.size := World.block_lt_of_cell? _ _ hc
  exact ⟨c, o, e, by omega, hc⟩
theorem row_inb {W : World} {g : Nat} {l : List Nat} (h : Crc.RowB W g l) : Crc.InB W (some ⟨g, 0, none⟩) l := fun i hi => ⟨g, 0, rfl, by rw [Nat.zero_add]; exact h.cell hi⟩
theorem str_dec {a b : List Nat} (ha : Cr.Bytes a) (hb : Cr.Bytes b) : ((Crc.str a).toList == (Crc.str b).toList) = (a == b) := by
  by_cases e : a = b
  · subst e; rw [beq_self_eq_true, beq_self_eq_true]
  · rw [beq_eq_false_iff_ne.2 e, beq_eq_false_iff_ne.2 (fun h => e (Crc.str_inj ha hb h))]
theorem conv_n {N : Nat} {W : World} {b : Nat} {A : Option Addr} {l : List Nat} {c : Nat} (h : Crc.BytesAt W b A l) (h1 : 1 ≤ N) (hN : l.length = N) : (convert 27 9 (.slice A N c)).run Try.prog W = .ok (.string (Crc.str l)) W := by
  subst hN; exact Crc.conv_c h h1

theorem eqb_c (z : Bool) (A B : Option Addr) (c c' : Nat) (l l2 : List Nat) (hl : l.length = 32) (hl2 : l2.length = 32) (hb : Cr.Bytes l) (hb2 : Cr.Bytes l2) (hz : (l == l2) = z) (w : World) (hA : Crc.InB w A l) (hB : Crc.InB w B l2) :
    Calls Try.prog 29 #[.slice A 32 c, .slice B 32 c'] w fun e w' => e = .returned (.bool z) ∧ w' = w := by
  have h1 := conv_n (c := c) (inb_any hA) (by decide) hl
  have h2 := conv_n (c := c') (inb_any hB) (by decide) hl2
  have h3 := str_dec hb hb2
  rw [hz] at h3
  clear hA hB hb hb2
  generalize Crc.str l = s1 at *
  generalize Crc.str l2 = s2 at *
  go_enter Try.func29, Try.ntmps29
  go_wp2_with fail
  go_ret
  exact ⟨rfl, rfl⟩

theorem res2 {fn : Func} {p u : Tmp} (h : fn.results = #[.cell p 26, .tmp u]) (tmps : Array Value) (w : World) (g : Nat) (q : Ln.Pk) (hp : tmps.getD p undef = .pointer (some ⟨g, 0, none⟩)) (hP : Pkt w g q) :
    (results fn tmps).run Try.prog w = .ok (.tuple #[.agg (pc q), tmps.getD u undef]) w := by
  rw [results_cell_tmp h, hp]
  simp [asAddr, run_loadVar_row (P := Try.prog) w g 26 26 (pc q) (0, 0) _ hP Try.underlying26 rfl info_pk]
theorem res3 {fn : Func} {p u v : Tmp} (h : fn.results = #[.cell p 26, .tmp u, .tmp v]) (tmps : Array Value) (w : World) (g : Nat) (q : Ln.Pk) (hp : tmps.getD p undef = .pointer (some ⟨g, 0, none⟩)) (hP : Pkt w g q) :
    (results fn tmps).run Try.prog w = .ok (.tuple #[.agg (pc q), tmps.getD u undef, tmps.getD v undef]) w := by
  have hp' : tmps[p]?.getD undef = .pointer (some ⟨g, 0, none⟩) := by simpa using hp
  simp [results, h, hp', asAddr, run_loadVar_row (P := Try.prog) w g 26 26 (pc q) (0, 0) _ hP Try.underlying26 rfl info_pk]

theorem ba_offs {w W : World} {b : Nat} {A : Option Addr} {l : List Nat} (h : Crc.BytesAt w b A l) (ho : Offs b w W) : Crc.BytesAt W b A l := by
  intro i hi
  obtain ⟨c, o, e, hc, hh⟩ := h i hi
  exact ⟨c, o, e, hc, (ho.cell (p := ⟨c, o + i, none⟩) hc (World.block_lt_of_cell? _ _ hh)).trans hh⟩
theorem ba_inb {w : World} {b : Nat} {A : Option Addr} {l : List Nat} (h : Crc.BytesAt w b A l) : Crc.InB w A l := fun i hi => by
  obtain ⟨c, o, e, _, hh⟩ := h i hi
  exact ⟨c, o, e, hh⟩
theorem is_offs {w W : World} {b n g : Nat} (h : Crc.Is w b n) (ho : Crc.Off g w W) (hg : b ≠ g) : Crc.Is W b n := h.of_block (ho.block b hg)
theorem is_below {w W : World} {b n m : Nat} (h : Crc.Is w b n) (ho : Below m w W) (hg : b < m) : Crc.Is W b n := h.of_block (ho.block b hg)

/-- What decode keeps while it works: the Sum, the result's block, all that lay. -/
structure De (b n m : Nat) (w W : World) : Prop where
  is : Crc.Is W b n
  off : Offs b w W
  res : Pkt W m Ln.zero
  le : w.heap.size ≤ m
  lt : b < w.heap.size
namespace De
variable {b n m : Nat} {w W W' : World}
theorem start (h : Crc.Is w b n) : De b n w.heap.size w (w.alloc (.cells (pc Ln.zero) 26)) :=
  have hb := (Below.refl w.heap.size w).alloc (Nat.le_refl _) (.cells (pc Ln.zero) 26)
  ⟨is_below h hb h.lt, Offs.of_below hb, Pkt.new w Ln.zero, Nat.le_refl _, h.lt⟩
theorem below (h : De b n m w W) (hb : Below W.heap.size W W') : De b n m w W' :=
  ⟨is_below h.is hb h.is.lt, h.off.trans (Offs.of_below hb), h.res.below hb h.res.lt, h.le, h.lt⟩
theorem alloc (h : De b n m w W) (o : Obj) : De b n m w (W.alloc o) := h.below ((Below.refl _ _).alloc (Nat.le_refl _) o)
theorem off1 {g : Nat} (h : De b n m w W) (ho : Crc.Off g W W') (hg : w.heap.size ≤ g) (hm : m ≠ g) : De b n m w W' :=
  ⟨is_offs h.is ho (by have := h.lt; omega), ⟨ho.os.trans h.off.os, ho.tape.trans h.off.tape, ho.output.trans h.off.output, by rw [ho.size]; exact h.off.size, fun k hk hb => (ho.block k (by omega)).trans (h.off.block k hk hb)⟩, (ho.block m hm).trans h.res, h.le, h.lt⟩
theorem offs {n' : Nat} (h : De b n m w W) (hi : Crc.Is W' b n') (ho : Offs b W W') : De b n' m w W' :=
  ⟨hi, h.off.trans ho, h.res.offs ho (by have := h.lt; have := h.le; omega), h.le, h.lt⟩
theorem last (h : De b n m w W) (ho : Crc.Off m W W') : Crc.Is W' b n ∧ Offs b w W' :=
  ⟨is_offs h.is ho (by have := h.lt; have := h.le; omega), ⟨ho.os.trans h.off.os, ho.tape.trans h.off.tape, ho.output.trans h.off.output, by rw [ho.size]; exact h.off.size, fun k hk hb => (ho.block k (by have := h.le; omega)).trans (h.off.block k hk hb)⟩⟩
end De

set_option maxRecDepth 100000 in
set_option maxHeartbeats 4000000 in
theorem decode_short (b n : Nat) (A : Option Addr) (l : List Nat) (c : Nat) (w : World) (h : Crc.Is w b n) (hl : l.length ≠ 32) :
    Calls Try.prog 23 #[.pointer (some ⟨b, 0, none⟩), .slice A l.length c] w fun e w' => e = .returned (.tuple #[.agg (pc Ln.zero), .int .i64 50]) ∧ Crc.Is w' b n ∧ Offs b w w' := by
  have HD := Lib.hid (De.start h)
  clear h
  have d1 : decide ((l.length : Int) = 32) = false := by simp; omega
  generalize l.length = N at *
  go_enter Try.func23, Try.ntmps23
  go_wp2_with (first | (refine st_pk rfl _ _ rfl rfl _ _ Ln.zero rfl rfl HD.out.res ?_; intro W1 h1 h2; have HP := Lib.hid h1; have HO := Lib.hid h2; clear h1 h2))
  refine bodyPost_ret (res2 rfl _ _ _ _ rfl HP.out) rfl ?_
  exact ⟨rfl, HD.out.last HO.out⟩

set_option maxRecDepth 100000 in
set_option maxHeartbeats 4000000 in
theorem decode_32 (b n : Nat) (A : Option Addr) (l : List Nat) (c : Nat) (w : World) (h : Crc.Is w b n) (hn : n + 1 < 4611686018427387904) (hl : l.length = 32) (hb : Cr.Bytes l) (hc : 32 ≤ c) (hA : Crc.BytesAt w b A l) :
    Calls Try.prog 23 #[.pointer (some ⟨b, 0, none⟩), .slice A 32 c] w fun e w' => e = .returned (.tuple #[.agg (pc (Ln.decP l)), .int .i64 (Ln.decE l)]) ∧ (∃ n', n' ≤ n + 1 ∧ Crc.Is w' b n') ∧ Offs b w w' := by
  have HD := Lib.hid (De.start h)
  have HA := Lib.hid hA
  have CR := Lib.hid (fun W hW => read_c l hl hb A c hc W hW)
  have HB := Lib.hid hb
  clear h hA hb
  obtain ⟨p, hp⟩ : ∃ p, Ln.rd l = p := ⟨_, rfl⟩
  cases hk : Ln.okB p
  · have hg : Ln.good l = false := by unfold Ln.good; rw [hp, hk]; simp
    have HP0 : Hid (Ln.decP l = Ln.zero ∧ Ln.decE l = 50) := by show _ ∧ _; unfold Ln.decP Ln.decE; rw [hg]; exact ⟨rfl, rfl⟩
    have CK := Lib.hid (check_b false p hk)
    rw [hp] at CR
    clear hp hk hg
    rw [HP0.out.1, HP0.out.2]
    go_enter Try.func23, Try.ntmps23
    go_wp2_with fail
    refine (CR.out _ (ba_inb (ba_offs HA.out HD.out.off))).mono ?_
    rintro e W1 ⟨rfl, ho⟩
    replace HD := Lib.hid (HD.out.below ho)
    clear ho
    have HD1 := Lib.hid (HD.out.alloc (.cells (pc Ln.zero) 26))
    have hne := HD.out.res.lt
    go_wp2_with (first
      | (refine st_pk rfl _ _ rfl rfl _ Ln.zero p rfl rfl (Pkt.new W1 Ln.zero) ?_; intro W2 h1 h2; have HK := Lib.hid h1; replace HD := Lib.hid (HD1.out.off1 h2 (by have := HD1.out.le; omega) (by omega)); clear h1 h2 HD1)
      | (refine ld_pk rfl _ rfl _ _ rfl HK.out ?_)
      | (go_at_call 12; refine (CK.out _).mono ?_; rintro e W3 ⟨rfl, ho⟩; replace HD := Lib.hid (HD.out.below ho); clear ho)
      | (refine st_pk rfl _ _ rfl rfl _ _ Ln.zero rfl rfl HD.out.res ?_; intro W4 h1 h2; have HP := Lib.hid h1; have HO := Lib.hid h2; clear h1 h2))
    refine bodyPost_ret (res2 rfl _ _ _ _ rfl HP.out) rfl ?_
    exact ⟨rfl, ⟨n, by omega, (HD.out.last HO.out).1⟩, (HD.out.last HO.out).2⟩
  · have CK := Lib.hid (check_b true p hk)
    have CW := Lib.hid (fun W h => write_c p b n W h hn)
    rw [hp] at CR
    obtain ⟨z, hz⟩ : ∃ z, (Ln.enc p == l) = z := ⟨_, rfl⟩
    have CE := Lib.hid (fun G W h1 h2 => eqb_c z (some ⟨G, 0, none⟩) A 32 c (Ln.enc p) l (Ln.enc_len p) hl (Ln.enc_bytes p) HB.out hz W h1 h2)
    have hg : Ln.good l = z := by unfold Ln.good; rw [hp, hk, hz, hl]; simp
    clear hk
    cases z
    · have HP0 : Hid (Ln.decP l = Ln.zero ∧ Ln.decE l = 50) := by show _ ∧ _; unfold Ln.decP Ln.decE; rw [hg]; exact ⟨rfl, rfl⟩
      clear hp hg hz
      rw [HP0.out.1, HP0.out.2]
      go_enter Try.func23, Try.ntmps23
      go_wp2_with fail
      refine (CR.out _ (ba_inb (ba_offs HA.out HD.out.off))).mono ?_
      rintro e W1 ⟨rfl, ho⟩
      replace HD := Lib.hid (HD.out.below ho)
      clear ho
      have HD1 := Lib.hid (HD.out.alloc (.cells (pc Ln.zero) 26))
      have hne := HD.out.res.lt
      go_wp2_with (first
        | (refine st_pk rfl _ _ rfl rfl _ Ln.zero p rfl rfl (Pkt.new W1 Ln.zero) ?_; intro W2 h1 h2; have HK := Lib.hid h1; replace HD := Lib.hid (HD1.out.off1 h2 (by have := HD1.out.le; omega) (by omega)); clear h1 h2 HD1)
        | (refine ld_pk rfl _ rfl _ _ rfl HK.out ?_)
        | (refine ld_pk rfl _ rfl _ _ rfl HK3.out ?_)
        | (go_at_call 12; refine (CK.out _).mono ?_; rintro e W3 ⟨rfl, ho⟩; replace HD := Lib.hid (HD.out.below ho); have HK3 := Lib.hid (HK.out.below ho HK.out.lt); clear ho)
        | (go_at_call 18; refine (CW.out _ HD.out.is).mono ?_; rintro e W4 ⟨rfl, hr, hi, ho⟩; have HR := Lib.hid hr; replace HD := Lib.hid (HD.out.offs hi ho); clear hr hi ho)
        | (go_at_call 29; refine (CE.out _ _ (row_inb HR.out) (ba_inb (ba_offs HA.out HD.out.off))).mono ?_; rintro e W5 ⟨rfl, rfl⟩)
        | (refine st_pk rfl _ _ rfl rfl _ _ Ln.zero rfl rfl HD.out.res ?_; intro W6 h1 h2; have HP := Lib.hid h1; have HO := Lib.hid h2; clear h1 h2))
      refine bodyPost_ret (res2 rfl _ _ _ _ rfl HP.out) rfl ?_
      exact ⟨rfl, ⟨n + 1, by omega, (HD.out.last HO.out).1⟩, (HD.out.last HO.out).2⟩
    · have HP0 : Hid (Ln.decP l = p ∧ Ln.decE l = 0) := by show _ ∧ _; unfold Ln.decP Ln.decE; rw [hg, hp]; exact ⟨rfl, rfl⟩
      clear hp hg hz
      rw [HP0.out.1, HP0.out.2]
      go_enter Try.func23, Try.ntmps23
      go_wp2_with fail
      refine (CR.out _ (ba_inb (ba_offs HA.out HD.out.off))).mono ?_
      rintro e W1 ⟨rfl, ho⟩
      replace HD := Lib.hid (HD.out.below ho)
      clear ho
      have HD1 := Lib.hid (HD.out.alloc (.cells (pc Ln.zero) 26))
      have hne := HD.out.res.lt
      have hbl := HD.out.is.lt
      go_wp2_with (first
        | (refine st_pk rfl _ _ rfl rfl _ Ln.zero p rfl rfl (Pkt.new W1 Ln.zero) ?_; intro W2 h1 h2; have HK := Lib.hid h1; replace HD := Lib.hid (HD1.out.off1 h2 (by have := HD1.out.le; omega) (by omega)); clear h1 h2 HD1)
        | (refine ld_pk rfl _ rfl _ _ rfl HK.out ?_)
        | (refine ld_pk rfl _ rfl _ _ rfl HK3.out ?_)
        | (refine ld_pk rfl _ rfl _ _ rfl HK4.out ?_)
        | (go_at_call 12; refine (CK.out _).mono ?_; rintro e W3 ⟨rfl, ho⟩; replace HD := Lib.hid (HD.out.below ho); have HK3 := Lib.hid (HK.out.below ho HK.out.lt); clear ho)
        | (go_at_call 18; refine (CW.out _ HD.out.is).mono ?_; rintro e W4 ⟨rfl, hr, hi, ho⟩; have HR := Lib.hid hr; replace HD := Lib.hid (HD.out.offs hi ho); have HK4 := Lib.hid (HK3.out.offs ho (by omega)); clear hr hi ho)
        | (go_at_call 29; refine (CE.out _ _ (row_inb HR.out) (ba_inb (ba_offs HA.out HD.out.off))).mono ?_; rintro e W5 ⟨rfl, rfl⟩)
        | (refine st_pk rfl _ _ rfl rfl _ _ p rfl rfl HD.out.res ?_; intro W6 h1 h2; have HP := Lib.hid h1; have HO := Lib.hid h2; clear h1 h2))
      refine bodyPost_ret (res2 rfl _ _ _ _ rfl HP.out) rfl ?_
      exact ⟨rfl, ⟨n + 1, by omega, (HD.out.last HO.out).1⟩, (HD.out.last HO.out).2⟩

theorem dec_short {l : List Nat} (h : l.length ≠ 32) : Ln.decP l = Ln.zero ∧ Ln.decE l = 50 := by
  have hg : Ln.good l = false := by unfold Ln.good; rw [beq_eq_false_iff_ne.2 h]; rfl
  unfold Ln.decP Ln.decE
  rw [hg]
  exact ⟨rfl, rfl⟩
theorem decode_c (N b n : Nat) (A : Option Addr) (l : List Nat) (c : Nat) (w : World) (h : Crc.Is w b n) (hn : n + 1 < 4611686018427387904) (hN : l.length = N) (hb : Cr.Bytes l) (hc : N ≤ c) (hA : Crc.BytesAt w b A l) :
    Calls Try.prog 23 #[.pointer (some ⟨b, 0, none⟩), .slice A N c] w fun e w' => e = .returned (.tuple #[.agg (pc (Ln.decP l)), .int .i64 (Ln.decE l)]) ∧ (∃ n', n' ≤ n + 1 ∧ Crc.Is w' b n') ∧ Offs b w w' := by
  by_cases h32 : l.length = 32
  · obtain rfl : N = 32 := by omega
    exact decode_32 b n A l c w h hn h32 hb hc hA
  · subst hN
    rw [(dec_short h32).1, (dec_short h32).2]
    exact (decode_short b n A l c w h h32).mono fun e w' ⟨h1, h2, h3⟩ => ⟨h1, ⟨n, by omega, h2⟩, h3⟩

end Lw
end Go.Proofs.Ytegjkbebnnpdcaa
