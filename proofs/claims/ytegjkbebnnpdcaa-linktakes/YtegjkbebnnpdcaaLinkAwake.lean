/- 'awake' of layer 5's statements answers true, and leaves all that lay. -/
import Derived.Test.YtegjkbebnnpdcaaLinkTake
import Derived.Test.YtegjkbebnnpdcaaLinkMath2
namespace Go.Proofs.Ytegjkbebnnpdcaa
namespace Lw
open Go.RowKit

def p1 : Ln.Pk := ⟨1, 0, 0, 0, 0, 0, 0, false, false, false, false, false, 0, 0⟩
def p2 : Ln.Pk := ⟨2, 0, 0, 0, 0, 0, 0, false, false, false, false, false, 0, 0⟩
theorem p1_ok : Ln.okB p1 = true := by decide
theorem p2_bad : Ln.okB p2 = false := by decide

theorem rowb_below {W W' : World} {g : Nat} {l : List Nat} {k : Nat} (h : Crc.RowB W g l) (hb : Below k W W') (hk : g < k) : Crc.RowB W' g l := by
  obtain ⟨cur, h1, h2⟩ := h.row
  exact ⟨cur, (hb.block g hk).trans h1, h2⟩
theorem rowb_off {W W' : World} {g k : Nat} {l : List Nat} (h : Crc.RowB W g l) (hb : Crc.Off k W W') (hk : g ≠ k) : Crc.RowB W' g l := by
  obtain ⟨cur, h1, h2⟩ := h.row
  exact ⟨cur, (hb.block g hk).trans h1, h2⟩
theorem dec_enc {p : Ln.Pk} (h : Ln.okB p = true) : Ln.decP (Ln.enc p) = p ∧ Ln.decE (Ln.enc p) = 0 := by
  have hk := Ln.okB_iff.1 h
  have hg := Ln.good_enc hk
  unfold Ln.decP Ln.decE
  rw [if_pos hg, if_pos hg, Ln.rd_enc hk]
  exact ⟨rfl, rfl⟩
/-- A packet's bytes, decoded. -/
theorem dec_same (p : Ln.Pk) (h : Ln.okB p = true) (g c : Nat) (hc : 32 ≤ c) (w : World) (hr : Crc.RowB w g (Ln.enc p)) :
    Calls Try.prog 14 #[.slice (some ⟨g, 0, none⟩) 32 c] w fun e w' => e = .returned (.tuple #[.agg (pc p), .int .i64 0]) ∧ Below w.heap.size w w' := by
  have := dec_c 32 (some ⟨g, 0, none⟩) (Ln.enc p) c w (Ln.enc_len p) (Ln.enc_bytes p) hc (row_inb hr)
  rwa [(dec_enc h).1, (dec_enc h).2] at this
/-- Take, where it is known what it answers. -/
theorem take_res {N : Nat} {p : Ln.Pk} {n : Nat} {x : Int} (l : List Nat) (h : Ln.Res l p n x) (A : Option Addr) (c : Nat) (w : World) (hN : l.length = N) (hb : Cr.Bytes l) (hc : N ≤ c) (h1m : N ≤ 1000000) (hA : Crc.InB w A l) :
    Calls Try.prog 16 #[.slice A N c] w fun e w' => e = .returned (.tuple #[.agg (pc p), .int .i64 (n : Int), .int .i64 x]) ∧ Below w.heap.size w w' :=
  (take_c N A l c w hN hb hc h1m hA).mono fun e w' ⟨p', n', x', h1, h2, h3⟩ => by
    obtain ⟨rfl, rfl, rfl⟩ := h.uniq h1
    exact ⟨h2, h3⟩
theorem own_lit {W : World} {base : Nat} (l : List Nat) (hb : base ≤ W.heap.size) (hl : l.length ≤ 1000) {C : Array Value} (hC : C = (Crc.bs l).toArray) : (W.alloc (.cells C 5)).ownsRow base 5 1 (.slice (some ⟨W.heap.size, 0, none⟩) l.length l.length) l.length (Crc.bs l) := by
  subst hC
  have := World.ownsRow_lit (e := 5) (size := 1) W (Crc.bs l).toArray l.length hb (by unfold maxLen; omega) (by simp [Crc.bs])
  simpa using this
theorem own_inb {W : World} {base : Nat} {v : Value} {l : List Nat} (h : W.ownsRow base 5 1 v l.length (Crc.bs l)) : ∃ A c, v = .slice A l.length c ∧ Crc.InB W A l ∧ l.length ≤ c ∧ (∀ a, A = some a → base ≤ a.block) := by
  have hcap : ∀ g cap, v = .slice (some ⟨g, 0, none⟩) l.length cap → l.length ≤ cap := by
    intro g cap e
    rcases h.2 with ⟨rfl, _⟩ | ⟨g', cap', cur, rfl, _, _, hnc, _⟩
    · cases e
    · cases e; exact hnc
  by_cases e : l.length = 0
  · rcases h.2 with ⟨rfl, _⟩ | ⟨g, cap, cur, rfl, hg, _⟩
    · exact ⟨none, 0, by rw [e], fun i hi => by omega, by omega, fun a ha => by cases ha⟩
    · exact ⟨_, _, rfl, fun i hi => by omega, by omega, fun a ha => by cases ha; exact hg⟩
  · have hh := h
    obtain ⟨g, cap, rfl, hg, _⟩ := h.form (by omega)
    refine ⟨_, _, rfl, fun i hi => ⟨g, 0, rfl, ?_⟩, hcap g cap rfl, fun a ha => by cases ha; exact hg⟩
    rw [Nat.zero_add, hh.cellAt i (by omega)]
    simp [Crc.bs, hi]

/-- 'append(s, x...)' of bytes, s of the call's own, x whatever. -/
theorem app_n {ops : Array Oper} {Q : Exit → Act → World → Prop} {a : Act} {w : World} {rest : List Oper} {o : Oper} (hw : Region.wanted o (yielded ops a.tmps) = true)
    (s x : Operand) (ho : o.op = .call { callee := .builtin .append, args := #[s, x], argTypes := #[27, 27] })
    (base N1 : Nat) (v : Value) (l : List Nat) (hs : a.eval s = v) (hown : w.ownsRow base 5 1 v l.length (Crc.bs l)) (hN1 : l.length = N1)
    (A : Option Addr) (l2 : List Nat) (N2 c : Nat) (hx : a.eval x = .slice A N2 c) (hN2 : l2.length = N2) (hA : Crc.InB w A l2) (hm : N1 + N2 ≤ 1000000) (hbase : base ≤ w.heap.size)
    (h : ∀ A' c' w', w'.ownsRow base 5 1 (.slice A' (N1 + N2) c') (l ++ l2).length (Crc.bs (l ++ l2)) → Crc.InB w' A' (l ++ l2) → N1 + N2 ≤ c' → (∀ ad, A' = some ad → base ≤ ad.block) → Below base w w' → wpList Try.prog ops Q rest (a.put o.dst (.slice A' (N1 + N2) c')) w') : wpList Try.prog ops Q (o :: rest) a w := by
  subst hN1 hN2
  refine Crc.wpList_append_bytes hw s x ho base v l hs hown A l2 c hx hA (by omega) hbase fun v' w' h1 h2 => ?_
  obtain ⟨A', c', rfl, h3, h4, h5⟩ := own_inb h1
  rw [List.length_append] at *
  exact h A' c' w' h1 h3 h4 h5 ((Below.refl base w).grown h2 hbase (Crc.ownBlock_le hown))

/-- What is kept through a call: bytes of our own, a packet of our own, all that lay. -/
structure Kp (w W : World) (g k : Nat) (l : List Nat) (p : Ln.Pk) : Prop where
  row : Crc.RowB W g l
  pk : Pkt W k p
  old : Below w.heap.size w W
  gle : w.heap.size ≤ g
namespace Kp
variable {w W W' : World} {g k : Nat} {l : List Nat} {p : Ln.Pk}
theorem below {K : Nat} (h : Kp w W g k l p) (hb : Below K W W') (hK : W.heap.size ≤ K) : Kp w W' g k l p :=
  ⟨rowb_below h.row hb (by have := h.row.lt; omega), h.pk.below hb (by have := h.pk.lt; omega), h.old.trans (hb.mono (by have := h.old.size; omega)), h.gle⟩
theorem alloc (h : Kp w W g k l p) (o : Obj) : Kp w (W.alloc o) g k l p := h.below ((Below.refl W.heap.size W).alloc (Nat.le_refl _) o) (Nat.le_refl _)
theorem off {j : Nat} (h : Kp w W g k l p) (ho : Crc.Off j W W') (h1 : g ≠ j) (h2 : k ≠ j) (h3 : w.heap.size ≤ j) : Kp w W' g k l p :=
  ⟨rowb_off h.row ho h1, (ho.block k h2).trans h.pk, h.old.trans (ho.below h3), h.gle⟩
/-- A new packet beside. -/
theorem stored (h : Kp w W g k l p) (o : Obj) (ho : Crc.Off W.heap.size (W.alloc o) W') : Kp w W' g k l p := by
  have h1 := h.row.lt
  have h2 := h.pk.lt
  exact (h.alloc o).off ho (by omega) (by omega) h.old.size
theorem start {q : Ln.Pk} {o : Obj} (hr : Crc.RowB W g l) (hb : Below w.heap.size w W) (hg : w.heap.size ≤ g) (hP : Pkt W' W.heap.size q) (ho : Crc.Off W.heap.size (W.alloc o) W') : Kp w W' g W.heap.size l q := by
  have h1 := hr.lt
  have h3 := (Below.refl W.heap.size W).alloc (Nat.le_refl _) o
  exact ⟨rowb_off (rowb_below hr h3 h1) ho (by omega), hP, (hb.trans (h3.mono hb.size)).trans (ho.below hb.size), hg⟩
end Kp

theorem lit_inb (W : World) {l : List Nat} {C : Array Value} (hC : C = (Crc.bs l).toArray) : Crc.InB (W.alloc (.cells C 5)) (some ⟨W.heap.size, 0, none⟩) l := by
  subst hC
  intro i hi
  refine ⟨W.heap.size, 0, rfl, ?_⟩
  rw [Nat.zero_add, Joins.cell_of_block (heap_alloc_last W _)]
  simp [Crc.bs, hi]

set_option maxRecDepth 100000 in
set_option maxHeartbeats 8000000 in
theorem awake_c (w : World) : Calls Try.prog 9 #[] w fun e w' => e = .returned (.bool true) ∧ Below w.heap.size w w' := by
  have CE := Lib.hid (enc_ok p1 p1_ok)
  have CD := Lib.hid (fun g W h => dec_same p1 p1_ok g 32 (by decide) W h)
  have CT := Lib.hid (fun A c W h1 h2 => take_res (N := 33) ([7] ++ (Ln.enc p1 ++ [])) (Ln.res_ahead (a := [7]) (r := []) (fun v hv => by simp at hv; omega) (Ln.okB_iff.1 p1_ok)) A c W (by simp [Ln.enc_len]) (by rw [List.append_nil]; exact Ln.bytes_app (fun v hv => by simp at hv; omega) (Ln.enc_bytes p1)) h1 (by decide) h2)
  rw [List.append_nil] at CT
  have C3 := Lib.hid (fun A W h2 => take_res (N := 3) [7, 213, 1] Ln.res_three A 3 W rfl (by unfold Cr.Bytes; decide) (by decide) (by decide) h2)
  have K1 := Lib.hid (check_b true p1 p1_ok)
  have K2 := Lib.hid (check_b false p2 p2_bad)
  have HL := Lib.hid (Ln.enc_len p1)
  have HY : Hid ((Ln.enc p1).getD 0 0 = 213 ∧ (Ln.enc p1).getD 1 0 = 1) := by
    obtain ⟨u, v, e⟩ := Ln.enc_eq p1
    show _ ∧ _
    rw [e]
    exact ⟨rfl, rfl⟩
  have E1 := eq_pk p1 p1
  rw [same_refl] at E1
  have E2 : ∀ W, (binOp .eql 26 (.agg (pc p1)) (.agg #[.int .i64 1, .int .i64 0, .int .i64 0, .int .i64 0, .int .i64 0, .int .i64 0, .int .i64 0, .bool false, .bool false, .bool false, .bool false, .bool false, .int .i64 0, .int .i64 0])).run Try.prog W = .ok (.bool true) W := E1
  generalize Ln.enc p1 = b1 at *
  go_enter Try.func9, Try.ntmps9
  go_wp2_with fail
  refine (CE.out _).mono ?_
  rintro e W1 ⟨g, hg, rfl, hr, hb⟩
  have HR := Lib.hid hr
  have HB := Lib.hid hb
  clear hr hb CE
  go_wp2_with fail
  refine (CD.out _ _ HR.out).mono ?_
  rintro e W2 ⟨rfl, hb⟩
  replace HR := Lib.hid (rowb_below HR.out hb HR.out.lt)
  replace HB := Lib.hid (HB.out.trans (hb.mono HB.out.size))
  clear hb CD
  go_wp2_with (first
    | (refine st_pk rfl _ _ rfl rfl _ Ln.zero p1 rfl rfl (Pkt.new W2 Ln.zero) ?_; intro W3 h1 h2; have HK := Lib.hid (Kp.start HR.out HB.out hg h1 h2); clear h1 h2 HR HB; have HO := Lib.hid (own_lit (W := W3) (base := W3.heap.size) (C := #[.int .u8 7]) [7] (Nat.le_refl _) (by decide) rfl); have HI := Lib.hid (row_inb (HK.out.alloc (.cells #[.int .u8 7] 5)).row))
    | (at_builtin; refine app_n rfl (.tmp 22) (.tmp 23) rfl W3.heap.size 1 _ [7] rfl HO.out rfl _ b1 32 32 rfl HL.out HI.out (by decide) (by simp) ?_; intro A c W4 hown hin hc hba hbel; replace HK := Lib.hid (HK.out.below (((Below.refl W3.heap.size W3).alloc (Nat.le_refl _) _).trans hbel) (Nat.le_refl _)); replace HI := Lib.hid hin; clear hown hin hba hbel HO)
    | (go_at_call 16; refine (CT.out _ _ _ (by assumption) HI.out).mono ?_; rintro e W5 ⟨rfl, hb⟩; replace HK := Lib.hid (HK.out.below hb (Nat.le_refl _)); clear hb HI CT)
    | (refine st_pk rfl _ _ rfl rfl _ Ln.zero p1 rfl rfl (Pkt.new W5 Ln.zero) ?_; intro W6 h1 h2; have HQ := Lib.hid h1; replace HK := Lib.hid (HK.out.stored _ h2); clear h1 h2)
    | (go_at_call 16; refine (C3.out _ _ (lit_inb W6 rfl)).mono ?_; rintro e W7 ⟨rfl, hb⟩; have h3 := ((Below.refl W6.heap.size W6).alloc (Nat.le_refl _) (.cells #[.int .u8 7, .int .u8 213, .int .u8 1] 5)); have h4 := h3.trans (hb.mono h3.size); replace HK := Lib.hid (HK.out.below h4 (Nat.le_refl _)); replace HQ := Lib.hid (HQ.out.below h4 HQ.out.lt); clear hb h3 h4 C3)
    | (refine st_pk rfl _ _ rfl rfl _ Ln.zero Ln.zero rfl rfl (Pkt.new W7 Ln.zero) ?_; intro W8 h1 h2; replace HQ : Hid (Pkt W8 W5.heap.size p1) := (h2.block _ (by have := HQ.out.lt; omega)).trans (HQ.out.alloc _); replace HK := Lib.hid (HK.out.stored _ h2); have c0 := HK.out.row.cell (i := 0) (by rw [HL.out]; decide); have c1 := HK.out.row.cell (i := 1) (by rw [HL.out]; decide); rw [HY.out.1] at c0; rw [HY.out.2] at c1; clear h1 h2)
    | (refine ld_pk rfl _ rfl _ _ rfl HK.out.pk ?_)
    | (refine ld_pk rfl _ rfl _ _ rfl HQ.out ?_)
    | (go_at_call 12; refine (K2.out _).mono ?_; rintro e W9 ⟨rfl, hb⟩; replace HK := Lib.hid (HK.out.below hb (Nat.le_refl _)); clear hb K2 c0 c1)
    | (go_at_call 12; refine (K1.out _).mono ?_; rintro e W10 ⟨rfl, hb⟩; replace HK := Lib.hid (HK.out.below hb (Nat.le_refl _)); clear hb K1))
  go_ret
  exact ⟨rfl, HK.out.old⟩
end Lw
end Go.Proofs.Ytegjkbebnnpdcaa
