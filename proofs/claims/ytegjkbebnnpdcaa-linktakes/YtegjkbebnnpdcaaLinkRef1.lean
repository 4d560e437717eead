/- The document's bytes of a packet. -/
import Derived.Test.YtegjkbebnnpdcaaLinkLawKit
import Derived.Test.YtegjkbebnnpdcaaLinkPks
namespace Go.Proofs.Ytegjkbebnnpdcaa
namespace Lw
open Go.RowKit

theorem u32_bytes (n : Int) : ∃ U : Int, IntKind.u32.wrap n = U ∧ IntKind.u8.wrap (U / 16777216) = (Ln.bt n 3 : Int) ∧ IntKind.u8.wrap (U / 65536) = (Ln.bt n 2 : Int) ∧ IntKind.u8.wrap (U / 256) = (Ln.bt n 1 : Int) ∧ IntKind.u8.wrap U = (Ln.bt n 0 : Int) := by
  refine ⟨n % 4294967296, Cb.wrap_u32 n, ?_, ?_, ?_, ?_⟩
  · rw [Cb.wrap_u8, Ln.bt3]; omega
  · rw [Cb.wrap_u8, Ln.bt2]; omega
  · rw [Cb.wrap_u8, Ln.bt1]; omega
  · rw [Cb.wrap_u8, Ln.bt0]; omega

theorem four_c (n : Int) (w : World) : Calls Try.prog 20 #[.int .i64 n] w fun e w' => e = .returned (.slice (some ⟨w.heap.size, 0, none⟩) 4 4) ∧ Crc.InB w' (some ⟨w.heap.size, 0, none⟩) (Ln.be 4 n) ∧ Below w.heap.size w w' := by
  obtain ⟨U, h0, h3, h2, h1, hb⟩ := u32_bytes n
  have HI : Hid (Crc.InB (w.alloc (.cells #[.int .u8 (Ln.bt n 3 : Int), .int .u8 (Ln.bt n 2 : Int), .int .u8 (Ln.bt n 1 : Int), .int .u8 (Ln.bt n 0 : Int)] 5)) (some ⟨w.heap.size, 0, none⟩) (Ln.be 4 n)) := lit_inb w rfl
  have HB := Lib.hid ((Below.refl w.heap.size w).alloc (Nat.le_refl _) (.cells #[.int .u8 (Ln.bt n 3 : Int), .int .u8 (Ln.bt n 2 : Int), .int .u8 (Ln.bt n 1 : Int), .int .u8 (Ln.bt n 0 : Int)] 5))
  go_enter Try.func20, Try.ntmps20
  go_wp2_with fail
  go_ret
  exact ⟨rfl, HI.out, HB.out⟩

set_option maxRecDepth 100000 in
theorem renc_bad (p : Ln.Pk) (hb : Ln.okB p = false) (w : World) : Calls Try.prog 11 #[.agg (pc p)] w fun e w' => e = .returned (.tuple #[.slice none 0 0, .int .i64 1]) ∧ Below w.heap.size w w' := by
  have C := Lib.hid (rcheck_b false p hb)
  have HV := Lib.hid ((Hv.nil w).made (.cells (pc p) 26))
  go_enter Try.func11, Try.ntmps11
  go_wp2_with (first
    | (refine ld_pk rfl _ rfl _ _ rfl (HV.out.has _ (List.mem_cons_self ..)) ?_)
    | (go_at_call 13; refine (C.out _).mono ?_; rintro e W1 ⟨rfl, ho⟩; replace HV := Lib.hid (HV.out.grow ho); clear ho))
  go_ret2
  exact ⟨rfl, HV.out.old⟩

/-- The state of the document's writing: the packet in block m, its bytes behind block k. -/
structure Rw (w W : World) (p : Ln.Pk) (k : Nat) (v : Value) (l : List Nat) : Prop where
  pk : Pkt W w.heap.size p
  own : W.ownsRow k 5 1 v l.length (Crc.bs l)
  old : Below w.heap.size w W
  lt : w.heap.size < k
  le : k ≤ W.heap.size
namespace Rw
variable {w W W' : World} {p : Ln.Pk} {k : Nat} {v : Value} {l : List Nat}
theorem grow (h : Rw w W p k v l) (hb : Below W.heap.size W W') : Rw w W' p k v l :=
  ⟨h.pk.below hb h.pk.lt, own_grow' h.own hb, h.old.trans (hb.mono h.old.size), h.lt, Nat.le_trans h.le hb.size⟩
theorem app {v' : Value} {l' : List Nat} (h : Rw w W p k v l) (ho : W'.ownsRow k 5 1 v' l'.length (Crc.bs l')) (hb : Below k W W') : Rw w W' p k v' l' :=
  ⟨h.pk.below hb h.lt, ho, h.old.trans (hb.mono (Nat.le_of_lt h.lt)), h.lt, Nat.le_trans h.le hb.size⟩
end Rw

theorem Hv.belowK2 {w W W' : World} {o : Obj} {K : Nat} (h : Hv w W [(w.heap.size, o)]) (hb : Below K W W') (hK : w.heap.size < K) : Hv w W' [(w.heap.size, o)] :=
  ⟨fun e he => by rw [List.mem_singleton.1 he]; exact (hb.block _ hK).trans (h.has (w.heap.size, o) (by simp)), h.old.trans (hb.mono (Nat.le_of_lt hK))⟩
theorem Rw.mk6 {w W : World} {p : Ln.Pk} {k : Nat} {A : Option Addr} {N c : Nat} {l : List Nat} (h : Hv w W [(w.heap.size, .cells (pc p) 26 (0, 0))]) (hk : w.heap.size < k) (ho : W.ownsRow k 5 1 (.slice A N c) l.length (Crc.bs l)) (hl : 0 < l.length) : Rw w W p k (.slice A N c) l := by
  obtain ⟨g, cap, _, h1, h2⟩ := ho.form hl
  exact ⟨h.has (w.heap.size, .cells (pc p) 26 (0, 0)) (by simp), ho, h.old, hk, by omega⟩
theorem Rw.lit {w W : World} {p : Ln.Pk} {k : Nat} {v : Value} {l : List Nat} (h : Rw w W p k v l) (o : Obj) : Rw w (W.alloc o) p k v l := h.grow ((Below.refl W.heap.size W).alloc (Nat.le_refl _) o)
/-- The bytes ahead of the values, with the first k of them. -/
def rv (p : Ln.Pk) : Nat → List Nat
  | 0 => [213, Ln.bt p.f 0] ++ Ln.be 4 p.n ++ [Ln.bt p.m 0, Ln.bt p.s 0]
  | k + 1 => rv p k ++ Ln.be 4 (vl p k)
theorem rv_len (p : Ln.Pk) (k : Nat) : (rv p k).length = 8 + 4 * k := by
  induction k with
  | zero => simp [rv, Ln.be_len]
  | succ k ih => rw [rv, List.length_append, ih, Ln.be_len]; omega
theorem rv_e30 (p : Ln.Pk) : rv p 5 ++ [Ln.bt (Ln.bits p) 0, 0] = Ln.e30 p := by
  have h1 : Ln.bt 213 0 = 213 := by decide
  have h2 : Ln.bt 0 0 = 0 := by decide
  simp only [rv, vl, Ln.e30, Ln.be, List.nil_append, List.cons_append, h1, h2]
theorem bu_lt (p : Ln.Pk) : ∀ k, 0 ≤ bu p k ∧ bu p k < 32 := by
  obtain ⟨f, n, a, b, c, d, e, ga, gb, gc, gd, ge, m, s⟩ := p
  intro k
  match k with
  | 0 => simp only [bu]; decide
  | 1 => simp only [bu]; cases ga <;> decide
  | 2 => simp only [bu]; cases ga <;> cases gb <;> decide
  | 3 => simp only [bu]; cases ga <;> cases gb <;> cases gc <;> decide
  | 4 => simp only [bu]; cases ga <;> cases gb <;> cases gc <;> cases gd <;> decide
  | k + 5 =>
    show 0 ≤ Ln.bits _ ∧ Ln.bits _ < 32
    simp only [Ln.bits]
    cases ga <;> cases gb <;> cases gc <;> cases gd <;> cases ge <;> decide
theorem rmore_n {N S : Nat} (A : Option Addr) (l : List Nat) (c : Nat) (w : World) (hS : Hid (Cr.more 65535 l = S)) (hN : l.length = N) (hb : Cr.Bytes l) (hl : N ≤ 9223372036854775807) (hA : Crc.InB w A l) :
    Calls Try.prog 21 #[.int .u16 65535, .slice A N c] w fun e w' => e = .returned (.int .u16 S) ∧ w' = w := by
  subst hN
  have := Crc.rmore_c w.heap.size 65535 A l c w (by decide) hb hl (inb_any hA)
  rwa [hS.out] at this
/-- 'append(s, x...)' of bytes at a step of a region that draws. -/
theorem step_app {ops : Array Oper} {o : Oper} {a : Act} {w : World} {K : Act → World → Prop} {Q : Exit → Act → World → Prop} {E : Prop} (hgd : o.guard = none)
    (s x : Operand) (ho : o.op = .call { callee := .builtin .append, args := #[s, x], argTypes := #[27, 27] })
    (base N1 : Nat) (v : Value) (l : List Nat) (hs : a.eval s = v) (hown : w.ownsRow base 5 1 v l.length (Crc.bs l)) (hN1 : l.length = N1)
    (g : Nat) (l2 : List Nat) (N2 c : Nat) (hx : a.eval x = .slice (some ⟨g, 0, none⟩) N2 c) (hN2 : l2.length = N2) (hpos : 0 < N2) (hA : Crc.InB w (some ⟨g, 0, none⟩) l2) (hm : N1 + N2 ≤ 1000000) (hbase : base ≤ w.heap.size)
    (h : ∀ A' c' w', w'.ownsRow base 5 1 (.slice A' (N1 + N2) c') (l ++ l2).length (Crc.bs (l ++ l2)) → Below base w w' → K (a.put o.dst (.slice A' (N1 + N2) c')) w') :
    if Region.wanted o (yielded ops a.tmps) = true then Oper.wp Try.prog o a w K Q else E := by
  obtain ⟨i, hi, hz, hsz, hby⟩ := Crc.byte_split
  subst hN1 hN2
  refine step_append_lies w hgd s x 27 ho base 5 i (.int .u8 0) 1 1 Try.underlying27 hi hz hsz hby rfl (by decide) v l.length (Crc.bs l) hs hown ⟨g, 0, none⟩ l2.length c (Crc.bs l2) hx (by rw [Crc.bs_length, Nat.mul_one]) ?_ (fun u hu => Crc.bs_one hu) hpos (by unfold maxLen; omega) (by omega) hbase _ rfl ?_
  · intro j u hj
    have hjl : j < l2.length := by
      rcases Nat.lt_or_ge j l2.length with h | h
      · exact h
      · rw [List.getElem?_eq_none (by rw [Crc.bs_length]; exact h)] at hj; cases hj
    obtain ⟨q, o', e, hc⟩ := hA j hjl
    cases e
    rw [Addr.add_mid, hc]
    simp [Crc.bs, hjl] at hj
    subst hj
    simp [hjl]
  · intro g' cap w' h1 h2 h3 h4
    exact h _ _ w' (by rw [Crc.bs_append, List.length_append]; exact h1) ((Below.refl base w).grown h2 hbase (fun k hk => (own_lt hown k hk).1))

set_option maxRecDepth 100000 in
set_option maxHeartbeats 8000000 in
theorem renc_ok (p : Ln.Pk) (hb : Ln.okB p = true) (w : World) : Calls Try.prog 11 #[.agg (pc p)] w fun e w' => ∃ A c, e = .returned (.tuple #[.slice A 32 c, .int .i64 0]) ∧ Crc.InB w' A (Ln.enc p) ∧ Below w.heap.size w w' := by
  have C := Lib.hid (rcheck_b true p hb)
  have HV := Lib.hid ((Hv.nil w).made (.cells (pc p) 26))
  have HK := Lib.hid (Ln.okB_iff.1 hb)
  have hf0 : IntKind.u8.wrap p.f = (Ln.bt p.f 0 : Int) := byte0 p.f
  have hm0 : IntKind.u8.wrap p.m = (Ln.bt p.m 0 : Int) := byte0 p.m
  have hs0 : IntKind.u8.wrap p.s = (Ln.bt p.s 0 : Int) := byte0 p.s
  clear hb
  go_enter Try.func11, Try.ntmps11
  go_wp2_with (first
    | (refine ld_pk rfl _ rfl _ _ rfl (HV.out.has _ (List.mem_cons_self ..)) ?_)
    | (go_at_call 13; refine (C.out _).mono ?_; rintro e W1 ⟨rfl, ho⟩; replace HV := Lib.hid (HV.out.grow ho); clear ho C))
  have SS : Hid (∀ V, Hv w V [(w.heap.size, .cells (pc p) 26 (0, 0))] → (fun V => V.cell? ⟨w.heap.size, 0, none⟩ = some (.int .i64 p.f) ∧ V.cell? ⟨w.heap.size, 1, none⟩ = some (.int .i64 p.n)) V) := fun V h => ⟨Pkt.cell (h.has (w.heap.size, .cells (pc p) 26 (0, 0)) (by simp)) 0 rfl, Pkt.cell (h.has (w.heap.size, .cells (pc p) 26 (0, 0)) (by simp)) 1 rfl⟩
  have CF := Lib.hid (four_c p.n)
  have hml : w.heap.size < W1.heap.size := HV.out.lt (e := (w.heap.size, .cells (pc p) 26 (0, 0))) (by simp)
  have HLb := Lib.hid (Ln.be_len 4 p.n)
  go_region_held3 (fun V => V.cell? ⟨w.heap.size, 0, none⟩ = some (.int .i64 p.f) ∧ V.cell? ⟨w.heap.size, 1, none⟩ = some (.int .i64 p.n)) (first | exact SS.out _ HV.out.drew | exact SS.out _ HV.out | exact SS.out _ (HV.out.alloc _).drew | exact SS.out _ HV2.out | exact SS.out _ (HV2.out.alloc _) | exact SS.out _ HV3.out | fail)
    (first
      | (go_at_call 20; refine (CF.out _).mono ?_; rintro e W2 ⟨rfl, hin, hb⟩; have hle : W1.heap.size ≤ W2.heap.size := (by have := hb.size; simp at this; omega); (first | (have HV2 := Lib.hid ((HV.out.alloc (.cells #[.int .u8 213, .int .u8 (Ln.bt p.f 0 : Int)] 5)).drew.grow hb); have hsz : (W1.alloc (.cells #[.int .u8 213, .int .u8 (Ln.bt p.f 0 : Int)] 5)).drew.heap.size = W1.heap.size + 1 := (by show (W1.alloc (.cells #[.int .u8 213, .int .u8 (Ln.bt p.f 0 : Int)] 5)).heap.size = _; simp); rw [hsz] at hin; have HOL := Lib.hid (own_grow' (W := (W1.alloc (.cells #[.int .u8 213, .int .u8 (Ln.bt p.f 0 : Int)] 5)).drew) (own_lit (W := W1) (base := W1.heap.size) (C := #[.int .u8 213, .int .u8 (Ln.bt p.f 0 : Int)]) [213, Ln.bt p.f 0] (Nat.le_refl _) (by simp) rfl) hb)) | (have HV2 := Lib.hid (HV.out.drew.grow hb); have HOB := Lib.hid (own_lit (W := W2) (base := W1.heap.size) (C := #[.int .u8 213, .int .u8 (Ln.bt p.f 0 : Int)]) [213, Ln.bt p.f 0] hle (by simp) rfl); have HIB := Lib.hid (hin.below ((Below.refl W2.heap.size W2).alloc (Nat.le_refl _) (.cells #[.int .u8 213, .int .u8 (Ln.bt p.f 0 : Int)] 5))); have hleB : W1.heap.size ≤ (W2.alloc (.cells #[.int .u8 213, .int .u8 (Ln.bt p.f 0 : Int)] 5)).heap.size := (by simp; omega))); have HI := Lib.hid hin; clear hin hb)
      | (refine step_app rfl (.tmp 15) (.tmp 18) rfl W1.heap.size 2 (.slice (some ⟨W1.heap.size, 0, none⟩) 2 2) [213, Ln.bt p.f 0] rfl HOL.out rfl _ (Ln.be 4 p.n) 4 4 rfl HLb.out (by decide) HI.out (by decide) hle ?_; intro A' c' W3 hown hbel; have HV3 := Lib.hid (HV2.out.belowK2 hbel hml); have HO := Lib.hid hown; clear hown hbel HOL)
      | (refine step_app rfl (.tmp 15) (.tmp 18) rfl W1.heap.size 2 (.slice (some ⟨W2.heap.size, 0, none⟩) 2 2) [213, Ln.bt p.f 0] rfl HOB.out rfl _ (Ln.be 4 p.n) 4 4 rfl HLb.out (by decide) HIB.out (by decide) hleB ?_; intro A' c' W3 hown hbel; have HV3 := Lib.hid ((HV2.out.alloc _).belowK2 hbel hml); have HO := Lib.hid hown; clear hown hbel HOB HIB hleB)
      | fail)
  all_goals
    have HW := Lib.hid (Rw.mk6 HV3.out hml HO.out (by simp))
    clear HV HV2 HV3 HO HI SS CF HLb hle hf0
    have c12 := HW.out.pk.cell 12 rfl
    have c13 := HW.out.pk.cell 13 rfl
    have HL6 : Hid (([213, Ln.bt p.f 0] ++ Ln.be 4 p.n).length = 6) := by show _ = 6; simp [Ln.be_len]
    go_wp2_with (first
      | (at_builtin; refine app_n rfl _ _ rfl W1.heap.size 6 _ _ rfl (HW.out.lit (.cells #[.int .u8 (Ln.bt p.m 0 : Int), .int .u8 (Ln.bt p.s 0 : Int)] 5)).own HL6.out _ [Ln.bt p.m 0, Ln.bt p.s 0] 2 2 rfl rfl (lit_inb W3 rfl) (by decide) (HW.out.lit (.cells #[.int .u8 (Ln.bt p.m 0 : Int), .int .u8 (Ln.bt p.s 0 : Int)] 5)).le ?_; intro A4 c4 W4 hown hin hcc hba hbel; replace HW : Hid (Rw w W4 p W1.heap.size (.slice A4 (6 + 2) c4) (rv p 0)) := (HW.out.lit (.cells #[.int .u8 (Ln.bt p.m 0 : Int), .int .u8 (Ln.bt p.s 0 : Int)] 5)).app hown hbel; clear hown hin hcc hba hbel))
    clear c12 c13 hm0 hs0 HL6
    go_loopw [4, 5, 6, 7] (fun v gd bi i wr => ∃ k : Nat, k ≤ 5 ∧ i = .int .i64 k ∧ gd = .int .i64 (bu p k) ∧ bi = .int .i64 (2 ^ k : Int) ∧ Rw w wr p W1.heap.size v (rv p k)) (fun _ _ _ i _ => 5 - (intOf i).toNat)
    case atStart => exact ⟨0, by decide, rfl, rfl, rfl, HW.out⟩
    case round =>
      obtain ⟨k, hk, rfl, rfl, rfl, hw⟩ := hrel
      clear HW
      have HW := Lib.hid hw
      clear hw
      by_cases hlt : k < 5
      · have hk5 : k = 0 ∨ k = 1 ∨ k = 2 ∨ k = 3 ∨ k = 4 := by omega
        rcases hk5 with rfl | rfl | rfl | rfl | rfl
        · have cv : wr.cell? ⟨w.heap.size, 2, none⟩ = some (.int .i64 p.a) := HW.out.pk.cell 2 rfl
          have HLk := Lib.hid (rv_len p 0)
          have HL4 := Lib.hid (Ln.be_len 4 p.a)
          have E : Hid (bu p 1 = bu p 0 + Ln.bit p.ga 1) := by show _ = _; simp [bu]
          have hb1 := bu_lt p 0
          generalize bu p 0 = x at *
          have hx : wrap64 (x + 1) = x + 1 := by unfold wrap64; omega
          clear hb1
          cases hg : p.ga
          all_goals
            rw [hg] at E
            go_wp2_with (first
              | (go_at_call 20; refine (four_c p.a _).mono ?_; rintro e W5 ⟨rfl, hin, hb⟩; replace HW := Lib.hid (HW.out.grow hb); have HI := Lib.hid hin; clear hin hb cv)
              | (at_builtin; refine app_n rfl _ _ rfl W1.heap.size 8 _ _ rfl HW.out.own HLk.out _ (Ln.be 4 p.a) 4 4 rfl HL4.out HI.out (by decide) HW.out.le ?_; intro A6 c6 W6 hown hin hcc hba hbel; replace HW : Hid (Rw w W6 p W1.heap.size (.slice A6 (8 + 4) c6) (rv p 1)) := HW.out.app hown hbel; have cg : W6.cell? ⟨w.heap.size, 7, none⟩ = some (.bool p.ga) := HW.out.pk.cell 7 rfl; rw [hg] at cg; clear hown hin hcc hba hbel HI))
            go_roundw
            case rel => exact ⟨1, by decide, rfl, by rw [E.out]; simp [Ln.bit, hx], rfl, HW.out⟩
            case measure => simp [intOf]
        · have cv : wr.cell? ⟨w.heap.size, 3, none⟩ = some (.int .i64 p.b) := HW.out.pk.cell 3 rfl
          have HLk := Lib.hid (rv_len p 1)
          have HL4 := Lib.hid (Ln.be_len 4 p.b)
          have E : Hid (bu p 2 = bu p 1 + Ln.bit p.gb 2) := by show _ = _; simp [bu]
          have hb1 := bu_lt p 1
          generalize bu p 1 = x at *
          have hx : wrap64 (x + 2) = x + 2 := by unfold wrap64; omega
          clear hb1
          cases hg : p.gb
          all_goals
            rw [hg] at E
            go_wp2_with (first
              | (go_at_call 20; refine (four_c p.b _).mono ?_; rintro e W5 ⟨rfl, hin, hb⟩; replace HW := Lib.hid (HW.out.grow hb); have HI := Lib.hid hin; clear hin hb cv)
              | (at_builtin; refine app_n rfl _ _ rfl W1.heap.size 12 _ _ rfl HW.out.own HLk.out _ (Ln.be 4 p.b) 4 4 rfl HL4.out HI.out (by decide) HW.out.le ?_; intro A6 c6 W6 hown hin hcc hba hbel; replace HW : Hid (Rw w W6 p W1.heap.size (.slice A6 (12 + 4) c6) (rv p 2)) := HW.out.app hown hbel; have cg : W6.cell? ⟨w.heap.size, 8, none⟩ = some (.bool p.gb) := HW.out.pk.cell 8 rfl; rw [hg] at cg; clear hown hin hcc hba hbel HI))
            go_roundw
            case rel => exact ⟨2, by decide, rfl, by rw [E.out]; simp [Ln.bit, hx], rfl, HW.out⟩
            case measure => simp [intOf]
        · have cv : wr.cell? ⟨w.heap.size, 4, none⟩ = some (.int .i64 p.c) := HW.out.pk.cell 4 rfl
          have HLk := Lib.hid (rv_len p 2)
          have HL4 := Lib.hid (Ln.be_len 4 p.c)
          have E : Hid (bu p 3 = bu p 2 + Ln.bit p.gc 4) := by show _ = _; simp [bu]
          have hb1 := bu_lt p 2
          generalize bu p 2 = x at *
          have hx : wrap64 (x + 4) = x + 4 := by unfold wrap64; omega
          clear hb1
          cases hg : p.gc
          all_goals
            rw [hg] at E
            go_wp2_with (first
              | (go_at_call 20; refine (four_c p.c _).mono ?_; rintro e W5 ⟨rfl, hin, hb⟩; replace HW := Lib.hid (HW.out.grow hb); have HI := Lib.hid hin; clear hin hb cv)
              | (at_builtin; refine app_n rfl _ _ rfl W1.heap.size 16 _ _ rfl HW.out.own HLk.out _ (Ln.be 4 p.c) 4 4 rfl HL4.out HI.out (by decide) HW.out.le ?_; intro A6 c6 W6 hown hin hcc hba hbel; replace HW : Hid (Rw w W6 p W1.heap.size (.slice A6 (16 + 4) c6) (rv p 3)) := HW.out.app hown hbel; have cg : W6.cell? ⟨w.heap.size, 9, none⟩ = some (.bool p.gc) := HW.out.pk.cell 9 rfl; rw [hg] at cg; clear hown hin hcc hba hbel HI))
            go_roundw
            case rel => exact ⟨3, by decide, rfl, by rw [E.out]; simp [Ln.bit, hx], rfl, HW.out⟩
            case measure => simp [intOf]
        · have cv : wr.cell? ⟨w.heap.size, 5, none⟩ = some (.int .i64 p.d) := HW.out.pk.cell 5 rfl
          have HLk := Lib.hid (rv_len p 3)
          have HL4 := Lib.hid (Ln.be_len 4 p.d)
          have E : Hid (bu p 4 = bu p 3 + Ln.bit p.gd 8) := by show _ = _; simp [bu]
          have hb1 := bu_lt p 3
          generalize bu p 3 = x at *
          have hx : wrap64 (x + 8) = x + 8 := by unfold wrap64; omega
          clear hb1
          cases hg : p.gd
          all_goals
            rw [hg] at E
            go_wp2_with (first
              | (go_at_call 20; refine (four_c p.d _).mono ?_; rintro e W5 ⟨rfl, hin, hb⟩; replace HW := Lib.hid (HW.out.grow hb); have HI := Lib.hid hin; clear hin hb cv)
              | (at_builtin; refine app_n rfl _ _ rfl W1.heap.size 20 _ _ rfl HW.out.own HLk.out _ (Ln.be 4 p.d) 4 4 rfl HL4.out HI.out (by decide) HW.out.le ?_; intro A6 c6 W6 hown hin hcc hba hbel; replace HW : Hid (Rw w W6 p W1.heap.size (.slice A6 (20 + 4) c6) (rv p 4)) := HW.out.app hown hbel; have cg : W6.cell? ⟨w.heap.size, 10, none⟩ = some (.bool p.gd) := HW.out.pk.cell 10 rfl; rw [hg] at cg; clear hown hin hcc hba hbel HI))
            go_roundw
            case rel => exact ⟨4, by decide, rfl, by rw [E.out]; simp [Ln.bit, hx], rfl, HW.out⟩
            case measure => simp [intOf]
        · have cv : wr.cell? ⟨w.heap.size, 6, none⟩ = some (.int .i64 p.e) := HW.out.pk.cell 6 rfl
          have HLk := Lib.hid (rv_len p 4)
          have HL4 := Lib.hid (Ln.be_len 4 p.e)
          have E : Hid (bu p 5 = bu p 4 + Ln.bit p.ge 16) := by show _ = _; simp [bu, Ln.bits]
          have hb1 := bu_lt p 4
          generalize bu p 4 = x at *
          have hx : wrap64 (x + 16) = x + 16 := by unfold wrap64; omega
          clear hb1
          cases hg : p.ge
          all_goals
            rw [hg] at E
            go_wp2_with (first
              | (go_at_call 20; refine (four_c p.e _).mono ?_; rintro e W5 ⟨rfl, hin, hb⟩; replace HW := Lib.hid (HW.out.grow hb); have HI := Lib.hid hin; clear hin hb cv)
              | (at_builtin; refine app_n rfl _ _ rfl W1.heap.size 24 _ _ rfl HW.out.own HLk.out _ (Ln.be 4 p.e) 4 4 rfl HL4.out HI.out (by decide) HW.out.le ?_; intro A6 c6 W6 hown hin hcc hba hbel; replace HW : Hid (Rw w W6 p W1.heap.size (.slice A6 (24 + 4) c6) (rv p 5)) := HW.out.app hown hbel; have cg : W6.cell? ⟨w.heap.size, 11, none⟩ = some (.bool p.ge) := HW.out.pk.cell 11 rfl; rw [hg] at cg; clear hown hin hcc hba hbel HI))
            go_roundw
            case rel => exact ⟨5, by decide, rfl, by rw [E.out]; simp [Ln.bit, hx], rfl, HW.out⟩
            case measure => simp [intOf]
      · obtain rfl : k = 5 := by omega
        have hb0 : IntKind.u8.wrap (bu p 5) = (Ln.bt (Ln.bits p) 0 : Int) := byte0 (Ln.bits p)
        have HLk := Lib.hid (rv_len p 5)
        have HE30 := Lib.hid (rv_e30 p)
        have HL30 := Lib.hid (Ln.e30_len p)
        have HB30 := Lib.hid (Ln.e30_bytes p)
        obtain ⟨s, hs⟩ : ∃ s, Cr.more 65535 (Ln.e30 p) = s := ⟨_, rfl⟩
        have hsl := Cr.more_lt (s := 65535) (by decide) (Ln.e30_bytes p)
        rw [hs] at hsl
        have HS := Lib.hid hs
        have s1 : IntKind.u8.wrap ((s : Int) / 256) = (Ln.bt (s : Int) 1 : Int) := byte1 s
        have s0 : IntKind.u8.wrap (s : Int) = (Ln.bt (s : Int) 0 : Int) := byte0 s
        have HEnc : Hid (Ln.e30 p ++ [Ln.bt (s : Int) 1, Ln.bt (s : Int) 0] = Ln.enc p) := by show _ = _; unfold Ln.enc; rw [hs]; rfl
        have HEl := Lib.hid (Ln.enc_len p)
        generalize bu p 5 = x at *
        clear hs
        go_wp2_with (first
          | (at_builtin; refine app_n rfl _ _ rfl W1.heap.size 28 _ _ rfl (HW.out.lit (.cells #[.int .u8 (Ln.bt (Ln.bits p) 0 : Int), .int .u8 0] 5)).own HLk.out _ [Ln.bt (Ln.bits p) 0, 0] 2 2 rfl rfl (lit_inb wr rfl) (by decide) (HW.out.lit (.cells #[.int .u8 (Ln.bt (Ln.bits p) 0 : Int), .int .u8 0] 5)).le ?_; intro A7 c7 W7 hown hin hcc hba hbel; rw [HE30.out] at hown hin; replace HW : Hid (Rw w W7 p W1.heap.size (.slice A7 (28 + 2) c7) (Ln.e30 p)) := (HW.out.lit (.cells #[.int .u8 (Ln.bt (Ln.bits p) 0 : Int), .int .u8 0] 5)).app hown hbel; have HI := Lib.hid hin; clear hown hin hcc hba hbel))
        refine (rmore_n _ (Ln.e30 p) _ _ HS HL30.out HB30.out (by decide) HI.out).mono ?_
        rintro e W8 ⟨rfl, rfl⟩
        clear HI HE30 HLk
        generalize Ln.e30 p = l30 at *
        go_wp2_with (first
          | (at_builtin; refine app_n rfl _ _ rfl W1.heap.size 30 _ _ rfl (HW.out.lit (.cells #[.int .u8 (Ln.bt (s : Int) 1 : Int), .int .u8 (Ln.bt (s : Int) 0 : Int)] 5)).own HL30.out _ [Ln.bt (s : Int) 1, Ln.bt (s : Int) 0] 2 2 rfl rfl (lit_inb _ rfl) (by decide) (HW.out.lit (.cells #[.int .u8 (Ln.bt (s : Int) 1 : Int), .int .u8 (Ln.bt (s : Int) 0 : Int)] 5)).le ?_; intro A9 c9 W9 hown hin hcc hba hbel; rw [HEnc.out] at hown hin; replace HW : Hid (Rw w W9 p W1.heap.size (.slice A9 (30 + 2) c9) (Ln.enc p)) := (HW.out.lit (.cells #[.int .u8 (Ln.bt (s : Int) 1 : Int), .int .u8 (Ln.bt (s : Int) 0 : Int)] 5)).app hown hbel; have HI2 := Lib.hid hin; clear hown hin hcc hba hbel))
        go_ret2
        exact ⟨_, _, rfl, HI2.out, HW.out.old⟩
end Lw
end Go.Proofs.Ytegjkbebnnpdcaa
