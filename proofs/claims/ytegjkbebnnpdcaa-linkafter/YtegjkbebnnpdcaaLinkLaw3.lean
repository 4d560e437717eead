/- The walk of LinkAfter. -/
import Derived.Test.YtegjkbebnnpdcaaLinkLawKit
namespace Go.Proofs.Ytegjkbebnnpdcaa
namespace Lw
open Go.RowKit

theorem one_box (w : World) (p : Ln.Pk) : Hv w (w.alloc (.cells (pc p) 26)) [(w.heap.size, .cells (pc p) 26 (0, 0))] := (Hv.nil w).made (.cells (pc p) 26)

set_option maxRecDepth 100000 in
set_option maxHeartbeats 4000000 in
theorem after_bad (A : Option Addr) (l : List Nat) (c : Nat) (p : Ln.Pk) (cut : Nat) (h : Ln.okB p = false) (w : World) :
    Calls Try.prog 7 #[.slice A l.length c, .agg (pc p), .int .u8 cut] w fun e w' => e = .returned (.bool true) ∧ Below w.heap.size w w' := by
  have HV := Lib.hid (one_box w p)
  have CP := Lib.hid (enc_bad p h)
  clear h
  go_enter Try.func7, Try.ntmps7
  go_wp2_with (first
    | (go_at_call 9; refine (awake_c _).mono ?_; rintro e w1 ⟨rfl, hb⟩; replace HV := Lib.hid (HV.out.grow hb); clear hb)
    | (refine ld_pk rfl _ rfl _ _ rfl (HV.out.has _ (List.mem_cons_self ..)) ?_)
    | (go_at_call 10; (with_reducible refine (CP.out _).mono ?_); rintro e w2 ⟨rfl, hb⟩; replace HV := Lib.hid (HV.out.grow hb); clear hb))
  go_ret
  exact ⟨rfl, HV.out.old⟩

set_option maxRecDepth 100000 in
set_option maxHeartbeats 4000000 in
theorem after_long (A : Option Addr) (l : List Nat) (c : Nat) (p : Ln.Pk) (cut : Nat) (h : Ln.okB p = true) (hl : 100 < l.length) (w : World) :
    Calls Try.prog 7 #[.slice A l.length c, .agg (pc p), .int .u8 cut] w fun e w' => e = .returned (.bool true) ∧ Below w.heap.size w w' := by
  have HV := Lib.hid (one_box w p)
  have CP := Lib.hid (enc_ok p h)
  have d1 : decide ((100 : Int) < (l.length : Int)) = true := by simp; omega
  clear h
  go_enter Try.func7, Try.ntmps7
  go_wp2_with (first
    | (go_at_call 9; refine (awake_c _).mono ?_; rintro e w1 ⟨rfl, hb⟩; replace HV := Lib.hid (HV.out.grow hb); clear hb)
    | (refine ld_pk rfl _ rfl _ _ rfl (HV.out.has _ (List.mem_cons_self ..)) ?_)
    | (go_at_call 10; (with_reducible refine (CP.out _).mono ?_); rintro e w2 ⟨g, hg, rfl, hr, hb⟩; replace HV := Lib.hid (HV.out.grow hb); clear hb hr))
  go_ret
  exact ⟨rfl, HV.out.old⟩

/-- Those of bytes that are not D5. -/
def fr (l : List Nat) : List Nat := l.filter (fun v => v != 213)
theorem fr_not {l : List Nat} : ∀ v ∈ fr l, v ≠ 213 := fun v hv => by simpa using (List.mem_filter.1 hv).2
theorem fr_bytes {l : List Nat} (h : Cr.Bytes l) : Cr.Bytes (fr l) := fun v hv => h v (List.mem_filter.1 hv).1
theorem fr_len (l : List Nat) : (fr l).length ≤ l.length := List.length_filter_le _ _
theorem fr_take {l : List Nat} {k : Nat} (hk : k < l.length) : fr (l.take (k + 1)) = fr (l.take k) ++ (if l.getD k 0 = 213 then [] else [l.getD k 0]) := by
  have e : l.take (k + 1) = l.take k ++ [l.getD k 0] := by
    rw [List.take_add_one]
    simp [hk]
  rw [e]
  generalize l.getD k 0 = x
  unfold fr
  rw [List.filter_append]
  congr 1
  by_cases h : x = 213 <;> simp [h]
theorem own_grow {W W' : World} {b : Nat} {v : Value} {n : Nat} {xs : List Value} (h : W.ownsRow b 5 1 v n xs) (hb : Below W.heap.size W W') : W'.ownsRow b 5 1 v n xs := by
  obtain ⟨h1, h2⟩ := h
  refine ⟨h1, ?_⟩
  rcases h2 with h2 | ⟨g, cap, cur, hv, hg, hh, r⟩
  · exact .inl h2
  · exact .inr ⟨g, cap, cur, hv, hg, (hb.block g (Array.getElem?_eq_some_iff.1 hh).1).trans hh, r⟩
theorem Hv.belowK {w W W' : World} {L : List (Nat × Obj)} {K : Nat} (h : Hv w W L) (hb : Below K W W') (hK : ∀ e ∈ L, e.1 < K) (hw : w.heap.size ≤ K) : Hv w W' L :=
  ⟨fun e he => (hb.block e.1 (hK e he)).trans (h.has e he), h.old.trans (hb.mono hw)⟩
theorem inb_take {W : World} {A : Option Addr} {l : List Nat} (h : Crc.InB W A l) (k : Nat) : Crc.InB W A (l.take k) := Crc.InB.take h k
theorem inb_drop {W : World} {q o : Nat} {l : List Nat} (h : Crc.InB W (some ⟨q, o, none⟩) l) (k : Nat) : Crc.InB W (some ⟨q, o + k, none⟩) (l.drop k) := fun i hi => by
  rw [List.length_drop] at hi
  obtain ⟨q', o', e, hc⟩ := h (k + i) (by omega)
  cases e
  refine ⟨q, o + k, rfl, ?_⟩
  rw [Nat.add_assoc, hc]
  simp
theorem inb_grow {W W' : World} {A : Option Addr} {l : List Nat} (h : Crc.InB W A l) (hb : Below W.heap.size W W') : Crc.InB W' A l := h.below hb
/-- The state of the loop: what is kept so far lies behind block b. -/
structure Fs (b : Nat) (W1 W : World) (v : Value) (F : List Nat) : Prop where
  own : W.ownsRow b 5 1 v F.length (Crc.bs F)
  old : Below b W1 W
  le : b ≤ W.heap.size

set_option maxRecDepth 100000 in
set_option maxHeartbeats 8000000 in
theorem after_ok (A : Option Addr) (l : List Nat) (c : Nat) (p : Ln.Pk) (cut : Nat) (hcut : cut < 256) (hp : Ln.okB p = true) (hl : l.length ≤ 100) (hb : Cr.Bytes l) (w : World) (hA : Crc.InB w A l) :
    Calls Try.prog 7 #[.slice A l.length c, .agg (pc p), .int .u8 cut] w fun e w' => e = .returned (.bool true) ∧ Below w.heap.size w w' := by
  have HV := Lib.hid (one_box w p)
  have CP := Lib.hid (enc_ok p hp)
  have d1 : decide ((100 : Int) < (l.length : Int)) = false := by simp; omega
  have HA := Lib.hid hA
  have HL := Lib.hid (Ln.enc_len p)
  have HK := Lib.hid (Ln.okB_iff.1 hp)
  have HB := Lib.hid hb
  clear hp hA hb
  go_enter Try.func7, Try.ntmps7
  go_wp2_with (first
    | (go_at_call 9; refine (awake_c _).mono ?_; rintro e w1 ⟨rfl, hb⟩; replace HV := Lib.hid (HV.out.grow hb); clear hb)
    | (refine ld_pk rfl _ rfl _ _ rfl (HV.out.has _ (List.mem_cons_self ..)) ?_))
  refine (CP.out _).mono ?_
  rintro e W1 ⟨ga, hga, rfl, hr, hb⟩
  obtain ⟨oa, hoa, fa⟩ := row_obj hr
  have FA := Lib.hid fa
  replace HV := Lib.hid ((HV.out.grow hb).add (ga, oa) hoa)
  have HLT : Hid (∀ e ∈ [(ga, oa), (w.heap.size, Obj.cells (pc p) 26 (0, 0))], e.1 < W1.heap.size) := fun e he => HV.out.lt he
  clear hr hb hoa fa CP hga
  go_wp2_with fail
  go_loopw [10, 11] (fun v i wr => ∃ k : Nat, k ≤ l.length ∧ i = .int .i64 k ∧ Fs W1.heap.size W1 wr v (fr (l.take k))) (fun _ i _ => l.length - (intOf i).toNat)
  case atStart => exact ⟨0, Nat.zero_le _, rfl, ⟨⟨by simp [Crc.bs], .inl ⟨rfl, rfl⟩⟩, Below.refl _ _, Nat.le_refl _⟩⟩
  case round =>
    obtain ⟨k, hk, rfl, hf⟩ := hrel
    have HF := Lib.hid hf
    clear hf
    by_cases hlt : k < l.length
    · have E := Lib.hid (fr_take hlt)
      obtain ⟨q, o, rfl, hc⟩ := HA.out.below (HV.out.grow (HF.out.old)).old k hlt
      by_cases h213 : l.getD k 0 = 213
      · rw [h213] at hc E
        rw [if_pos rfl, List.append_nil] at E
        clear h213
        go_wp2_with fail
        go_roundw
        case rel => exact ⟨k + 1, by omega, by go_num, by rw [E.out]; exact HF.out⟩
        case measure => simp [intOf]; omega
      · rw [if_neg h213] at E
        have d2 : (((l.getD k 0 : Nat) : Int) != 213) = true := by rw [bne_iff_ne]; omega
        clear h213
        generalize l.getD k 0 = x at *
        have HI := Lib.hid (lit_inb wr (l := [x]) (C := #[.int .u8 (x : Int)]) rfl)
        have hbl := (Below.refl wr.heap.size wr).alloc (Nat.le_refl _) (.cells #[.int .u8 (x : Int)] 5)
        have HO := Lib.hid (own_grow HF.out.own hbl)
        have HL1 : Hid (W1.heap.size ≤ (wr.alloc (.cells #[.int .u8 (x : Int)] 5)).heap.size) := Nat.le_trans HF.out.le hbl.size
        have HO1 := Lib.hid (HF.out.old.trans (hbl.mono HF.out.le))
        have hfl : (fr (l.take k)).length + 1 ≤ 1000000 := by have := fr_len (l.take k); have := List.length_take_le k l; omega
        clear hbl
        go_wp2_with (first | (at_builtin; refine app_n rfl _ _ rfl W1.heap.size _ _ (fr (l.take k)) rfl HO.out rfl _ [x] 1 1 rfl rfl HI.out hfl HL1.out ?_; intro A' c' W6 hown hin hcc hba hbel; have HF6 : Hid (Fs W1.heap.size W1 W6 (.slice A' ((fr (l.take k)).length + 1) c') (fr (l.take k) ++ [x])) := ⟨hown, HO1.out.trans hbel, Nat.le_trans HL1.out hbel.size⟩; clear hown hin hcc hba hbel))
        go_roundw
        case rel => exact ⟨k + 1, by omega, by go_num, by rw [E.out]; exact HF6.out⟩
        case measure => simp [intOf]; omega
    · obtain rfl : k = l.length := by omega
      rw [List.take_length] at HF
      obtain ⟨F, hF⟩ : ∃ F, fr l = F := ⟨_, rfl⟩
      have HN : Hid (∀ v ∈ F, v ≠ 213) := hF ▸ fr_not
      have HFb : Hid (Cr.Bytes F) := hF ▸ fr_bytes HB.out
      have hFl : F.length ≤ 100 := by have := fr_len l; rw [hF] at this; omega
      rw [hF] at HF
      obtain ⟨N, hN⟩ : ∃ N, F.length = N := ⟨_, rfl⟩
      have HFl := Lib.hid hN
      rw [hN] at hFl
      replace HV := Lib.hid (HV.out.grow HF.out.old)
      have HI := Lib.hid (row_inb (FA.out _ (HV.out.has (ga, oa) (by simp))))
      clear hF HA HB hN hlt hk
      have HW1 : Hid (w.heap.size ≤ W1.heap.size) := Nat.le_of_lt (HLT.out (w.heap.size, .cells (pc p) 26 (0, 0)) (by simp))
      have HTl : Hid ((F ++ Ln.enc p).length = N + 32) := by show _ = _; rw [List.length_append, HFl.out, HL.out]
      have HTb := Lib.hid (Ln.bytes_app HFb.out (Ln.enc_bytes p))
      have hr1 := Ln.res_ahead (r := []) HN.out HK.out
      rw [List.append_nil, HFl.out] at hr1
      have CT := Lib.hid (fun A c W h1 h2 => take_res (F ++ Ln.enc p) hr1 A c W HTl.out HTb.out h1 (by omega) h2)
      clear hr1
      obtain ⟨K, hK⟩ : ∃ K, cut % (N + 32) = K := ⟨_, rfl⟩
      have hkm : (cut : Int) % ((N : Int) + 32) = (K : Int) := by rw [← hK]; simp
      have hKl : K < N + 32 := by rw [← hK]; exact Nat.mod_lt _ (by omega)
      clear hK
      go_wp2_with (first
        | (at_builtin; refine app_n rfl _ _ rfl W1.heap.size N _ F rfl HF.out.own HFl.out _ (Ln.enc p) 32 32 rfl HL.out HI.out (by omega) HF.out.le ?_; intro A' c' W6 hown hin hcc hba hbel; replace HV := Lib.hid (HV.out.belowK hbel HLT.out HW1.out); have HA := Lib.hid hin; have hkc : (K : Int) ≤ (c' : Int) := (by omega); clear hown hin hba hbel HI HF HLT FA)
        | (go_at_call 16; refine (CT.out _ _ _ hcc HA.out).mono ?_; rintro e W7 ⟨rfl, hb⟩; replace HV := Lib.hid (HV.out.grow hb); replace HA := Lib.hid (inb_grow HA.out hb); clear hb CT)
        | (refine st_pk rfl _ _ rfl rfl _ Ln.zero p rfl rfl (Pkt.new W7 Ln.zero) ?_; intro W8 h1 h2; have hb : Below W7.heap.size W7 W8 := (((Below.refl W7.heap.size W7).alloc (Nat.le_refl _) _).trans (h2.below (Nat.le_refl _))); replace HA := Lib.hid (inb_grow HA.out hb); replace HV := Lib.hid (HV.out.put h1 h2); clear h1 h2 hb))
      refine (take_c K A' ((F ++ Ln.enc p).take K) c' _ (by rw [List.length_take, HTl.out]; omega) (Crc.take_bytes HTb.out K) (by omega) (by omega) (inb_take HA.out K)).mono ?_
      rintro e W9 ⟨q2, m2, x2, hres, rfl, hb⟩
      obtain ⟨rfl, hm1, hm2⟩ := Ln.res_part HN.out (by rw [HFl.out]; exact hKl) hres
      rw [HFl.out] at hm2
      replace HV := Lib.hid (HV.out.grow hb)
      replace HA := Lib.hid (inb_grow HA.out hb)
      clear hb hres
      have d2 : decide ((m2 : Int) < 0) = false := by simp
      have d3 : decide ((K : Int) < (m2 : Int)) = false := by simp; omega
      obtain ⟨q, o, rfl, _⟩ := HA.out 0 (by have := HTl.out; omega)
      have t1 : (m2 : Int) ≤ (N : Int) + 32 := by omega
      have t2 : ¬ c' = m2 := by omega
      have HD : Hid ((F ++ Ln.enc p).drop m2 = F.drop m2 ++ (Ln.enc p ++ [])) := by
        show _ = _
        rw [List.append_nil, List.drop_append_of_le_length (by rw [HFl.out]; exact hm2)]
      have HDl : Hid (((F ++ Ln.enc p).drop m2).length = N + 32 - m2) := by show _ = _; rw [List.length_drop, HTl.out]
      have hr3 : Ln.Res ((F ++ Ln.enc p).drop m2) p (N - m2 + 32) 0 := by
        have := Ln.res_ahead (a := F.drop m2) (r := []) (fun v hv => HN.out v (List.mem_of_mem_drop hv)) HK.out
        rw [← HD.out, List.length_drop, HFl.out] at this
        exact this
      obtain ⟨R, hR⟩ : ∃ R, N - m2 + 32 = R := ⟨_, rfl⟩
      rw [hR] at hr3
      have d4 : ((R : Int) == (N : Int) + 32 - (m2 : Int)) = true := by rw [beq_iff_eq]; omega
      have C3 := Lib.hid (fun W h => take_res (N := N + 32 - m2) ((F ++ Ln.enc p).drop m2) hr3 (some ⟨q, o + m2, none⟩) (c' - m2) W HDl.out (Crc.drop_bytes HTb.out _) (by omega) (by omega) h)
      clear hr3 hR
      go_wp2_with (first
        | (refine st_pk rfl _ _ rfl rfl _ Ln.zero q2 rfl rfl (Pkt.new W9 Ln.zero) ?_; intro W10 h1 h2; have hb : Below W9.heap.size W9 W10 := (((Below.refl W9.heap.size W9).alloc (Nat.le_refl _) _).trans (h2.below (Nat.le_refl _))); replace HA := Lib.hid (inb_grow HA.out hb); replace HV := Lib.hid (HV.out.put h1 h2); clear h1 h2 hb))
      refine (C3.out _ (inb_drop HA.out m2)).mono ?_
      rintro e W11 ⟨rfl, hb⟩
      replace HV := Lib.hid (HV.out.grow hb)
      clear hb HA C3 HD HDl HTl HTb HN HFb HFl HK HL
      have E1 := eq_pk p p
      rw [same_refl] at E1
      go_wp2_with (first
        | (refine st_pk rfl _ _ rfl rfl _ Ln.zero p rfl rfl (Pkt.new W11 Ln.zero) ?_; intro W12 h1 h2; replace HV := Lib.hid (HV.out.put h1 h2); clear h1 h2; have P1 : Hid (Pkt W12 W11.heap.size p) := HV.out.has (W11.heap.size, .cells (pc p) 26 (0, 0)) (by simp); have P2 : Hid (Pkt W12 W7.heap.size p) := HV.out.has (W7.heap.size, .cells (pc p) 26 (0, 0)) (by simp); have P3 : Hid (Pkt W12 w.heap.size p) := HV.out.has (w.heap.size, .cells (pc p) 26 (0, 0)) (by simp))
        | (refine ld_pk rfl _ rfl _ _ rfl P1.out ?_)
        | (refine ld_pk rfl _ rfl _ _ rfl P2.out ?_)
        | (refine ld_pk rfl _ rfl _ _ rfl P3.out ?_))
      go_ret
      exact ⟨rfl, HV.out.old⟩

theorem LinkAfter_walk (A : Option Addr) (l : List Nat) (c : Nat) (_ : l.length ≤ 9223372036854775807) (_ : l.length ≤ c) (hb : Cr.Bytes l) (p : Ln.Pk) (cut : Nat) (hcut : cut < 256) (w : World) (hA : Crc.InB w A l) :
    Calls Try.prog 7 #[.slice A l.length c, .agg (pc p), .int .u8 cut] w fun e w' => e = .returned (.bool true) ∧ Below w.heap.size w w' := by
  cases hp : Ln.okB p
  · exact after_bad A l c p cut hp w
  · by_cases hl : l.length ≤ 100
    · exact after_ok A l c p cut hcut hp hl hb w hA
    · exact after_long A l c p cut hp (by omega) w
end Lw
end Go.Proofs.Ytegjkbebnnpdcaa
