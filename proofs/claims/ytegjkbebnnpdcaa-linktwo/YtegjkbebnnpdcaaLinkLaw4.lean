/- The walk of LinkTwo. -/
import Derived.Test.YtegjkbebnnpdcaaLinkPks
namespace Go.Proofs.Ytegjkbebnnpdcaa
namespace Lw
open Go.RowKit

/-- Those of the first k packets that may be. -/
def wk (T : Nat → Ln.Pk) : Nat → List Ln.Pk
  | 0 => []
  | k + 1 => if Ln.okB (T k) then wk T k ++ [T k] else wk T k
theorem wk_ok (T : Nat → Ln.Pk) (k : Nat) : ∀ p ∈ wk T k, Ln.okB p = true := by
  induction k with
  | zero => intro p hp; cases hp
  | succ k ih =>
    intro p hp
    unfold wk at hp
    split at hp
    · rcases List.mem_append.1 hp with h | h
      · exact ih p h
      · rw [List.mem_singleton.1 h]; assumption
    · exact ih p hp
theorem wk_len (T : Nat → Ln.Pk) (k : Nat) : (wk T k).length ≤ k := by
  induction k with
  | zero => simp [wk]
  | succ k ih =>
    unfold wk
    split
    · rw [List.length_append, List.length_singleton]; omega
    · omega
/-- Their bytes, one behind the other. -/
def cat (l : List Ln.Pk) : List Nat := l.flatMap Ln.enc
theorem cat_snoc (l : List Ln.Pk) (p : Ln.Pk) : cat (l ++ [p]) = cat l ++ Ln.enc p := by simp [cat]
theorem cat_cons (p : Ln.Pk) (l : List Ln.Pk) : cat (p :: l) = Ln.enc p ++ cat l := rfl
theorem cat_len (l : List Ln.Pk) : (cat l).length = 32 * l.length := by
  induction l with
  | nil => rfl
  | cons p l ih => rw [cat_cons, List.length_append, ih, Ln.enc_len, List.length_cons]; omega
theorem cat_bytes (l : List Ln.Pk) : Cr.Bytes (cat l) := by
  induction l with
  | nil => intro v hv; cases hv
  | cons p l ih => rw [cat_cons]; exact Ln.bytes_app (Ln.enc_bytes p) ih

theorem range_all {W : World} {h o : Nat} {p : Ln.Pk} (hr : W.rangeAt h o (pl p)) : W.cell? ⟨h, o, none⟩ = some (.int .i64 p.f) ∧ W.cell? ⟨h, o + 1, none⟩ = some (.int .i64 p.n) ∧ W.cell? ⟨h, o + 2, none⟩ = some (.int .i64 p.a) ∧ W.cell? ⟨h, o + 3, none⟩ = some (.int .i64 p.b) ∧ W.cell? ⟨h, o + 4, none⟩ = some (.int .i64 p.c) ∧ W.cell? ⟨h, o + 5, none⟩ = some (.int .i64 p.d) ∧ W.cell? ⟨h, o + 6, none⟩ = some (.int .i64 p.e) ∧ W.cell? ⟨h, o + 7, none⟩ = some (.bool p.ga) ∧ W.cell? ⟨h, o + 8, none⟩ = some (.bool p.gb) ∧ W.cell? ⟨h, o + 9, none⟩ = some (.bool p.gc) ∧ W.cell? ⟨h, o + 10, none⟩ = some (.bool p.gd) ∧ W.cell? ⟨h, o + 11, none⟩ = some (.bool p.ge) ∧ W.cell? ⟨h, o + 12, none⟩ = some (.int .i64 p.m) ∧ W.cell? ⟨h, o + 13, none⟩ = some (.int .i64 p.s) :=
  ⟨hr 0 _ rfl, hr 1 _ rfl, hr 2 _ rfl, hr 3 _ rfl, hr 4 _ rfl, hr 5 _ rfl, hr 6 _ rfl, hr 7 _ rfl, hr 8 _ rfl, hr 9 _ rfl, hr 10 _ rfl, hr 11 _ rfl, hr 12 _ rfl, hr 13 _ rfl⟩
theorem inb_drop2 {W : World} {q o : Nat} {l : List Nat} (h : Crc.InB W (some ⟨q, o, none⟩) l) (k : Nat) : Crc.InB W (some ⟨q, o + k, none⟩) (l.drop k) := fun i hi => by
  rw [List.length_drop] at hi
  obtain ⟨q', o', e, hc⟩ := h (k + i) (by omega)
  cases e
  refine ⟨q, o + k, rfl, ?_⟩
  rw [Nat.add_assoc, hc]
  simp
theorem inb_grow2 {W W' : World} {A : Option Addr} {l : List Nat} (h : Crc.InB W A l) (hb : Below W.heap.size W W') : Crc.InB W' A l := h.below hb
theorem own_val {W : World} {b e sz : Nat} {u : Value} {n : Nat} {xs : List Value} (h : W.ownsRow b e sz u n xs) : ∃ B c5, u = .slice B n c5 ∧ (0 < n → ∃ h, B = some ⟨h, 0, none⟩) := by
  rcases h.2 with ⟨rfl, rfl⟩ | ⟨g, cap, cur, rfl, _⟩
  · exact ⟨none, 0, rfl, fun h => absurd h (Nat.lt_irrefl _)⟩
  · exact ⟨_, _, rfl, fun _ => ⟨g, rfl⟩⟩
theorem cat_drop {ws : List Ln.Pk} {j : Nat} (h : j < ws.length) : cat (ws.drop j) = [] ++ (Ln.enc (ws.getD j Ln.zero) ++ cat (ws.drop (j + 1))) := by
  rw [List.drop_eq_getElem_cons h, cat_cons, List.nil_append]
  simp [h]
theorem getD_pk {ws : List Ln.Pk} {j : Nat} (h : j < ws.length) : ws.getD j Ln.zero ∈ ws := by
  have : ws.getD j Ln.zero = ws[j] := by simp [h]
  rw [this]
  exact List.getElem_mem h
theorem range_grow {W W' : World} {h o : Nat} {l : List Value} (hr : W.rangeAt h o l) (hb : Below W.heap.size W W') : W'.rangeAt h o l := fun j v hv => by
  have := hr j v hv
  rw [hb.cell (p := ⟨h, o + j, none⟩) (World.block_lt_of_cell? _ _ this)]
  exact this

set_option maxRecDepth 100000 in
set_option maxHeartbeats 8000000 in
theorem LinkTwo_walk (A : Option Addr) (n c : Nat) (T : Nat → Ln.Pk) (w : World) (hT : Pks w A n T) :
    Calls Try.prog 8 #[.slice A n c] w fun e w' => e = .returned (.bool true) ∧ Below w.heap.size w w' := by
  have HP := Lib.hid hT
  have hn := hT.len
  clear hT
  go_enter Try.func8, Try.ntmps8
  go_wp2_with fail
  refine (awake_c _).mono ?_
  rintro e W1 ⟨rfl, hb⟩
  have HB := Lib.hid hb
  have HW := Lib.hid hb.size
  clear hb
  go_wp2_with fail
  go_loopw [4, 5, 6] (fun v u i wr => ∃ k : Nat, k ≤ n ∧ k ≤ 10 ∧ i = .int .i64 k ∧ Tw W1.heap.size W1 wr v u (cat (wk T k)) (wk T k)) (fun _ _ i _ => 10 - (intOf i).toNat)
  case atStart => exact ⟨0, by omega, by omega, rfl, Tw.start W1⟩
  case round =>
    obtain ⟨k, hk, hk10, rfl, ht⟩ := hrel
    have HT := Lib.hid ht
    clear ht
    by_cases hlt : k < n ∧ k < 10
    · have d1 : decide ((k : Int) < (n : Int)) = true := by simp; omega
      have d2 : decide ((k : Int) < 10) = true := by simp; omega
      obtain ⟨q, o, rfl, hq, hr⟩ := HP.out.at_ k hlt.1
      have HR : Hid (∀ W, Below w.heap.size w W → W.rangeAt q (o + k * 14) (pl (T k))) := fun W hb j v hv => by
        rw [hb.cell (p := ⟨q, o + k * 14 + j, none⟩) hq]
        exact hr j v hv
      have HO := Lib.hid (HB.out.trans (HT.out.old.mono HW.out))
      have HWl := wk_len T k
      clear hr
      cases hok : Ln.okB (T k)
      · have HE : Hid (wk T (k + 1) = wk T k) := by show _ = _; rw [wk, hok]; rfl
        have CE := Lib.hid (enc_bad (T k) hok)
        go_wp2_with (first
          | (refine ld_mid rfl _ rfl _ _ _ rfl (HR.out _ HO.out) ?_)
          | (go_at_call 10; refine (CE.out _).mono ?_; rintro e W2 ⟨rfl, hb⟩; replace HT := Lib.hid (HT.out.grow hb); clear hb))
        go_roundw
        case rel => exact ⟨k + 1, by omega, by omega, by go_num, by rw [HE.out]; exact HT.out⟩
        case measure => simp [intOf]; omega
      · have HE : Hid (wk T (k + 1) = wk T k ++ [T k]) := by show _ = _; rw [wk, hok]; rfl
        have CE := Lib.hid (enc_ok (T k) hok)
        have HC := Lib.hid (Ln.enc_len (T k))
        have HD := Lib.hid (cat_snoc (wk T k) (T k))
        have hcl : (cat (wk T k)).length ≤ 10000 := by rw [cat_len]; omega
        have hwl : (wk T k).length ≤ 10000 := by omega
        go_wp2_with (first
          | (refine ld_mid rfl _ rfl _ _ _ rfl (HR.out _ (HB.out.trans (HT.out.old.mono HW.out))) ?_)
          | (go_at_call 10; refine (CE.out _).mono ?_; rintro e W2 ⟨g, hg, rfl, hr, hb⟩; replace HT := Lib.hid (HT.out.grow hb); have HRow := Lib.hid hr; clear hb hr CE HO)
          | (at_builtin; refine app_v rfl _ _ rfl rfl HT.out g (Ln.enc (T k)) 32 rfl HC.out HRow.out hcl ?_; intro v' W3 ht3; replace HT := Lib.hid ht3; clear ht3 HRow)
          | (at_builtin; refine app_u rfl _ _ rfl rfl (HT.out.grow ((Below.refl W3.heap.size W3).alloc (Nat.le_refl _) _)) W3.heap.size (T k) 1 rfl (range_pk (Pkt.new W3 (T k))) hwl ?_; intro u' W4 ht4; replace HT := Lib.hid ht4; clear ht4))
        go_roundw
        case rel => exact ⟨k + 1, by omega, by omega, by go_num, by rw [HE.out, HD.out]; exact HT.out⟩
        case measure => simp [intOf]; omega
    · have d3 : k = n ∨ (k < n ∧ k = 10) := by omega
      obtain ⟨ws, hws⟩ : ∃ ws, wk T k = ws := ⟨_, rfl⟩
      have HOk : Hid (∀ p ∈ ws, Ln.okB p = true) := hws ▸ wk_ok T k
      have hM : ws.length ≤ 10 := by have := wk_len T k; rw [hws] at this; omega
      rw [hws] at HT
      clear hws
      obtain ⟨A', c', hv, hin, hcc, _⟩ := own_inb HT.out.own
      subst hv
      rw [cat_len] at hcc
      have HI := Lib.hid hin
      have HBW := Lib.hid (HB.out.trans (HT.out.old.mono HW.out))
      have HU := Lib.hid HT.out.pks
      obtain ⟨B5, c5, hu5, hB5⟩ := own_val HT.out.pks
      subst hu5
      clear hin HT HP HB HW hlt
      rw [cat_len]
      obtain ⟨M, hMe⟩ : ∃ M, ws.length = M := ⟨_, rfl⟩
      have HM := Lib.hid hMe
      rw [hMe] at hM hcc hB5 HU
      rw [hMe]
      clear hMe
      rcases d3 with rfl | ⟨h1, rfl⟩
      all_goals
        go_wp2_with fail
        go_loopw [4, 9] (fun v i wr => ∃ j : Nat, j ≤ M ∧ i = .int .i64 j ∧ ∃ A' c', v = .slice A' (32 * (M - j)) c' ∧ 32 * (M - j) ≤ c' ∧ Crc.InB wr A' (cat (ws.drop j)) ∧ wr.ownsRow W1.heap.size 26 14 (.slice B5 M c5) M (cl ws) ∧ Below w.heap.size w wr) (fun _ i _ => M - (intOf i).toNat)
        case atStart => exact ⟨0, Nat.zero_le _, rfl, A', c', rfl, hcc, HI.out, HU.out, HBW.out⟩
        case round =>
          clear HI HU HBW hcc
          obtain ⟨j, hj, rfl, A2, c2, rfl, hc2, hi2, hu2, hb2⟩ := hrel
          have HI := Lib.hid hi2
          have HU := Lib.hid hu2
          have HBW := Lib.hid hb2
          clear hi2 hu2 hb2
          by_cases hlt : j < M
          · obtain ⟨h5, rfl⟩ := hB5 (by omega)
            have hjl : j < ws.length := by rw [HM.out]; exact hlt
            have HRg : Hid (wr.rangeAt h5 (j * 14) (pl (ws.getD j Ln.zero))) := own_range (b := W1.heap.size) (cap := c5) (by rw [HM.out]; exact HU.out) hjl
            obtain ⟨p, hp⟩ : ∃ p, ws.getD j Ln.zero = p := ⟨_, rfl⟩
            have HKp := Lib.hid (Ln.okB_iff.1 (HOk.out _ (getD_pk hjl)))
            have hcd := cat_drop hjl
            rw [hp] at HRg HKp hcd
            have hr0 := Ln.res_ahead (a := []) (r := cat (ws.drop (j + 1))) (fun v hv => (List.not_mem_nil hv).elim) HKp.out
            rw [← hcd] at hr0
            have HCl : Hid ((cat (ws.drop j)).length = 32 * (M - j)) := by show _ = _; rw [cat_len, List.length_drop, HM.out]
            have CT := Lib.hid (fun W h => take_res (cat (ws.drop j)) hr0 A2 c2 W HCl.out (cat_bytes _) hc2 (by omega) h)
            have HC1 : Hid ((cat (ws.drop j)).drop 32 = cat (ws.drop (j + 1))) := by
              show _ = _
              rw [hcd, List.nil_append, ← Ln.enc_len p, List.drop_left]
            clear hr0 hcd hp
            obtain ⟨L, hL⟩ : ∃ L, 32 * (M - j) = L := ⟨_, rfl⟩
            have hL32 : 32 ≤ L := by omega
            have HLe := Lib.hid hL
            rw [hL] at CT hc2
            rw [hL]
            clear hL
            have E2 := ne_pk p p
            rw [same_refl] at E2
            dsimp only [pc] at E2
            have i1 : (j : Int) < (M : Int) := by omega
            go_wp2_with (first
              | (go_at_call 16; refine (CT.out _ HI.out).mono ?_; rintro e W2 ⟨rfl, hb⟩; replace HI := Lib.hid (inb_grow2 HI.out hb); replace HU := Lib.hid (own_grow' HU.out hb); replace HRg := Lib.hid (range_grow HRg.out hb); replace HBW := Lib.hid (HBW.out.trans (hb.mono HBW.out.size)); clear hb CT)
              | (refine st_pk rfl _ _ rfl rfl _ Ln.zero p rfl rfl (Pkt.new W2 Ln.zero) ?_; intro W3 h1 h2; have hb : Below W2.heap.size W2 W3 := (((Below.refl W2.heap.size W2).alloc (Nat.le_refl _) _).trans (h2.below (Nat.le_refl _))); replace HI := Lib.hid (inb_grow2 HI.out hb); replace HU := Lib.hid (own_grow' HU.out hb); replace HRg := Lib.hid (range_grow HRg.out hb); replace HBW := Lib.hid (HBW.out.trans (hb.mono HBW.out.size)); have HPk := Lib.hid h1; clear hb h1 h2))
            have S1 : Hid ((fun V => (V.cell? ⟨W2.heap.size, 0, none⟩ = some (.int .i64 p.f) ∧ V.cell? ⟨W2.heap.size, 1, none⟩ = some (.int .i64 p.n) ∧ V.cell? ⟨W2.heap.size, 2, none⟩ = some (.int .i64 p.a) ∧ V.cell? ⟨W2.heap.size, 3, none⟩ = some (.int .i64 p.b) ∧ V.cell? ⟨W2.heap.size, 4, none⟩ = some (.int .i64 p.c) ∧ V.cell? ⟨W2.heap.size, 5, none⟩ = some (.int .i64 p.d) ∧ V.cell? ⟨W2.heap.size, 6, none⟩ = some (.int .i64 p.e) ∧ V.cell? ⟨W2.heap.size, 7, none⟩ = some (.bool p.ga) ∧ V.cell? ⟨W2.heap.size, 8, none⟩ = some (.bool p.gb) ∧ V.cell? ⟨W2.heap.size, 9, none⟩ = some (.bool p.gc) ∧ V.cell? ⟨W2.heap.size, 10, none⟩ = some (.bool p.gd) ∧ V.cell? ⟨W2.heap.size, 11, none⟩ = some (.bool p.ge) ∧ V.cell? ⟨W2.heap.size, 12, none⟩ = some (.int .i64 p.m) ∧ V.cell? ⟨W2.heap.size, 13, none⟩ = some (.int .i64 p.s)) ∧ (V.cell? ⟨h5, j * 14, none⟩ = some (.int .i64 p.f) ∧ V.cell? ⟨h5, j * 14 + 1, none⟩ = some (.int .i64 p.n) ∧ V.cell? ⟨h5, j * 14 + 2, none⟩ = some (.int .i64 p.a) ∧ V.cell? ⟨h5, j * 14 + 3, none⟩ = some (.int .i64 p.b) ∧ V.cell? ⟨h5, j * 14 + 4, none⟩ = some (.int .i64 p.c) ∧ V.cell? ⟨h5, j * 14 + 5, none⟩ = some (.int .i64 p.d) ∧ V.cell? ⟨h5, j * 14 + 6, none⟩ = some (.int .i64 p.e) ∧ V.cell? ⟨h5, j * 14 + 7, none⟩ = some (.bool p.ga) ∧ V.cell? ⟨h5, j * 14 + 8, none⟩ = some (.bool p.gb) ∧ V.cell? ⟨h5, j * 14 + 9, none⟩ = some (.bool p.gc) ∧ V.cell? ⟨h5, j * 14 + 10, none⟩ = some (.bool p.gd) ∧ V.cell? ⟨h5, j * 14 + 11, none⟩ = some (.bool p.ge) ∧ V.cell? ⟨h5, j * 14 + 12, none⟩ = some (.int .i64 p.m) ∧ V.cell? ⟨h5, j * 14 + 13, none⟩ = some (.int .i64 p.s))) W3) := ⟨HPk.out.all, range_all HRg.out⟩
            have S2 : Hid ((fun V => (V.cell? ⟨W2.heap.size, 0, none⟩ = some (.int .i64 p.f) ∧ V.cell? ⟨W2.heap.size, 1, none⟩ = some (.int .i64 p.n) ∧ V.cell? ⟨W2.heap.size, 2, none⟩ = some (.int .i64 p.a) ∧ V.cell? ⟨W2.heap.size, 3, none⟩ = some (.int .i64 p.b) ∧ V.cell? ⟨W2.heap.size, 4, none⟩ = some (.int .i64 p.c) ∧ V.cell? ⟨W2.heap.size, 5, none⟩ = some (.int .i64 p.d) ∧ V.cell? ⟨W2.heap.size, 6, none⟩ = some (.int .i64 p.e) ∧ V.cell? ⟨W2.heap.size, 7, none⟩ = some (.bool p.ga) ∧ V.cell? ⟨W2.heap.size, 8, none⟩ = some (.bool p.gb) ∧ V.cell? ⟨W2.heap.size, 9, none⟩ = some (.bool p.gc) ∧ V.cell? ⟨W2.heap.size, 10, none⟩ = some (.bool p.gd) ∧ V.cell? ⟨W2.heap.size, 11, none⟩ = some (.bool p.ge) ∧ V.cell? ⟨W2.heap.size, 12, none⟩ = some (.int .i64 p.m) ∧ V.cell? ⟨W2.heap.size, 13, none⟩ = some (.int .i64 p.s)) ∧ (V.cell? ⟨h5, j * 14, none⟩ = some (.int .i64 p.f) ∧ V.cell? ⟨h5, j * 14 + 1, none⟩ = some (.int .i64 p.n) ∧ V.cell? ⟨h5, j * 14 + 2, none⟩ = some (.int .i64 p.a) ∧ V.cell? ⟨h5, j * 14 + 3, none⟩ = some (.int .i64 p.b) ∧ V.cell? ⟨h5, j * 14 + 4, none⟩ = some (.int .i64 p.c) ∧ V.cell? ⟨h5, j * 14 + 5, none⟩ = some (.int .i64 p.d) ∧ V.cell? ⟨h5, j * 14 + 6, none⟩ = some (.int .i64 p.e) ∧ V.cell? ⟨h5, j * 14 + 7, none⟩ = some (.bool p.ga) ∧ V.cell? ⟨h5, j * 14 + 8, none⟩ = some (.bool p.gb) ∧ V.cell? ⟨h5, j * 14 + 9, none⟩ = some (.bool p.gc) ∧ V.cell? ⟨h5, j * 14 + 10, none⟩ = some (.bool p.gd) ∧ V.cell? ⟨h5, j * 14 + 11, none⟩ = some (.bool p.ge) ∧ V.cell? ⟨h5, j * 14 + 12, none⟩ = some (.int .i64 p.m) ∧ V.cell? ⟨h5, j * 14 + 13, none⟩ = some (.int .i64 p.s))) W3.drew) := ⟨HPk.out.drew.all, range_all (W := W3.drew) HRg.out⟩
            go_region_held3 (fun V => (V.cell? ⟨W2.heap.size, 0, none⟩ = some (.int .i64 p.f) ∧ V.cell? ⟨W2.heap.size, 1, none⟩ = some (.int .i64 p.n) ∧ V.cell? ⟨W2.heap.size, 2, none⟩ = some (.int .i64 p.a) ∧ V.cell? ⟨W2.heap.size, 3, none⟩ = some (.int .i64 p.b) ∧ V.cell? ⟨W2.heap.size, 4, none⟩ = some (.int .i64 p.c) ∧ V.cell? ⟨W2.heap.size, 5, none⟩ = some (.int .i64 p.d) ∧ V.cell? ⟨W2.heap.size, 6, none⟩ = some (.int .i64 p.e) ∧ V.cell? ⟨W2.heap.size, 7, none⟩ = some (.bool p.ga) ∧ V.cell? ⟨W2.heap.size, 8, none⟩ = some (.bool p.gb) ∧ V.cell? ⟨W2.heap.size, 9, none⟩ = some (.bool p.gc) ∧ V.cell? ⟨W2.heap.size, 10, none⟩ = some (.bool p.gd) ∧ V.cell? ⟨W2.heap.size, 11, none⟩ = some (.bool p.ge) ∧ V.cell? ⟨W2.heap.size, 12, none⟩ = some (.int .i64 p.m) ∧ V.cell? ⟨W2.heap.size, 13, none⟩ = some (.int .i64 p.s)) ∧ (V.cell? ⟨h5, j * 14, none⟩ = some (.int .i64 p.f) ∧ V.cell? ⟨h5, j * 14 + 1, none⟩ = some (.int .i64 p.n) ∧ V.cell? ⟨h5, j * 14 + 2, none⟩ = some (.int .i64 p.a) ∧ V.cell? ⟨h5, j * 14 + 3, none⟩ = some (.int .i64 p.b) ∧ V.cell? ⟨h5, j * 14 + 4, none⟩ = some (.int .i64 p.c) ∧ V.cell? ⟨h5, j * 14 + 5, none⟩ = some (.int .i64 p.d) ∧ V.cell? ⟨h5, j * 14 + 6, none⟩ = some (.int .i64 p.e) ∧ V.cell? ⟨h5, j * 14 + 7, none⟩ = some (.bool p.ga) ∧ V.cell? ⟨h5, j * 14 + 8, none⟩ = some (.bool p.gb) ∧ V.cell? ⟨h5, j * 14 + 9, none⟩ = some (.bool p.gc) ∧ V.cell? ⟨h5, j * 14 + 10, none⟩ = some (.bool p.gd) ∧ V.cell? ⟨h5, j * 14 + 11, none⟩ = some (.bool p.ge) ∧ V.cell? ⟨h5, j * 14 + 12, none⟩ = some (.int .i64 p.m) ∧ V.cell? ⟨h5, j * 14 + 13, none⟩ = some (.int .i64 p.s))) (first | exact S2.out | exact S1.out) (first | fail)
            clear S1 S2
            replace HI : Hid (Crc.InB W3.drew A2 (cat (ws.drop j))) := HI.out
            replace HU : Hid (W3.drew.ownsRow W1.heap.size 26 14 (.slice (some ⟨h5, 0, none⟩) M c5) M (cl ws)) := HU.out
            replace HBW := Lib.hid HBW.out.drew
            clear HRg HPk
            generalize W3.drew = W4 at *
            obtain ⟨q2, o2, rfl, _⟩ := HI.out 0 (by rw [HCl.out]; omega)
            have t1 : (32 : Int) ≤ (L : Int) := by omega
            have t2 : (L : Int) ≤ (c2 : Int) := by omega
            by_cases h32 : c2 = 32
            · subst h32
              obtain rfl : L = 32 := by omega
              go_wp2_with fail
              go_roundw
              case rel =>
                have e0 : M - (j + 1) = 0 := by have := HLe.out; omega
                refine ⟨j + 1, by omega, by go_num, some ⟨q2, o2, none⟩, 0, by rw [e0], by omega, ?_, HU.out, HBW.out⟩
                intro i hi
                rw [cat_len, List.length_drop, HM.out] at hi
                omega
              case measure => simp [intOf]; omega
            · go_wp2_with fail
              go_roundw
              case rel =>
                have e0 : L - 32 = 32 * (M - (j + 1)) := by have := HLe.out; omega
                refine ⟨j + 1, by omega, by go_num, some ⟨q2, o2 + 32, none⟩, c2 - 32, by rw [e0], by omega, ?_, HU.out, HBW.out⟩
                rw [← HC1.out]
                exact inb_drop2 HI.out 32
              case measure => simp [intOf]; omega
          · obtain rfl : j = M := by omega
            rw [Nat.sub_self, Nat.mul_zero]
            have CT := Lib.hid (fun W => take_res (N := 0) [] Ln.res_nil A2 c2 W rfl (fun v hv => (List.not_mem_nil hv).elim) (Nat.zero_le _) (by decide) (fun i hi => absurd hi (Nat.not_lt_zero _)))
            have HV : Hid (Hv w wr []) := ⟨fun _ h => (List.not_mem_nil h).elim, HBW.out⟩
            clear HI HU HBW hB5
            go_wp2_with (first
              | (go_at_call 16; refine (CT.out _).mono ?_; rintro e W2 ⟨rfl, hb⟩; replace HV := Lib.hid (HV.out.grow hb); clear hb)
              | (refine st_pk rfl _ _ rfl rfl _ Ln.zero Ln.zero rfl rfl (Pkt.new W2 Ln.zero) ?_; intro W3 h1 h2; replace HV := Lib.hid (HV.out.put h1 h2); clear h1 h2))
            go_ret
            exact ⟨rfl, HV.out.old⟩
end Lw
end Go.Proofs.Ytegjkbebnnpdcaa
