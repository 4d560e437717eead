/- The program's store: words that are written; the good places. -/
import Derived.Test.YtlhapipgmadbeaaStoreP5
import Derived.Test.YtlhapipgmadbeaaMixKit
import Derived.Test.YtlhapipgmadbeaaOrdKit
namespace Go.Proofs.Ytlhapipgmadbeaa
namespace Sq
open Go.RowKit Nv Nw Sp Lk

theorem Wds.turn {W W' : World} {b d : Nat} {A : Option Addr} {L : List (Nat × Int)} (h : Wds W A L) (ht : Turn b d W W') (hA : ∀ g, A = some ⟨g, 0, none⟩ → g ≠ b ∧ g ≠ d) : Wds W' A L := fun j i hj => by
  obtain ⟨g, e, hg, hr⟩ := h j i hj
  exact ⟨g, e, Nat.lt_of_lt_of_le hg ht.size, range_kept (ht.block g hg (hA g e).1 (hA g e).2) hr⟩
theorem ord_w : Lk.mixedB (Lk.opsOf Try.f37 4) [false, false, false, false, false, false, false, false, true, false] = true := by kernel_rfl
/-- What the walk of write carries. -/
structure Wr (w W : World) (g b d : Nat) (A : Option Addr) (L : List (Nat × Int)) (M : M) : Prop where
  sto : Sto W g b d M
  wds : Wds W A L
  turn : Turn b d w W
theorem Wr.grow {w W W' : World} {g b d : Nat} {A : Option Addr} {L : List (Nat × Int)} {m : M} (h : Wr w W g b d A L m) (hb : Below W.heap.size W W') : Wr w W' g b d A L m := ⟨h.sto.grow hb, h.wds.below hb, h.turn.trans (Turn.grow hb)⟩
theorem Wr.step {w W W' : World} {g b d : Nat} {A : Option Addr} {L : List (Nat × Int)} {m m' : M} (h : Wr w W g b d A L m) (hm : Mem W' b d m') (ho : Off2 b d W W') (hA : ∀ g, A = some ⟨g, 0, none⟩ → g ≠ b ∧ g ≠ d) : Wr w W' g b d A L m' :=
  ⟨h.sto.turn hm (Turn.off ho), h.wds.turn (Turn.off ho) hA, h.turn.trans (Turn.off ho)⟩

set_option maxRecDepth 100000 in
set_option maxHeartbeats 4000000 in
/-- Words written one behind the other, up to the first one that fails. -/
theorem swrite_c {g b d : Nat} {m : M} {w : World} (h : Sto w g b d m) (hm : Good m) (A : Option Addr) (c : Nat) (L : List (Nat × Int)) (hL : L.length ≤ 200) (hc : L.length ≤ c) (hW : Wds w A L) (hA : ∀ g, A = some ⟨g, 0, none⟩ → g ≠ b ∧ g ≠ d) :
    Calls Try.prog 37 #[.pointer (some ⟨g, 0, none⟩), .slice A L.length c] w fun e w' => e = .returned (.int .i64 (writes m L).1) ∧ Mem w' b d (writes m L).2 ∧ Turn b d w w' := by
  have HR : Hid (Wr w w g b d A L m) := ⟨h, hW, Turn.refl _ _ _⟩
  have HA := Lib.hid hA
  have hl := hm.left
  have hm0 := hm.many0
  have hm1 := hm.many1
  have HF : Hid (∀ k, Few (writes m (L.take k)).2) := fun k => by
    have h1 := writes_more (L.take k) m
    have h2 : (L.take k).length ≤ 200 := by rw [List.length_take]; omega
    exact ⟨by omega, by omega, by omega⟩
  obtain ⟨n, hn⟩ : ∃ n, L.length = n := ⟨_, rfl⟩
  have HE : Hid (L.take n = L) := by show _ = _; rw [← hn, List.take_length]
  have HI : Hid (∀ k, k < n → ∃ x, L[k]? = some x) := fun k hk => ⟨L[k]'(by omega), List.getElem?_eq_getElem (by omega)⟩
  have HS := Lib.hid (fun k i v => writes_step L m k i v)
  rw [hn] at hL hc ⊢
  clear h hW hA hm hl hm0 hm1 hn
  go_enter Try.func37, Try.ntmps37
  go_wp2_with fail
  go_loopw [10] (fun i wr => ∃ k : Nat, k ≤ n ∧ i = .int .i64 k ∧ (writes m (L.take k)).1 = 0 ∧ Wr w wr g b d A L (writes m (L.take k)).2) (fun i _ => n - (intOf i).toNat)
  case atStart => exact ⟨0, Nat.zero_le _, rfl, rfl, HR.out⟩
  case round =>
    clear HR
    obtain ⟨k, hk, rfl, h0, hr⟩ := hrel
    have HR := Lib.hid hr
    clear hr
    by_cases hlt : k < n
    · have hkn : (k : Int) < n := by omega
      obtain ⟨x, hx⟩ := HI.out k hlt
      obtain ⟨gw, rfl, hgl, hr⟩ := HR.out.wds k x hx
      have HP := Lib.hid hr
      have HAg := Lib.hid (HA.out gw rfl)
      have ST := Lib.hid (HS.out k x.1 x.2 h0 hx)
      have HW := Lib.hid (fun W (hM : Mem W b d (writes m (L.take k)).2) => write_c b d (writes m (L.take k)).2 x.1 x.2 W hM (HF.out k))
      obtain ⟨xi, xv⟩ := x
      clear hr hx HS HF HI
      generalize (writes m (L.take k)).2 = M at *
      obtain ⟨E, hE⟩ : ∃ E, werr M ((xi : Nat) : Int) = E := ⟨_, rfl⟩
      rw [hE] at ST HW
      clear hE h0
      have HR0 := HR
      replace HR := Lib.hid (HR.out.grow ((Below.refl _ _).alloc (Nat.le_refl _) (.cells #[.int .i64 (xi : Int), .int .u32 xv] 90)))
      have HC := Lib.hid (heap_alloc_last wr (.cells #[.int .i64 (xi : Int), .int .u32 xv] 90))
      have HBd : Hid (b ≠ wr.heap.size ∧ d ≠ wr.heap.size) := ⟨by have := HR0.out.sto.mem.lt; omega, by have := HR0.out.sto.mem.lt'; omega⟩
      clear HR0
      go_wp2_with (first | (refine ldwm rfl _ rfl _ _ (xi, xv) rfl HP.out ?_) | fail)
      generalize wr.alloc (.cells #[.int .i64 (xi : Int), .int .u32 xv] 90) = W5 at *
      generalize wr.heap.size = p at *
      have z0 := HR.out.sto.c0
      have z1 := Joins.cell_of_block HC.out 0
      have z2 := Joins.cell_of_block HC.out 1
      simp only [List.getElem?_toArray, List.getElem?_cons_zero, List.getElem?_cons_succ] at z1 z2
      refine wp_region_noPanic (Lk.wp_region_mix ord_w (fun V => V.cell? ⟨g, 0, none⟩ = some (.pointer (some ⟨b, 0, none⟩)) ∧ V.cell? ⟨p, 0, none⟩ = some (.int .i64 (xi : Int)) ∧ V.cell? ⟨p, 1, none⟩ = some (.int .u32 xv)) (by kernel_rfl) (by kernel_rfl) (fun _ _ _ _ _ h => h) ⟨z0, z1, z2⟩ ?_)
      iterate 8 (refine Lk.mix_take ?_ rfl ?_ ?_; rotate_left; (focus (intro w' hS; (try dsimp only at hS); go_simp; try with_reducible rfl)); simp only [Act.put, List.setIfInBounds_toArray, List.set_cons_zero, List.set_cons_succ])
      refine Lk.mix_step rfl (fun K hK => ?_)
      go_simp
      (with_reducible refine (HW.out _ HR.out.sto.mem.drew).mono ?_)
      rintro r W6 ⟨rfl, h1, h2⟩
      have y0 : W6.cell? ⟨g, 0, none⟩ = some (.pointer (some ⟨b, 0, none⟩)) := (World.cell?_of_block (w := W5) (a := ⟨g, 0, none⟩) (h2.block g HR.out.sto.nb HR.out.sto.nd)).trans z0
      have y1 : W6.cell? ⟨p, 0, none⟩ = some (.int .i64 (xi : Int)) := (World.cell?_of_block (w := W5) (a := ⟨p, 0, none⟩) (h2.block p (Ne.symm HBd.out.1) (Ne.symm HBd.out.2))).trans z1
      have y2 : W6.cell? ⟨p, 1, none⟩ = some (.int .u32 xv) := (World.cell?_of_block (w := W5) (a := ⟨p, 1, none⟩) (h2.block p (Ne.symm HBd.out.1) (Ne.symm HBd.out.2))).trans z2
      refine hK.out _ _ ⟨y0, y1, y2⟩ ?_
      clear hK K
      try simp only [Act.put, List.setIfInBounds_toArray, List.set_cons_zero, List.set_cons_succ]
      replace HR := Lib.hid ((HR.out.grow (Below.refl _ _).drew).step h1 h2 HA.out)
      clear h1 h2 y0 y1 y2 z0 z1 z2 HW HC HBd HP HAg
      iterate 1 (refine Lk.mix_take ?_ rfl ?_ ?_; rotate_left; (focus (intro w' hS; (try dsimp only at hS); go_simp; try with_reducible rfl)); simp only [Act.put, List.setIfInBounds_toArray, List.set_cons_zero, List.set_cons_succ])
      refine Lk.mix_nil (NoPanic.normal ?_)
      by_cases hE0 : E = 0
      · subst hE0
        have S1 := Lib.hid (ST.out.1 rfl)
        clear ST
        go_wp2_with fail
        go_roundw
        case rel => exact ⟨k + 1, by omega, by go_num, by rw [S1.out], by rw [S1.out]; exact HR.out⟩
        case measure => simp [intOf]; omega
      · have S1 := Lib.hid (ST.out.2 hE0)
        have hE1 : (E == 0) = false := by simpa using hE0
        clear ST
        go_wp2_with fail
        go_ret
        rw [S1.out]
        exact ⟨rfl, HR.out.sto.mem, HR.out.turn⟩
    · obtain rfl : k = n := by omega
      have hkn : ¬ (k : Int) < k := by omega
      have HE2 : Hid ((writes m L).1 = 0 ∧ (writes m L).2 = (writes m (L.take k)).2) := by
        show _ ∧ _
        rw [HE.out] at h0 ⊢
        exact ⟨h0, rfl⟩
      clear h0 HS HF HI HE
      generalize (writes m (L.take k)).2 = M at *
      go_wp2_with fail
      go_ret
      rw [HE2.out.1, HE2.out.2]
      exact ⟨rfl, HR.out.sto.mem, HR.out.turn⟩

theorem Rw.turn {α : Type} {e sz base b d : Nat} {f : α → List Value} {W W' : World} {v : Value} {l : List α} (h : Rw e sz f W base v l) (ht : Turn b d W W') (hb : b < base) (hd : d < base) : Rw e sz f W' base v l := by
  obtain ⟨h1, h2⟩ := h
  refine ⟨h1, ?_⟩
  rcases h2 with h2 | ⟨g, cap, cur, hv, hg, hh, r⟩
  · exact .inl h2
  · exact .inr ⟨g, cap, cur, hv, hg, (ht.block g (Array.getElem?_eq_some_iff.1 hh).1 (by omega) (by omega)).trans hh, r⟩
abbrev gf (l : Nat → Pl) (i : Nat) : List Value := (pcs i (l i)).toList
theorem info_p3 : ∃ i, Try.prog.info? 94 = some i ∧ i.zero = some (.agg (pcs 0 zero)) ∧ i.size = 5 ∧ i.bytes = 40 := by
  have h : (Try.prog.info? 94).map (fun i => (i.zero, i.size, i.bytes)) = some (some (.agg (pcs 0 zero)), 5, 40) := by kernel_rfl
  obtain ⟨i, hi, hz⟩ := Option.map_eq_some_iff.1 h
  simp only [Prod.mk.injEq] at hz
  exact ⟨i, hi, hz.1, hz.2.1, hz.2.2⟩
theorem gf_one (l : Nat → Pl) (i : Nat) : ∀ u ∈ gf l i, u.oneCell' = true := by
  intro u hu
  change u ∈ [Value.int .i64 i, .int .u32 (l i).num, .int .i64 (l i).code, .int .i64 (l i).cnt, .bool (l i).lat] at hu
  simp only [List.mem_cons, List.not_mem_nil, or_false] at hu
  rcases hu with rfl | rfl | rfl | rfl | rfl <;> rfl
theorem range_p (w : World) (i : Int) (p : Pl) : (w.alloc (.cells (pcs i p) 94)).rangeAt w.heap.size 0 (pcs i p).toList := fun j v hv => by
  rw [Nat.zero_add]
  exact (Joins.cell_of_block (heap_alloc_last w _) j).trans (by simpa using hv)
theorem range_p' (W : World) (o : Obj) (i : Int) (p : Pl) : ((W.alloc o).alloc (.cells (pcs i p) 94)).rangeAt (W.heap.size + 1) 0 (pcs i p).toList := by
  have := range_p (W.alloc o) i p
  rwa [World.size_alloc] at this
/-- What the walk of good carries. -/
structure Gd (w W : World) (g b d : Nat) (m : M) (v : Value) (L : List Nat) : Prop where
  row : Rw 94 5 (gf (pl m.ws)) W w.heap.size v L
  sto : Sto W g b d m
  turn : Turn b d w W
  lb : b < w.heap.size
  ld : d < w.heap.size
  lg : g < w.heap.size
namespace Gd
variable {w W W' : World} {g b d : Nat} {m : M} {v v' : Value} {L L' : List Nat}
theorem step (h : Gd w W g b d m v L) (hm : Mem W' b d m) (ht : Turn b d W W') : Gd w W' g b d m v L := ⟨Rw.turn h.row ht h.lb h.ld, h.sto.turn hm ht, h.turn.trans ht, h.lb, h.ld, h.lg⟩
theorem grow (h : Gd w W g b d m v L) (hb : Below W.heap.size W W') : Gd w W' g b d m v L := h.step (h.sto.mem.grow hb) (Turn.grow hb)
theorem alloc (h : Gd w W g b d m v L) (o : Obj) : Gd w (W.alloc o) g b d m v L := h.grow ((Below.refl _ _).alloc (Nat.le_refl _) _)
theorem put (h : Gd w W g b d m v L) (hr : Rw 94 5 (gf (pl m.ws)) W' w.heap.size v' L') (hb : Below w.heap.size W W') : Gd w W' g b d m v' L' :=
  ⟨hr, h.sto.same ⟨h.sto.mem.row.of_block (hb.block b h.lb), h.sto.mem.ws.of_block (hb.block d h.ld), h.sto.mem.ne⟩ (hb.block g h.lg),
    ⟨hb.os.trans h.turn.os, hb.tape.trans h.turn.tape, hb.output.trans h.turn.output, Nat.le_trans h.turn.size hb.size, fun k hk h1 h2 => (hb.block k hk).trans (h.turn.block k hk h1 h2)⟩, h.lb, h.ld, h.lg⟩
end Gd
theorem gs_snoc (m : M) (k : Nat) : (List.range (k + 1)).filter (gd m) = if gd m k = true then (List.range k).filter (gd m) ++ [k] else (List.range k).filter (gd m) := by
  rw [List.range_succ, List.filter_append, List.filter_cons, List.filter_nil]
  split <;> simp

set_option maxRecDepth 100000 in
set_option maxHeartbeats 4000000 in
/-- The good places, rising. -/
theorem good_c {g b d : Nat} {m : M} {w : World} (h : Sto w g b d m) (hm : Good m) :
    Calls Try.prog 35 #[.pointer (some ⟨g, 0, none⟩)] w fun e w' => ∃ A c, e = .returned (.slice A (gs m).length c) ∧ (gs m).length ≤ c ∧ Pcs w' A (gs m) (pl m.ws) ∧ Mem w' b d m ∧ Turn b d w w' := by
  have HG : Hid (Gd w w g b d m (.slice none 0 0) ((List.range 0).filter (gd m))) := ⟨Rw.nil _ _ _ _ _, h, Turn.refl _ _ _, h.mem.lt, h.mem.lt', h.lt⟩
  have HP := Lib.hid (places_c h hm.most)
  have HC := Lib.hid (fun W (k : Nat) (h : Sto W g b d m) (hk : k < rooms m) => sread_c h hm k hk)
  have hP : rooms m ≤ 128 := by have := hm.most; unfold rooms; omega
  have HS := Lib.hid (gs_snoc m)
  have HV : Hid (∀ k, (gd m k = true → rv m k = .agg (pcs k (pl m.ws k))) ∧ (gd m k = false → rv m k = .agg (pcs 0 zero))) := fun k => ⟨fun e => by unfold rv; rw [if_pos e], fun e => by unfold rv; rw [if_neg (by simp [e])]⟩
  have HL : Hid (∀ k, ((List.range k).filter (gd m)).length ≤ k) := fun k => by
    have := List.length_filter_le (gd m) (List.range k)
    rwa [List.length_range] at this
  have HQ : Hid (gs m = (List.range (rooms m)).filter (gd m)) := rfl
  clear h hm
  generalize rooms m = P at *
  go_enter Try.func35, Try.ntmps35
  go_wp2_with (first | (go_at_call 33; refine HP.out.mono ?_; rintro e W ⟨rfl, rfl⟩) | fail)
  clear HP
  go_loopw [3, 9] (fun v i wr => ∃ k : Nat, k ≤ P ∧ i = .int .i64 k ∧ Gd w wr g b d m v ((List.range k).filter (gd m))) (fun _ i _ => P - (intOf i).toNat)
  case atStart => exact ⟨0, Nat.zero_le _, rfl, HG.out⟩
  case round =>
    clear HG
    obtain ⟨k, hk, rfl, hg⟩ := hrel
    have HG := Lib.hid hg
    clear hg
    by_cases hlt : k < P
    · have hkP : (k : Int) < P := by omega
      have HC2 := Lib.hid (fun W h => HC.out W k h hlt)
      have HS2 := Lib.hid (HS.out k)
      have HV2 := Lib.hid (HV.out k)
      have HN := Lib.hid (HL.out k)
      clear HC HS HV HQ HL
      obtain ⟨x, hx⟩ : ∃ x, gd m k = x := ⟨_, rfl⟩
      rw [hx] at HC2 HS2 HV2
      clear hx
      generalize (List.range k).filter (gd m) = L at *
      have HN2 : Hid (L.length ≤ 1000000) := by have := HN.out; show _ ≤ _; omega
      clear HN
      cases x with
      | false =>
        have HVv := Lib.hid (HV2.out.2 rfl)
        rw [HVv.out] at HC2
        clear HV2 HVv
        go_wp2_with (first | (go_at_call 48; (with_reducible refine (HC2.out _ HG.out.sto).mono ?_); rintro e W ⟨rfl, h1, h2⟩; replace HG := Lib.hid (HG.out.step h1 h2); clear h1 h2 HC2) | fail)
        go_roundw
        case rel => exact ⟨k + 1, by omega, by go_num, by rw [HS2.out]; exact HG.out.alloc _⟩
        case measure => simp [intOf]; omega
      | true =>
        have HVv := Lib.hid (HV2.out.1 rfl)
        rw [HVv.out] at HC2
        clear HV2 HVv
        have HF : Hid (gf (pl m.ws) k = (pcs k (pl m.ws k)).toList) := rfl
        generalize pl m.ws k = p at HC2 HF
        obtain ⟨pn, pk, pt, plt, pg⟩ := p
        go_wp2_with (first
          | (go_at_call 48; (with_reducible refine (HC2.out _ HG.out.sto).mono ?_); rintro e W ⟨rfl, h1, h2⟩; replace HG := Lib.hid (HG.out.step h1 h2); clear h1 h2 HC2)
          | (at_builtin; refine app_one (f := gf (pl m.ws)) rfl _ _ 73 rfl Try.underlying73 _ _ info_p3 rfl (by decide) (fun _ => rfl) (gf_one _) (by decide) w.heap.size _ L rfl ((HG.out.alloc _).alloc _).row (W.heap.size + 1) 1 k rfl (by rw [HF.out]; exact range_p' W _ k ⟨pn, pk, pt, plt, pg⟩) HN2.out ((HG.out.alloc _).alloc _).turn.size ?_; intro v' W7 hown hbel; replace HG := Lib.hid (((HG.out.alloc _).alloc _).put hown hbel); clear hown hbel)
          | fail)
        go_roundw
        case rel => exact ⟨k + 1, by omega, by go_num, by rw [HS2.out, if_pos trivial]; exact HG.out⟩
        case measure => simp [intOf]; omega
    · obtain rfl : k = P := by omega
      have hkP : ¬ (k : Int) < k := by omega
      clear HC HS HV HL
      rw [← HQ.out] at HG
      obtain ⟨A, cp, rfl, hcp, hel⟩ := Rw.form (f := gf (pl m.ws)) (sz := 5) (fun _ => rfl) HG.out.row
      have HZ : Hid (Pcs wr A (gs m) (pl m.ws)) := fun j i hj => by
        obtain ⟨gg, e, _, h3, h4⟩ := hel j i hj
        exact ⟨gg, e, h3, h4⟩
      clear hel
      go_wp2_with fail
      go_ret
      exact ⟨A, cp, rfl, hcp, HZ.out, HG.out.sto.mem, HG.out.turn⟩
end Sq
end Go.Proofs.Ytlhapipgmadbeaa
