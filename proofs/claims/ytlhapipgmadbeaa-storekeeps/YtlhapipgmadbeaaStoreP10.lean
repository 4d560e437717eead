/- The program's store: Put, Clear. -/
import Derived.Test.YtlhapipgmadbeaaStoreP9
namespace Go.Proofs.Ytlhapipgmadbeaa
namespace Sq
open Go.RowKit Nv Nw Sp Lk

/-- What the walk of Put carries: the store, the record in a block of its own. -/
structure Pt (w W : World) (g b d : Nat) (m : M) (r : R) : Prop where
  sto : Sto W g b d m
  blk : W.heap[w.heap.size]? = some (.cells (rcs r) 37 (0, 0))
  turn : Turn b d w W
  lt : w.heap.size < W.heap.size
  lb : b < w.heap.size
  ld : d < w.heap.size
namespace Pt
variable {w W W' : World} {g b d : Nat} {m m' : M} {r : R}
theorem start (h : Sto w g b d m) (r : R) : Pt w (w.alloc (.cells (rcs r) 37)) g b d m r :=
  ⟨h.grow ((Below.refl _ _).alloc (Nat.le_refl _) _), heap_alloc_last w _, Turn.grow ((Below.refl _ _).alloc (Nat.le_refl _) _), by simp, h.mem.lt, h.mem.lt'⟩
theorem step (t : Pt w W g b d m r) (hm : Mem W' b d m') (ht : Turn b d W W') : Pt w W' g b d m' r :=
  ⟨t.sto.turn hm ht, (ht.block _ t.lt (by have := t.lb; omega) (by have := t.ld; omega)).trans t.blk, t.turn.trans ht, Nat.lt_of_lt_of_le t.lt ht.size, t.lb, t.ld⟩
theorem grow (t : Pt w W g b d m r) (hb : Below W.heap.size W W') : Pt w W' g b d m r := t.step (t.sto.mem.grow hb) (Turn.grow hb)
theorem drew (t : Pt w W g b d m r) : Pt w W.drew g b d m r := t.grow (Below.refl _ _).drew
end Pt
/-- The record's cells. -/
abbrev RCell (V : World) (k : Nat) (rk rt : Int) (rl : Bool) : Prop := V.cell? ⟨k, 0, none⟩ = some (.int .i64 rk) ∧ V.cell? ⟨k, 1, none⟩ = some (.int .i64 rt) ∧ V.cell? ⟨k, 2, none⟩ = some (.bool rl)
theorem Pt.cells {w W : World} {g b d : Nat} {m : M} {rk rt : Int} {rl : Bool} (t : Pt w W g b d m ⟨rk, rt, rl⟩) : RCell W w.heap.size rk rt rl := by
  have h0 := Joins.cell_of_block t.blk 0
  have h1 := Joins.cell_of_block t.blk 1
  have h2 := Joins.cell_of_block t.blk 2
  simp only [List.getElem?_toArray, List.getElem?_cons_zero, List.getElem?_cons_succ] at h0 h1 h2
  exact ⟨h0, h1, h2⟩
theorem ord_put : Lk.orderedB (Lk.opsOf Try.f15 9) [(0, false), (1, false), (2, false), (3, false), (6, false), (7, false), (8, false), (4, true), (5, true), (9, true), (10, true), (11, false)] = true := by kernel_rfl

theorem swrite_n {g b d : Nat} {m : M} {w : World} (h : Sto w g b d m) (hm : Good m) (A : Option Addr) (c : Nat) (L : List (Nat × Int)) (n : Nat) (hn : L.length = n) (hL : n ≤ 200) (hc : n ≤ c) (hW : Wds w A L) (hA : ∀ g, A = some ⟨g, 0, none⟩ → g ≠ b ∧ g ≠ d) :
    Calls Try.prog 37 #[.pointer (some ⟨g, 0, none⟩), .slice A n c] w fun e w' => e = .returned (.int .i64 (writes m L).1) ∧ Mem w' b d (writes m L).2 ∧ Turn b d w w' := by
  subst hn
  exact swrite_c h hm A c L hL hc hW hA

set_option maxRecDepth 100000 in
set_option maxHeartbeats 4000000 in
theorem sput_arg {g b d : Nat} {m : M} {w : World} (h : Sto w g b d m) (r : R) (hr : okR r = false) :
    Calls Try.prog 15 #[.pointer (some ⟨g, 0, none⟩), .agg (rcs r)] w fun e w' => e = .returned (.int .i64 1) ∧ Mem w' b d m ∧ Turn b d w w' := by
  have HP := Lib.hid (Pt.start h r)
  have HN := Lib.hid (fun W (t : Pt w W g b d m r) => none_c t.sto)
  have HM := Lib.hid (fun W => may_c r W)
  rw [hr] at HM
  clear h hr
  go_enter Try.func15, Try.ntmps15
  go_wp2_with (first
    | (go_at_call 32; refine (HN.out _ HP.out).mono ?_; rintro e W ⟨rfl, rfl⟩)
    | (refine ldR rfl _ rfl w.heap.size r rfl HP.out.blk ?_)
    | (go_at_call 34; refine (HM.out _).mono ?_; rintro e W ⟨rfl, hb⟩; replace HP := Lib.hid (HP.out.grow hb); clear hb)
    | fail)
  go_ret
  exact ⟨rfl, HP.out.sto.mem, HP.out.turn⟩

set_option maxRecDepth 100000 in
set_option maxHeartbeats 4000000 in
theorem sput_gone {g b d : Nat} {m : M} {w : World} (h : Sto w g b d m) (r : R) (hr : okR r = true) (hg : m.gone = true) :
    Calls Try.prog 15 #[.pointer (some ⟨g, 0, none⟩), .agg (rcs r)] w fun e w' => e = .returned (.int .i64 110) ∧ Mem w' b d m ∧ Turn b d w w' := by
  have HP := Lib.hid (Pt.start h r)
  have HN := Lib.hid (fun W (t : Pt w W g b d m r) => none_c t.sto)
  have HM := Lib.hid (fun W => may_c r W)
  have HD := Lib.hid (fun W (t : Pt w W g b d m r) => down_c b d m W t.sto.mem)
  rw [hr] at HM
  rw [hg] at HD
  clear h hr hg
  go_enter Try.func15, Try.ntmps15
  go_wp2_with (first
    | (go_at_call 32; refine (HN.out _ HP.out).mono ?_; rintro e W ⟨rfl, rfl⟩)
    | (refine ldR rfl _ rfl w.heap.size r rfl HP.out.blk ?_)
    | (go_at_call 34; refine (HM.out _).mono ?_; rintro e W ⟨rfl, hb⟩; replace HP := Lib.hid (HP.out.grow hb); have c0 := HP.out.sto.c0; clear hb)
    | (go_at_call 28; refine (HD.out _ HP.out).mono ?_; rintro e W ⟨rfl, rfl⟩)
    | fail)
  go_ret
  exact ⟨rfl, HP.out.sto.mem, HP.out.turn⟩

set_option maxRecDepth 100000 in
set_option maxHeartbeats 4000000 in
theorem sput_on {g b d : Nat} {m : M} {w : World} (h : Sto w g b d m) (hm : Good m) (r : R) (hr : okR r = true) (hg : m.gone = false) :
    Calls Try.prog 15 #[.pointer (some ⟨g, 0, none⟩), .agg (rcs r)] w fun e w' => e = .returned (.int .i64 (put m r).1) ∧ Mem w' b d (put m r).2 ∧ Turn b d w w' := by
  have HP := Lib.hid (Pt.start h r)
  have HN := Lib.hid (fun W (t : Pt w W g b d m r) => none_c t.sto)
  have HM := Lib.hid (fun W => may_c r W)
  have HD := Lib.hid (fun W (t : Pt w W g b d m r) => down_c b d m W t.sto.mem)
  have HG := Lib.hid (fun W (t : Pt w W g b d m r) => good_c t.sto hm)
  have hL : (gs m).length ≤ 1000 := by have := gs_len m; have := hm.most; unfold rooms at *; omega
  have HB := Lib.hid (fun W A c hc hA => greatest_c A c (gs m) (pl m.ws) W (okp_pl m.ws) hL hc hA (fun i hi => (gs_mem hi).2))
  have hbig : big (pl m.ws) (gs m) = top m := by rw [gs_on hg]; exact big_most _ _
  have htop : top m ≤ 2147483648 := most_le (by decide) _ fun k _ hk => (pl_num m.ws k hk).2
  have htop0 := top_nonneg m
  rw [hbig] at HB
  rw [hr] at HM
  rw [hg] at HD
  have HH := Lib.hid (fun W A c hc (t : Pt w W g b d m r) hA => holding_c t.sto hm A c hc hA)
  have HF := Lib.hid (fun W B n (t : Pt w W g b d m r) hM => free_c t.sto hm hg B n hM)
  have HR3 : Hid (rooms m ≤ 128) := by have := hm.most; show _ ≤ _; unfold rooms; omega
  have HWd := Lib.hid (fun (at_ : Nat) (n : Int) W (ha : at_ ≤ 1000) => words_c at_ n r W hr ha)
  have HWr := Lib.hid (fun W A c L n (hn : L.length = n) (t : Pt w W g b d m r) hL hc hW hA => swrite_n t.sto hm A c L n hn hL hc hW hA)
  have HPut : Hid (put m r = if 2147483648 ≤ top m then (120, m) else writes m (five (free m) r (top m + 1))) := by
    show _ = _
    unfold put
    rw [if_neg (by simp [hr]), if_neg (by simp [hg])]
  clear h hr hg hL hbig
  generalize top m = T at *
  generalize hgs : (gs m).length = N at *
  obtain ⟨rk, rt, rl⟩ := r
  by_cases hT : T = 2147483648
  · subst hT
    rw [if_pos (by decide)] at HPut
    clear HH HF HWd HWr
    go_enter Try.func15, Try.ntmps15
    go_wp2_with (first
      | (go_at_call 32; refine (HN.out _ HP.out).mono ?_; rintro e W ⟨rfl, rfl⟩)
      | (refine ldR rfl _ rfl w.heap.size ⟨rk, rt, rl⟩ rfl HP.out.blk ?_)
      | (go_at_call 34; refine (HM.out _).mono ?_; rintro e W ⟨rfl, hb⟩; replace HP := Lib.hid (HP.out.grow hb); have c0 := HP.out.sto.c0; clear hb)
      | (go_at_call 28; refine (HD.out _ HP.out).mono ?_; rintro e W ⟨rfl, rfl⟩)
      | (go_at_call 35; refine (HG.out _ HP.out).mono ?_; rintro e W ⟨A, c, rfl, hc, hA, h1, h2⟩; replace HP := Lib.hid (HP.out.step h1 h2); have HA := Lib.hid (And.intro hc hA); clear h1 h2 hc hA)
      | (go_at_call 36; refine (HB.out _ A c HA.out.1 HA.out.2).mono ?_; rintro e W ⟨rfl, hb⟩; replace HP := Lib.hid (HP.out.grow hb); clear hb)
      | fail)
    go_ret
    rw [HPut.out]
    exact ⟨rfl, HP.out.sto.mem, HP.out.turn⟩
  · have hT2 : T < 2147483648 := by omega
    have hT3 : (T == 2147483648) = false := by simpa using hT
    rw [if_neg (by omega)] at HPut
    go_enter Try.func15, Try.ntmps15
    go_wp2_with (first
      | (go_at_call 32; refine (HN.out _ HP.out).mono ?_; rintro e W ⟨rfl, rfl⟩)
      | (refine ldR rfl _ rfl w.heap.size ⟨rk, rt, rl⟩ rfl HP.out.blk ?_)
      | (go_at_call 34; refine (HM.out _).mono ?_; rintro e W ⟨rfl, hb⟩; replace HP := Lib.hid (HP.out.grow hb); have c0 := HP.out.sto.c0; clear hb)
      | (go_at_call 28; refine (HD.out _ HP.out).mono ?_; rintro e W ⟨rfl, rfl⟩)
      | (go_at_call 35; refine (HG.out _ HP.out).mono ?_; rintro e W ⟨A, c, rfl, hc, hA, h1, h2⟩; replace HP := Lib.hid (HP.out.step h1 h2); have HA := Lib.hid (And.intro hc hA); clear h1 h2 hc hA)
      | (go_at_call 36; refine (HB.out _ A c HA.out.1 HA.out.2).mono ?_; rintro e W ⟨rfl, hb⟩; replace HP := Lib.hid (HP.out.grow hb); replace HA := Lib.hid (And.intro HA.out.1 (HA.out.2.below hb)); clear hb)
      | fail)
    clear HN HM HD HG HB hT3 hgs c0
    replace HA := Lib.hid (And.intro HA.out.1 (HA.out.2.below (Below.refl _ _).drew))
    replace HP := Lib.hid HP.out.drew
    have hwr : IntKind.u32.wrap (T + 1) = T + 1 := by simp [IntKind.wrap, IntKind.bits, IntKind.signed]; omega
    refine wp_region_noPanic (Lk.wp_region_ordered ord_put (fun V => RCell V w.heap.size rk rt rl) (by kernel_rfl) (by kernel_rfl) (fun _ _ _ _ _ h => h) HP.out.cells ?_)
    iterate 7 (refine Lk.ord_take ?_ rfl rfl ?_ ?_; rotate_left; (focus (intro w' hS; (try dsimp only at hS); go_simp; try with_reducible rfl)); simp only [Act.put, List.setIfInBounds_toArray, List.set_cons_zero, List.set_cons_succ])
    refine Lk.ord_step rfl rfl (fun K hK => ?_)
    go_simp
    (with_reducible refine (HH.out _ A c HA.out.1 HP.out HA.out.2).mono ?_)
    rintro e W1 ⟨B, n, rfl, hn, hB, hM, hb⟩
    replace HP := Lib.hid (HP.out.grow hb)
    have HMh := Lib.hid hM
    clear hn hB hM hb HA HH
    refine hK.out _ _ HP.out.cells ?_
    clear hK K
    try simp only [Act.put, List.setIfInBounds_toArray, List.set_cons_zero, List.set_cons_succ]
    refine Lk.ord_step rfl rfl (fun K hK => ?_)
    go_simp
    (with_reducible refine (HF.out _ B n HP.out HMh.out).mono ?_)
    rintro e W1 ⟨rfl, hfr, hb⟩
    replace HP := Lib.hid (HP.out.grow hb)
    clear hb HMh HF
    refine hK.out _ _ HP.out.cells ?_
    clear hK K
    try simp only [Act.put, List.setIfInBounds_toArray, List.set_cons_zero, List.set_cons_succ]
    refine Lk.ord_step rfl rfl (fun K hK => ?_)
    go_simp
    (with_reducible refine (HWd.out (free m) (T + 1) _ (by have := HR3.out; omega)).mono ?_)
    rintro e W1 ⟨gw, rfl, hgw, hW, hb⟩
    have HW := Lib.hid hW
    have HAd : Hid (∀ g, some (⟨gw, 0, none⟩ : Addr) = some ⟨g, 0, none⟩ → g ≠ b ∧ g ≠ d) := fun g e => by
      injection e with e
      injection e with e
      have := HP.out.lt
      have := HP.out.lb
      have := HP.out.ld
      omega
    replace HP := Lib.hid (HP.out.grow hb)
    clear hb hW hgw HWd
    refine hK.out _ _ HP.out.cells ?_
    clear hK K
    try simp only [Act.put, List.setIfInBounds_toArray, List.set_cons_zero, List.set_cons_succ]
    refine Lk.ord_step rfl rfl (fun K hK => ?_)
    go_simp
    (with_reducible refine (HWr.out _ (some ⟨gw, 0, none⟩) 5 (five (free m) ⟨rk, rt, rl⟩ (T + 1)) 5 rfl HP.out (by decide) (by decide) HW.out HAd.out).mono ?_)
    rintro e W1 ⟨rfl, h1, h2⟩
    have HP2 := HP
    replace HP := Lib.hid (HP.out.step h1 h2)
    clear h1 h2 HWr HW HAd HP2
    refine hK.out _ _ HP.out.cells ?_
    clear hK K
    try simp only [Act.put, List.setIfInBounds_toArray, List.set_cons_zero, List.set_cons_succ]
    iterate 1 (refine Lk.ord_take ?_ rfl rfl ?_ ?_; rotate_left; (focus (intro w' hS; (try dsimp only at hS); go_simp; try with_reducible rfl)); simp only [Act.put, List.setIfInBounds_toArray, List.set_cons_zero, List.set_cons_succ])
    refine Lk.ord_nil (NoPanic.normal ?_)
    go_wp2_with fail
    go_ret
    rw [HPut.out]
    exact ⟨rfl, HP.out.sto.mem, HP.out.turn⟩
/-- Put: its error, and the memory behind it. -/
theorem sput_c {g b d : Nat} {m : M} {w : World} (h : Sto w g b d m) (hm : Good m) (r : R) :
    Calls Try.prog 15 #[.pointer (some ⟨g, 0, none⟩), .agg (rcs r)] w fun e w' => e = .returned (.int .i64 (put m r).1) ∧ Mem w' b d (put m r).2 ∧ Turn b d w w' := by
  cases hr : okR r with
  | false =>
    rw [put_no hr]
    exact sput_arg h r hr
  | true =>
    cases hg : m.gone with
    | true =>
      rw [show put m r = (110, m) from by unfold put; rw [if_neg (by simp [hr]), if_pos hg]]
      exact sput_gone h r hr hg
    | false => exact sput_on h hm r hr hg
theorem sput_n (r : R) (w : World) : Calls Try.prog 15 #[.pointer none, .agg (rcs r)] w fun e w' => e = .returned (.int .i64 1) ∧ Below w.heap.size w w' := by
  have HN := Lib.hid (fun W => none_n W)
  have HW : Hid (Below w.heap.size w (w.alloc (.cells (rcs r) 37))) := (Below.refl _ _).alloc (Nat.le_refl _) _
  go_enter Try.func15, Try.ntmps15
  go_wp2_with (first
    | (go_at_call 32; refine (HN.out _).mono ?_; rintro e W ⟨rfl, rfl⟩)
    | fail)
  go_ret
  exact ⟨rfl, HW.out⟩

/-! ### Clear -/
abbrev wf_ (x : Nat × Int) : List Value := (wcs x).toList
theorem info_w3 : ∃ i, Try.prog.info? 90 = some i ∧ i.zero = some (.agg (wcs (0, 0))) ∧ i.size = 2 ∧ i.bytes = 16 := by
  have h : (Try.prog.info? 90).map (fun i => (i.zero, i.size, i.bytes)) = some (some (.agg (wcs (0, 0))), 2, 16) := by kernel_rfl
  obtain ⟨i, hi, hz⟩ := Option.map_eq_some_iff.1 h
  simp only [Prod.mk.injEq] at hz
  exact ⟨i, hi, hz.1, hz.2.1, hz.2.2⟩
theorem wf_one (x : Nat × Int) : ∀ u ∈ wf_ x, u.oneCell' = true := by
  intro u hu
  change u ∈ [Value.int .i64 x.1, .int .u32 x.2] at hu
  simp only [List.mem_cons, List.not_mem_nil, or_false] at hu
  rcases hu with rfl | rfl <;> rfl
theorem range_w (w : World) (x : Nat × Int) : (w.alloc (.cells (wcs x) 90)).rangeAt w.heap.size 0 (wcs x).toList := fun j v hv => by
  rw [Nat.zero_add]
  exact (Joins.cell_of_block (heap_alloc_last w _) j).trans (by simpa using hv)
theorem range_z (w : World) (k : Nat) {x : Int} (hx : x = 4 * (k : Int)) : (w.alloc (.cells #[.int .i64 x, .int .u32 0] 90)).rangeAt w.heap.size 0 (wf_ (4 * k, 0)) := by
  have e : x = ((4 * k : Nat) : Int) := by omega
  subst e
  exact range_w w (4 * k, 0)
/-- What the walk of Clear carries. -/
structure Cl (w W : World) (g b d : Nat) (m : M) (v : Value) (L : List (Nat × Int)) : Prop where
  row : Rw 90 2 wf_ W w.heap.size v L
  sto : Sto W g b d m
  old : Below w.heap.size w W
  lb : b < w.heap.size
  ld : d < w.heap.size
  lg : g < w.heap.size
namespace Cl
variable {w W W' : World} {g b d : Nat} {m : M} {v v' : Value} {L L' : List (Nat × Int)}
theorem grow (h : Cl w W g b d m v L) (hb : Below W.heap.size W W') : Cl w W' g b d m v L := ⟨h.row.below hb, h.sto.grow hb, h.old.trans (hb.mono h.old.size), h.lb, h.ld, h.lg⟩
theorem alloc (h : Cl w W g b d m v L) (o : Obj) : Cl w (W.alloc o) g b d m v L := h.grow ((Below.refl _ _).alloc (Nat.le_refl _) _)
theorem put (h : Cl w W g b d m v L) (hr : Rw 90 2 wf_ W' w.heap.size v' L') (hb : Below w.heap.size W W') : Cl w W' g b d m v' L' :=
  ⟨hr, h.sto.same ⟨h.sto.mem.row.of_block (hb.block b h.lb), h.sto.mem.ws.of_block (hb.block d h.ld), h.sto.mem.ne⟩ (hb.block g h.lg), h.old.trans hb, h.lb, h.ld, h.lg⟩
end Cl
theorem zs_snoc (k : Nat) : (List.range (k + 1)).map (fun i => (4 * i, (0 : Int))) = (List.range k).map (fun i => (4 * i, (0 : Int))) ++ [(4 * k, 0)] := by
  rw [List.range_succ, List.map_append]; rfl
theorem clear_writes {m : M} (h8 : 8 ≤ m.ws.length) : clear m = writes m ((List.range (rooms m)).map fun i => (4 * i, (0 : Int))) := by
  unfold clear
  split
  · rename_i hg
    obtain ⟨k, hk⟩ : ∃ k, rooms m = k + 1 := ⟨rooms m - 1, by have := rooms_two h8; omega⟩
    rw [hk, List.range_succ_eq_map, List.map_cons]
    simp [writes, werr, wput, hg]
  · rfl
set_option maxRecDepth 100000 in
set_option maxHeartbeats 4000000 in
theorem sclear_c {g b d : Nat} {m : M} {w : World} (h : Sto w g b d m) (hm : Good m) :
    Calls Try.prog 17 #[.pointer (some ⟨g, 0, none⟩)] w fun e w' => e = .returned (.int .i64 (clear m).1) ∧ Mem w' b d (clear m).2 ∧ Turn b d w w' := by
  rw [clear_writes hm.len]
  have HT : Hid (Cl w w g b d m (.slice none 0 0) ((List.range 0).map fun i => (4 * i, (0 : Int)))) := ⟨Rw.nil _ _ _ _ _, h, Below.refl _ _, h.mem.lt, h.mem.lt', h.lt⟩
  have HN := Lib.hid (none_c h)
  have HP := Lib.hid (places_c h hm.most)
  have HS := Lib.hid zs_snoc
  have hP : rooms m ≤ 128 := by have := hm.most; unfold rooms; omega
  have hP2 : 2 ≤ rooms m := rooms_two hm.len
  have HWr := Lib.hid (fun W A c L (t : Sto W g b d m) hL hc hW hA => swrite_c t hm A c L hL hc hW hA)
  clear h hm
  generalize rooms m = P at *
  go_enter Try.func17, Try.ntmps17
  go_wp2_with (first
    | (go_at_call 32; refine HN.out.mono ?_; rintro e W ⟨rfl, rfl⟩)
    | (go_at_call 33; refine HP.out.mono ?_; rintro e W ⟨rfl, rfl⟩)
    | fail)
  clear HN HP
  go_loopw [3, 9] (fun v i wr => ∃ k : Nat, k ≤ P ∧ i = .int .i64 k ∧ Cl w wr g b d m v ((List.range k).map fun i => (4 * i, (0 : Int)))) (fun _ i _ => P - (intOf i).toNat)
  case atStart => exact ⟨0, Nat.zero_le _, rfl, HT.out⟩
  case round =>
    clear HT
    obtain ⟨k, hk, rfl, ht⟩ := hrel
    have HT := Lib.hid ht
    clear ht
    by_cases hlt : k < P
    · have hkP : (k : Int) < P := by omega
      have HS2 := Lib.hid (HS.out k)
      have HN2 : Hid (((List.range k).map fun i => (4 * i, (0 : Int))).length ≤ 1000000) := by show _ ≤ _; simp; omega
      generalize (List.range k).map (fun i => (4 * i, (0 : Int))) = L at *
      clear HS HWr
      go_wp2_with (first
        | (at_builtin; refine app_one (f := wf_) rfl _ _ 77 rfl Try.underlying77 _ _ info_w3 rfl (by decide) (fun _ => rfl) wf_one (by decide) w.heap.size _ L rfl (HT.out.alloc _).row wr.heap.size 1 (4 * k, 0) rfl (range_z wr k (by omega)) HN2.out (HT.out.alloc _).old.size ?_; intro v' W7 hown hbel; replace HT := Lib.hid ((HT.out.alloc _).put hown hbel); clear hown hbel)
        | fail)
      go_roundw
      case rel => exact ⟨k + 1, by omega, by go_num, by rw [HS2.out]; exact HT.out⟩
      case measure => simp [intOf]; omega
    · obtain rfl : k = P := by omega
      have hkP : ¬ (k : Int) < k := by omega
      obtain ⟨A, cp, rfl, hcp, hel⟩ := Rw.form (f := wf_) (sz := 2) (fun _ => rfl) HT.out.row
      have HZ : Hid (Wds wr A ((List.range k).map fun i => (4 * i, (0 : Int)))) := fun j i hj => by
        obtain ⟨gg, e, _, h3, h4⟩ := hel j i hj
        exact ⟨gg, e, h3, h4⟩
      have HAd : Hid (∀ g, A = some ⟨g, 0, none⟩ → g ≠ b ∧ g ≠ d) := fun q e => by
        obtain ⟨gg, e2, h3, _⟩ := hel 0 (0, 0) (by rw [List.getElem?_map, List.getElem?_range (by omega)]; rfl)
        rw [e] at e2
        injection e2 with e2
        injection e2 with e2
        have := HT.out.lb
        have := HT.out.ld
        omega
      have hLn : ((List.range k).map fun i => (4 * i, (0 : Int))).length ≤ 200 := by simp; omega
      clear hel HS
      obtain ⟨L, hLz⟩ : ∃ L, (List.range k).map (fun i => (4 * i, (0 : Int))) = L := ⟨_, rfl⟩
      have HLz := Lib.hid hLz
      rw [hLz] at HT hcp HZ hLn ⊢
      clear hLz
      have HC := Lib.hid (HWr.out wr A cp L HT.out.sto hLn hcp HZ.out HAd.out)
      clear HWr HZ HAd
      go_wp2_with (first
        | (go_at_call 37; (with_reducible refine HC.out.mono ?_); rintro e W ⟨rfl, h1, h2⟩; have HF := Lib.hid (And.intro h1 ((Turn.grow HT.out.old).trans h2)); clear h1 h2)
        | fail)
      go_ret
      rw [HLz.out]
      exact ⟨rfl, HF.out.1, HF.out.2⟩
theorem sclear_n (w : World) : Calls Try.prog 17 #[.pointer none] w fun e w' => e = .returned (.int .i64 1) ∧ w = w' := by
  have HN := Lib.hid (fun W => none_n W)
  go_enter Try.func17, Try.ntmps17
  go_wp2_with (first
    | (go_at_call 32; refine (HN.out _).mono ?_; rintro e W ⟨rfl, rfl⟩)
    | fail)
  go_ret
  exact ⟨rfl, rfl⟩
end Sq
end Go.Proofs.Ytlhapipgmadbeaa
