/- The walk of CutoffTurns. -/
import Derived.Test.YtdfihcbmojggoaaCutoffAwake
import Derived.Test.YtdfihcbmojggoaaAppKit
import Derived.BigQuiet
namespace Go.Proofs.Ytdfihcbmojggoaa
namespace Ow
open Go.RowKit Lk

theorem Ct.congr {W : World} {g n : Nat} {c d : Nat → Int × Bool} (h : Ct W g n c) (e : ∀ m, m < n → c m = d m) : Ct W g n d := ⟨h.lt, fun m hm => by rw [← e m hm]; exact h.has m hm⟩
abbrev pf (p : Int × Int) : List Value := (pc p.1 p.2).toList
theorem pf_len (p : Int × Int) : (pf p).length = 2 := rfl
theorem pf_one (p : Int × Int) : ∀ u ∈ pf p, u.oneCell' = true := by
  intro u hu
  simp only [pf, List.mem_cons, List.not_mem_nil, or_false] at hu
  rcases hu with rfl | rfl <;> rfl
theorem info_pp : ∃ i, Try.prog.info? 30 = some i ∧ i.zero = some (.agg (pc 0 0)) ∧ i.size = 2 ∧ i.bytes = 16 := by
  have h : (Try.prog.info? 30).map (fun i => (i.zero, i.size, i.bytes)) = some (some (.agg (pc 0 0)), 2, 16) := by kernel_rfl
  obtain ⟨i, hi, h0, h1, h2⟩ := info_parts h
  exact ⟨i, hi, h0, h1, h2⟩
abbrev Tn (W : World) (base : Nat) (v : Value) (l : List (Int × Int)) : Prop := Lk.Rw 30 2 pf W base v l
theorem app_p {o : Oper} {a : Act} {w : World} {K : Act → World → Prop} {Q : Exit → Act → World → Prop} (s x : Operand)
    (ho : o.op = .call { callee := .builtin .append, args := #[s, x], argTypes := #[22, 22] })
    (base : Nat) (v : Value) (l : List (Int × Int)) (hs : a.eval s = v) (hown : Tn w base v l) (g c : Nat) (b : Int × Int) (hx : a.eval x = .slice (some ⟨g, 0, none⟩) 1 c) (hA : w.rangeAt g 0 (pf b))
    (hm : l.length ≤ 1000000) (hbase : base ≤ w.heap.size)
    (h : ∀ v' w', Tn w' base v' (l ++ [b]) → Below base w w' → K (a.put o.dst v') w') : o.wp Try.prog a w K Q := by
  obtain ⟨i, hi, hzz, hsize, hbb⟩ := info_pp
  refine wp_append_own w s x 22 ho base 30 i _ 2 16 Try.underlying22 hi hzz hsize hbb (by simp [Value.cells, pc]) (by decide) v l.length (l.flatMap pf) hs hown ⟨g, 0, none⟩ 1 c (pf b) hx (by rw [pf_len]) ?_ (pf_one b) (by unfold maxLen; omega) (by omega) hbase ?_
  · intro j u hj
    have hplain : (⟨g, 0, none⟩ : Addr).add j = ⟨g, 0 + j, none⟩ := by rw [Addr.add_mid]
    rw [hplain]
    exact hA j u hj
  · intro v' w' h2 h3 _
    refine h v' w' ?_ ((Below.refl base w).grown h3 hbase hown.block_le)
    show w'.ownsRow base 30 2 v' (l ++ [b]).length ((l ++ [b]).flatMap pf)
    rw [List.flatMap_append, List.length_append, List.flatMap_cons, List.flatMap_nil, List.append_nil]
    exact h2

theorem ord_t : Lk.orderedB (Lk.opsOf Try.f6 10) [(0, false), (1, false), (2, false), (3, false), (4, false), (5, false), (6, false), (7, false), (8, false), (9, false), (10, false), (11, false), (12, true), (13, true), (14, false)] = true := by kernel_rfl
theorem ord_u : Lk.orderedB (Lk.opsOf Try.f6 19) [(0, false), (1, false), (2, false), (3, false), (4, false), (5, false), (6, false), (7, false), (8, false), (9, false), (10, false), (11, false), (12, false), (13, false), (14, false), (15, false), (16, false), (17, false), (18, false), (19, false), (20, false), (21, false), (22, false), (23, false)] = true := by kernel_rfl
abbrev ST (ga oa m : Nat) (a b : Int) (V : World) : Prop := V.cell? ⟨ga, oa + m * 2, none⟩ = some (.int .i64 a) ∧ V.cell? ⟨ga, oa + m * 2 + 1, none⟩ = some (.int .i64 b)
theorem take_swap {L : List (Int × Int)} {m : Nat} {a b : Int} (h : L[m]? = some (a, b)) : (L.take (m + 1)).map Prod.swap = (L.take m).map Prod.swap ++ [(b, a)] := by
  rw [List.take_add_one, h]
  simp
theorem tn_prs {W : World} {base n : Nat} {v : Value} {l : List (Int × Int)} (h : Tn W base v l) (hl : l.length = n) : ∃ A c, v = .slice A n c ∧ Prs W A l := by
  obtain ⟨A, c, e, _, h2⟩ := h.form pf_len
  rw [hl] at e
  refine ⟨A, c, e, fun i p hi => ?_⟩
  obtain ⟨g, e2, _, hg, hr⟩ := h2 i p hi
  exact ⟨g, 0, e2, hg, by rw [Nat.zero_add]; exact hr⟩
theorem made_p (W : World) (a b : Int) : (W.alloc (po a b)).rangeAt W.heap.size 0 (pf (a, b)) := by
  intro j v hv
  rw [Joins.cell_of_block (heap_alloc_last W (po a b)), Nat.zero_add]
  simpa using hv
/-- What the walk knows behind the three. -/
structure T3 (w W : World) (g1 g2 g3 n : Nat) (c d : Nat → Int × Bool) : Prop where
  old : Below w.heap.size w W
  c1 : Ct W g1 n c
  c2 : Ct W g2 n c
  c3 : Ct W g3 n d
theorem T3.drew {w W : World} {g1 g2 g3 n : Nat} {c d : Nat → Int × Bool} (h : T3 w W g1 g2 g3 n c d) : T3 w W.drew g1 g2 g3 n c d :=
  ⟨h.old.drew, ⟨h.c1.lt, h.c1.has⟩, ⟨h.c2.lt, h.c2.has⟩, ⟨h.c3.lt, h.c3.has⟩⟩
structure SU (g1 g2 g3 m : Nat) (p : Int) (u x : Bool) (V : World) : Prop where
  r1 : V.rangeAt g1 (m * 2) (cc p u).toList
  r2 : V.rangeAt g2 (m * 2) (cc p u).toList
  s1 : V.cell? ⟨g1, m * 2 + 1, none⟩ = some (.bool u)
  s3 : V.cell? ⟨g3, m * 2 + 1, none⟩ = some (.bool x)
theorem T3.su {w W : World} {g1 g2 g3 n m : Nat} {c d : Nat → Int × Bool} {p r : Int} {u x : Bool} (h : T3 w W g1 g2 g3 n c d) (hm : m < n) (e1 : c m = (p, u)) (e2 : d m = (r, x)) : SU g1 g2 g3 m p u x W :=
  ⟨h.c1.at_ hm e1, h.c2.at_ hm e1, (two_cells (h.c1.at_ hm e1)).2, (two_cells (h.c3.at_ hm e2)).2⟩

set_option maxRecDepth 100000 in
set_option maxHeartbeats 8000000 in
theorem turns_go (t e : Int) (k' : Nat) (ht : 0 ≤ t) (ht2 : t ≤ 65535) (hk' : k' < 256) (he : 0 ≤ e) (he2 : e ≤ 255) (A : Option Addr) (n cp : Nat) (L : List (Int × Int)) (hn : L.length = n) (w : World) (hA : Prs w A L) :
    Calls Try.prog 6 #[.int .u16 t, .int .u8 k', .slice A n cp, .int .u8 e] w fun e w' => e = .returned (.bool true) ∧ Below w.heap.size w w' := by
  have AW := Lib.hid (fun W => awake_c W)
  have HB := Lib.hid (Below.refl w.heap.size w)
  by_cases h200 : n ≤ 200
  · have k2 : decide ((200 : Int) < n) = false := decide_eq_false (by omega)
    have km : k' % 10 < 10 := Nat.mod_lt _ (by decide)
    have HA := Lib.hid hA
    have HN := Lib.hid hn
    clear hA hn
    go_enter Try.func6, Try.ntmps6
    go_upto_region 7 with (first
      | (go_at_call 8; (with_reducible refine (AW.out _).mono ?_); rintro e W ⟨rfl, hb⟩; replace HB := Lib.hid (HB.out.trans (hb.mono HB.out.size)); clear hb)
      | fail)
    generalize hkk : (k' : Int) % 10 + 1 = k at *
    clear AW km hkk
    have HT : Hid (Tn W w.heap.size (.slice none 0 0) []) := Lib.hid (Lk.Rw.nil _ _ _ _ _)
    go_wp2_with fail
    go_loopw [12, 13] (fun v i wr => ∃ m : Nat, m ≤ n ∧ i = .int .i64 m ∧ Below w.heap.size w wr ∧ Tn wr w.heap.size v ((L.take m).map Prod.swap)) (fun _ i _ => n - (intOf i).toNat)
    case atStart => exact ⟨0, Nat.zero_le _, rfl, HB.out, HT.out⟩
    case round =>
      clear HB HT
      obtain ⟨m, hm, rfl, hb, ht3⟩ := hrel
      have HB := Lib.hid hb
      have HT := Lib.hid ht3
      clear hb ht3
      by_cases hlt : m < n
      · have hlt2 : (m : Int) < n := by omega
        obtain ⟨⟨a, b⟩, hp⟩ : ∃ p, L[m]? = some p := ⟨L[m]'(by rw [HN.out]; exact hlt), List.getElem?_eq_getElem _⟩
        have HTK := Lib.hid (take_swap hp)
        have HLN : Hid (((L.take m).map Prod.swap).length ≤ 1000000) := by show _ ≤ _; rw [List.length_map, List.length_take]; omega
        obtain ⟨ga, oa, rfl, hga, hra⟩ := HA.out m (a, b) hp
        have HPa : Hid (∀ V, Below w.heap.size w V → ST ga oa m a b V) := Lib.hid (fun V hV => two_cells (fun j v hv => (hV.cell (p := ⟨ga, oa + m * 2 + j, none⟩) hga).trans (hra j v hv)))
        clear hp hra
        go_upto_region 10 with fail
        refine wp_region_noPanic (Lk.wp_region_ordered ord_t (ST ga oa m a b) (by kernel_rfl) (by kernel_rfl) (fun _ _ _ _ _ h => h) (HPa.out _ HB.out.drew) ?_)
        replace HB := Lib.hid HB.out.drew
        replace HT := Lib.hid HT.out.drew
        generalize wr.drew = W2 at *
        iterate 12 (refine Lk.ord_take ?_ rfl rfl ?_ ?_; rotate_left; (focus (intro w' hS; obtain ⟨s1, s2⟩ := hS; go_simp; try with_reducible rfl)); simp only [Act.put, List.setIfInBounds_toArray, List.set_cons_zero, List.set_cons_succ])
        refine Lk.ord_step rfl rfl (fun K hK => ?_)
        go_simp
        refine hK.out _ _ (HPa.out _ (HB.out.alloc HB.out.size _)) ?_
        clear hK K
        have HG := Lib.hid (made_p W2 b a)
        replace HT := Lib.hid (HT.out.alloc (po b a))
        replace HB := Lib.hid (HB.out.alloc HB.out.size (po b a))
        generalize W2.heap.size = g2 at *
        refine Lk.ord_step rfl rfl (fun K hK => ?_)
        refine app_p _ _ rfl w.heap.size _ _ rfl HT.out g2 1 (b, a) rfl HG.out HLN.out HB.out.size ?_
        intro v' W3 ht4 hb4
        replace HB := Lib.hid (HB.out.trans hb4)
        have HT3 := Lib.hid ht4
        clear ht4 hb4 HG HT
        refine hK.out _ _ (HPa.out _ HB.out) ?_
        clear hK K
        simp only [Act.put, List.setIfInBounds_toArray, List.set_cons_zero, List.set_cons_succ]
        iterate 1 (refine Lk.ord_take ?_ rfl rfl ?_ ?_; rotate_left; (focus (intro w' hS; obtain ⟨s1, s2⟩ := hS; go_simp; try with_reducible rfl)); simp only [Act.put, List.setIfInBounds_toArray, List.set_cons_zero, List.set_cons_succ])
        refine Lk.ord_nil (NoPanic.normal ?_)
        go_wp2_with fail
        go_roundw
        case rel => exact ⟨m + 1, by omega, by go_num, HB.out, by rw [HTK.out]; exact HT3.out⟩
        case measure => simp only [intOf, Int.toNat_natCast]; omega
      · obtain rfl : m = n := by omega
        have HTL : Hid ((L.take m).map Prod.swap = L.map Prod.swap) := by show _ = _; rw [List.take_of_length_le (by rw [HN.out]; exact Nat.le_refl _)]
        rw [HTL.out] at HT
        clear HTL
        obtain ⟨A2, c2, rfl, hA2⟩ := tn_prs (n := m) HT.out (by rw [List.length_map]; exact HN.out)
        have C1 : Hid (∀ W, Below w.heap.size w W → Calls Try.prog 9 #[.int .i64 t, .int .i64 k, .slice A m cp, .slice none 0 0] W fun e w' => (∃ g, e = .returned (.slice (some ⟨g, 0, none⟩) m m) ∧ W.heap.size ≤ g ∧ Ct w' g m (fun m => Cu.st t k L [] (m + 1))) ∧ Below W.heap.size W w') := Lib.hid (fun W hW => run_c t k A none m cp 0 0 L [] HN.out rfl (by omega) W (HA.out.below hW) (bls_nil W))
        have C2 : Hid (∀ W, Below wr.heap.size wr W → Calls Try.prog 9 #[.int .i64 t, .int .i64 k, .slice A2 m c2, .slice none 0 0] W fun e w' => (∃ g, e = .returned (.slice (some ⟨g, 0, none⟩) m m) ∧ W.heap.size ≤ g ∧ Ct w' g m (fun m => Cu.st t k L [] (m + 1))) ∧ Below W.heap.size W w') := Lib.hid (fun W hW => by
          refine (run_c t k A2 none m c2 0 0 (L.map Prod.swap) [] (by rw [List.length_map]; exact HN.out) rfl (by omega) W (hA2.below hW) (bls_nil W)).mono ?_
          rintro e w' ⟨⟨g, h1, h2, h3⟩, h4⟩
          exact ⟨⟨g, h1, h2, h3.congr fun i hi => Cu.st_turn t k L [] (i + 1) (by rw [HN.out]; omega)⟩, h4⟩)
        have C3 : Hid (∀ W, Below w.heap.size w W → Calls Try.prog 9 #[.int .i64 (t - e), .int .i64 k, .slice A m cp, .slice none 0 0] W fun e' w' => (∃ g, e' = .returned (.slice (some ⟨g, 0, none⟩) m m) ∧ W.heap.size ≤ g ∧ Ct w' g m (fun m => Cu.st (t - e) k L [] (m + 1))) ∧ Below W.heap.size W w') := Lib.hid (fun W hW => run_c (t - e) k A none m cp 0 0 L [] HN.out rfl (by omega) W (HA.out.below hW) (bls_nil W))
        have C4 : Hid (∀ W, Calls Try.prog 12 #[.int .i64 t, .int .i64 k, .agg (cc 3 true), .int .i64 (t - 1), .int .i64 (t - 1), .bool true] W fun e w' => e = .returned (.agg (cc 0 false)) ∧ Below W.heap.size W w') := Lib.hid (fun W => step_v (if_pos ⟨by omega, by omega⟩) (if_pos ⟨by omega, by omega⟩) W)
        have HF : Hid (∀ m, (Cu.st t k L [] m).2 = true → (Cu.st (t - e) k L [] m).2 = true) := Lib.hid (fun m => (Cu.lesser (show t - e ≤ t by omega) L m).2.2)
        clear hA2 HA HN HT
        go_upto_region 14 with (first
          | (go_at_call 9; (with_reducible refine (C1.out _ HB.out).mono ?_); rintro x W1 ⟨⟨g1, rfl, -, hc⟩, hb⟩; have HR := Lib.hid hb; have H1 := Lib.hid hc; replace HB := Lib.hid (HB.out.trans (hb.mono HB.out.size)); clear hb hc C1)
          | (go_at_call 9; (with_reducible refine (C2.out _ HR.out).mono ?_); rintro x W2 ⟨⟨g2, rfl, -, hc⟩, hb⟩; have H2 := Lib.hid hc; replace H1 := Lib.hid (H1.out.grow hb); replace HB := Lib.hid (HB.out.trans (hb.mono HB.out.size)); clear hb hc C2 HR)
          | (go_at_call 9; (with_reducible refine (C3.out _ HB.out).mono ?_); rintro x W3 ⟨⟨g3, rfl, -, hc⟩, hb⟩; have HR : Hid (T3 w W3 g1 g2 g3 m (fun m => Cu.st t k L [] (m + 1)) (fun m => Cu.st (t - e) k L [] (m + 1))) := Lib.hid ⟨HB.out.trans (hb.mono HB.out.size), H1.out.grow hb, H2.out.grow hb, hc⟩; clear hb hc C3 HB H1 H2)
          | fail)
        go_wp2_with (first | go_big_skip | fail)
        go_loopw [17] (fun j wr => ∃ i : Nat, i ≤ m ∧ j = .int .i64 i ∧ T3 w wr g1 g2 g3 m (fun m => Cu.st t k L [] (m + 1)) (fun m => Cu.st (t - e) k L [] (m + 1))) (fun j _ => m - (intOf j).toNat)
        case atStart => exact ⟨0, Nat.zero_le _, rfl, HR.out⟩
        case round =>
          clear HR
          obtain ⟨i, hi, rfl, hw⟩ := hrel
          have HR := Lib.hid hw
          clear hw
          by_cases hlt : i < m
          · have hlt2 : (i : Int) < m := by omega
            have hlt3 : decide (m ≤ i) = false := decide_eq_false (by omega)
            obtain ⟨p, hp⟩ : ∃ p, (Cu.st t k L [] (i + 1)).1 = p := ⟨_, rfl⟩
            obtain ⟨u, hu⟩ : ∃ u, (Cu.st t k L [] (i + 1)).2 = u := ⟨_, rfl⟩
            obtain ⟨r, hr⟩ : ∃ r, (Cu.st (t - e) k L [] (i + 1)).1 = r := ⟨_, rfl⟩
            obtain ⟨x, hx⟩ : ∃ x, (Cu.st (t - e) k L [] (i + 1)).2 = x := ⟨_, rfl⟩
            have hux := HF.out (i + 1)
            rw [hu, hx] at hux
            have HS : Hid (SU g1 g2 g3 i p u x (World.drew _)) := Lib.hid (HR.out.drew.su hlt (show Cu.st t k L [] (i + 1) = (p, u) by rw [← hp, ← hu]) (show Cu.st (t - e) k L [] (i + 1) = (r, x) by rw [← hr, ← hx]))
            clear hp hu hr hx
            go_upto_region 19 with fail
            refine wp_region_noPanic (Lk.wp_region_ordered ord_u (SU g1 g2 g3 i p u x) (by kernel_rfl) (by kernel_rfl) (fun _ _ _ _ _ h => h) HS.out ?_)
            replace HR := Lib.hid HR.out.drew
            clear HS
            cases u
            · clear hux
              iterate 16 (refine Lk.ord_take ?_ rfl rfl ?_ ?_; rotate_left; (focus (intro w' hS; obtain ⟨s1, s2, s3, s4⟩ := hS; first | (refine (rM _ rfl _ _ rfl s1).trans ?_; with_reducible rfl) | (refine (rM _ rfl _ _ rfl s2).trans ?_; with_reducible rfl) | (refine (rN _ _ rfl rfl rfl).trans ?_; with_reducible rfl) | (go_simp; try with_reducible rfl))); simp only [Act.put, List.setIfInBounds_toArray, List.set_cons_zero, List.set_cons_succ])
              iterate 6 (refine Lk.ord_skip rfl rfl ?_; simp only [Act.put, List.setIfInBounds_toArray, List.set_cons_zero, List.set_cons_succ])
              iterate 2 (refine Lk.ord_take ?_ rfl rfl ?_ ?_; rotate_left; (focus (intro w' hS; obtain ⟨s1, s2, s3, s4⟩ := hS; first | (refine (rM _ rfl _ _ rfl s1).trans ?_; with_reducible rfl) | (refine (rM _ rfl _ _ rfl s2).trans ?_; with_reducible rfl) | (refine (rN _ _ rfl rfl rfl).trans ?_; with_reducible rfl) | (go_simp; try with_reducible rfl))); simp only [Act.put, List.setIfInBounds_toArray, List.set_cons_zero, List.set_cons_succ])
              refine Lk.ord_nil (NoPanic.normal ?_)
              go_wp2_with fail
              go_roundw
              case rel => exact ⟨i + 1, by omega, by go_num, HR.out⟩
              case measure => simp only [intOf, Int.toNat_natCast]; omega
            · obtain rfl := hux rfl
              clear hux
              iterate 24 (refine Lk.ord_take ?_ rfl rfl ?_ ?_; rotate_left; (focus (intro w' hS; obtain ⟨s1, s2, s3, s4⟩ := hS; first | (refine (rM _ rfl _ _ rfl s1).trans ?_; with_reducible rfl) | (refine (rM _ rfl _ _ rfl s2).trans ?_; with_reducible rfl) | (refine (rN _ _ rfl rfl rfl).trans ?_; with_reducible rfl) | (go_simp; try with_reducible rfl))); simp only [Act.put, List.setIfInBounds_toArray, List.set_cons_zero, List.set_cons_succ])
              refine Lk.ord_nil (NoPanic.normal ?_)
              go_wp2_with fail
              go_roundw
              case rel => exact ⟨i + 1, by omega, by go_num, HR.out⟩
              case measure => simp only [intOf, Int.toNat_natCast]; omega
          · obtain rfl : i = m := by omega
            go_wp2_with (first
              | (go_at_call 12; (with_reducible refine (C4.out _).mono ?_); rintro x W4 ⟨rfl, hb⟩; have HB := Lib.hid (HR.out.old.trans (hb.mono HR.out.old.size)); clear hb)
              | fail)
            go_ret
            exact ⟨rfl, HB.out⟩
  · have k2 : decide ((200 : Int) < n) = true := decide_eq_true (by omega)
    clear hA hn h200
    go_enter Try.func6, Try.ntmps6
    go_wp2_with (first
      | (go_at_call 8; (with_reducible refine (AW.out _).mono ?_); rintro e W ⟨rfl, hb⟩; replace HB := Lib.hid (HB.out.trans (hb.mono HB.out.size)); clear hb)
      | fail)
    go_ret
    exact ⟨rfl, HB.out⟩
theorem CutoffTurns_walk (t : Nat) (ht : t < 65536) (k : Nat) (hk : k < 256) (A : Option Addr) (L : List (Int × Int)) (c : Nat) (e : Nat) (he : e < 256) (w : World) (hA : Prs w A L) :
    Calls Try.prog 6 #[.int .u16 t, .int .u8 k, .slice A L.length c, .int .u8 e] w fun e w' => e = .returned (.bool true) ∧ Below w.heap.size w w' := turns_go t e k (by omega) (by omega) hk (by omega) (by omega) A _ c L rfl w hA
end Ow
end Go.Proofs.Ytdfihcbmojggoaa
