/- The small functions of package plant: number, where, the methods, comesTo, what goes on, burns, fastest, end. -/
import Derived.Test.YtioiffhbbhlgeaaPlantIn
import Derived.Test.YtioiffhbbhlgeaaTabAt2
import Derived.Test.YtioiffhbbhlgeaaOrdKit
import Derived.BigQuiet
import Derived.Lib.MinMax
import Derived.Handy
namespace Go.Proofs.Ytioiffhbbhlgeaa
namespace Plw
open Go.RowKit TabC Lk Ew

theorem number_c (n : Int) (w : World) : Calls Try.prog 32 #[.int .i64 n] w fun r w' => r = .returned (.int .i64 (Pl.num n)) ∧ w = w' := by
  rw [← clamp_num]
  go_enter Try.func32, Try.ntmps32
  go_wp2_with (first | (go_at_call 57; (with_reducible refine (FixC.clamp_c _ _ _ _).mono ?_); rintro e w' ⟨rfl, rfl⟩) | fail)
  go_ret
  exact ⟨rfl, rfl⟩
theorem where_c (b : Bool) (n : Int) (w : World) : Calls Try.prog 33 #[.bool b, .int .i64 n] w fun r w' => r = .returned (.int .i64 (if b = true then n else 0)) ∧ w = w' := by
  cases b
  all_goals
    go_enter Try.func33, Try.ntmps33
    go_wp2_with fail
    go_ret
    exact ⟨rfl, rfl⟩

/-- An engine's methods. -/
theorem one_q (w : World) (e : Eg) : Hv w (w.alloc (qo e)) [(w.heap.size, qo e)] := (Hv.nil w).made (qo e)
set_option maxHeartbeats 1000000 in
theorem n2_c (e : Eg) (x : Int) (w : World) (hT : TabIn w e.p.A e.p.B e.p.xs e.p.ys) : Calls Try.prog 36 #[.agg (ec e), .int .i64 x] w fun r w' => r = .returned (.int .i64 (Tb.atv e.p.xs e.p.ys x)) ∧ Below w.heap.size w w' := by
  have HV := Lib.hid (one_q w e)
  have C := Lib.hid (fun W (h : Below w.heap.size w W) => atv_c e.p.A e.p.B e.p.ca e.p.cb e.p.xs e.p.ys x W (hT.below h))
  generalize Tb.atv e.p.xs e.p.ys x = v at *
  have c0 := Joins.cell_of_block HV.out.head 2
  have c1 := Joins.cell_of_block HV.out.head 3
  simp only [List.getElem?_toArray, List.getElem?_cons_zero, List.getElem?_cons_succ] at c0 c1
  clear hT
  go_enter Try.func36, Try.ntmps36
  go_wp2_with (first | (go_at_call 20; (with_reducible refine (C.out _ HV.out.old).mono ?_); rintro r W ⟨rfl, hb⟩; replace HV := Lib.hid (HV.out.grow hb); clear hb) | fail)
  go_ret
  exact ⟨rfl, HV.out.old⟩
set_option maxHeartbeats 1000000 in
theorem n1_c (e : Eg) (x : Int) (w : World) (hT : TabIn w e.q.A e.q.B e.q.xs e.q.ys) : Calls Try.prog 37 #[.agg (ec e), .int .i64 x] w fun r w' => r = .returned (.int .i64 (Tb.atv e.q.xs e.q.ys x)) ∧ Below w.heap.size w w' := by
  have HV := Lib.hid (one_q w e)
  have C := Lib.hid (fun W (h : Below w.heap.size w W) => atv_c e.q.A e.q.B e.q.ca e.q.cb e.q.xs e.q.ys x W (hT.below h))
  generalize Tb.atv e.q.xs e.q.ys x = v at *
  have c0 := Joins.cell_of_block HV.out.head 4
  have c1 := Joins.cell_of_block HV.out.head 5
  simp only [List.getElem?_toArray, List.getElem?_cons_zero, List.getElem?_cons_succ] at c0 c1
  clear hT
  go_enter Try.func37, Try.ntmps37
  go_wp2_with (first | (go_at_call 20; (with_reducible refine (C.out _ HV.out.old).mono ?_); rintro r W ⟨rfl, hb⟩; replace HV := Lib.hid (HV.out.grow hb); clear hb) | fail)
  go_ret
  exact ⟨rfl, HV.out.old⟩
set_option maxHeartbeats 1000000 in
theorem heat_c (e : Eg) (x : Int) (w : World) (hT : TabIn w e.h.A e.h.B e.h.xs e.h.ys) : Calls Try.prog 38 #[.agg (ec e), .int .i64 x] w fun r w' => r = .returned (.int .i64 (Tb.atv e.h.xs e.h.ys x)) ∧ Below w.heap.size w w' := by
  have HV := Lib.hid (one_q w e)
  have C := Lib.hid (fun W (h : Below w.heap.size w W) => atv_c e.h.A e.h.B e.h.ca e.h.cb e.h.xs e.h.ys x W (hT.below h))
  generalize Tb.atv e.h.xs e.h.ys x = v at *
  have c0 := Joins.cell_of_block HV.out.head 6
  have c1 := Joins.cell_of_block HV.out.head 7
  simp only [List.getElem?_toArray, List.getElem?_cons_zero, List.getElem?_cons_succ] at c0 c1
  clear hT
  go_enter Try.func38, Try.ntmps38
  go_wp2_with (first | (go_at_call 20; (with_reducible refine (C.out _ HV.out.old).mono ?_); rintro r W ⟨rfl, hb⟩; replace HV := Lib.hid (HV.out.grow hb); clear hb) | fail)
  go_ret
  exact ⟨rfl, HV.out.old⟩

/-- Where a part comes to, by fuel that burns, or else without. -/
theorem comes2_c (e : Eg) (f : Int) (lit : Bool) (wo : Int) (w : World) (hT : TabIn w e.p.A e.p.B e.p.xs e.p.ys) : Calls Try.prog 35 #[mf2 e, .int .i64 f, .bool lit, .int .i64 wo] w fun r w' => r = .returned (.int .i64 (if lit = true then Tb.atv e.p.xs e.p.ys f else wo)) ∧ Below w.heap.size w w' := by
  have C := Lib.hid (n2_c e f w hT)
  generalize Tb.atv e.p.xs e.p.ys f = v at *
  clear hT
  cases lit
  · go_enter Try.func35, Try.ntmps35
    go_wp2_with fail
    go_ret
    exact ⟨rfl, Below.refl _ _⟩
  · go_enter Try.func35, Try.ntmps35
    go_wp2_with (first | (go_at_call 36; (with_reducible refine C.out.mono ?_); rintro r W ⟨rfl, hb⟩; have HB := Lib.hid hb; clear hb) | fail)
    go_ret
    exact ⟨rfl, HB.out⟩
theorem comesh_c (e : Eg) (f : Int) (lit : Bool) (wo : Int) (w : World) (hT : TabIn w e.h.A e.h.B e.h.xs e.h.ys) : Calls Try.prog 35 #[mfh e, .int .i64 f, .bool lit, .int .i64 wo] w fun r w' => r = .returned (.int .i64 (if lit = true then Tb.atv e.h.xs e.h.ys f else wo)) ∧ Below w.heap.size w w' := by
  have C := Lib.hid (heat_c e f w hT)
  generalize Tb.atv e.h.xs e.h.ys f = v at *
  clear hT
  cases lit
  · go_enter Try.func35, Try.ntmps35
    go_wp2_with fail
    go_ret
    exact ⟨rfl, Below.refl _ _⟩
  · go_enter Try.func35, Try.ntmps35
    go_wp2_with (first | (go_at_call 38; (with_reducible refine C.out.mono ?_); rintro r W ⟨rfl, hb⟩; have HB := Lib.hid hb; clear hb) | fail)
    go_ret
    exact ⟨rfl, HB.out⟩

/-- What goes on, as it is made; as it is asked. -/
theorem goes_c (D : Int) (W : World) : Calls Try.prog 30 #[.int .i64 D] W fun r w' => r = .returned (gf W.heap.size) ∧ w' = W.alloc (xo D) := by
  go_enter Try.func30, Try.ntmps30
  go_wp2
  go_ret
  exact ⟨rfl, rfl⟩
theorem quo_in {d lag : Int} (h : 1 ≤ lag) (h0 : -1048576 ≤ d) (h1 : d ≤ 1048576) : -1048576 ≤ d.tdiv lag ∧ d.tdiv lag ≤ 1048576 := by
  rcases Int.lt_or_le d 0 with c | c
  · rw [show d = -(-d) by omega, Int.neg_tdiv, Int.tdiv_eq_ediv_of_nonneg (by omega)]
    have := Pl.div_le_self h (show 0 ≤ -d by omega)
    omega
  · rw [Int.tdiv_eq_ediv_of_nonneg c]
    have := Pl.div_le_self h c
    omega
theorem rQuo {op : Oper} {u : Act} {w : World} {a b q : Int} (s t : Operand) (ho : op.op = .binOp .quo 3 s t 3) (hs : u.eval s = .int .i64 a) (ht : u.eval t = .int .i64 b) (hb : ¬ b = 0) (hw : IntKind.i64.wrap (a.tdiv b) = q) :
    (execOp u.eval op).run Try.prog w = .ok (.value (.int .i64 q)) w := by
  unfold execOp
  simp only [ho, hs, ht]
  simp [go_sem, hb, hw]
theorem ord_on : Lk.orderedB (Lk.opsOf Try.f56 2) [(0, false), (1, false), (2, false), (3, false), (4, false), (5, false), (6, false), (7, false), (8, false), (9, false), (10, false), (11, true), (12, false), (13, true), (14, false)] = true := by kernel_rfl
set_option maxHeartbeats 1000000 in
theorem on_c (D x t lag g : Int) (b : Nat) (w : World) (hb : w.heap[b]? = some (xo D)) (h0 : 0 ≤ D) (h1 : D ≤ 1048576) (hl : 1 ≤ lag) (ht : 0 ≤ t) (ht1 : t ≤ 1048576) :
    Calls Try.prog 56 #[.int .i64 x, .int .i64 t, .int .i64 lag, .int .i64 g, .pointer (some ⟨b, 0, none⟩)] w fun r w' => r = .returned (.int .i64 (Pl.on D lag x t g)) ∧ Below w.heap.size w w' := by
  have HV := Lib.hid ((Hv.nil w).add (b, xo D) hb)
  have c0 := Joins.cell_of_block hb 0
  simp only [List.getElem?_toArray, List.getElem?_cons_zero] at c0
  obtain ⟨y, hy⟩ : ∃ y, Pl.num x = y := ⟨_, rfl⟩
  obtain ⟨q, hq⟩ : ∃ q, (t - y).tdiv lag = q := ⟨_, rfl⟩
  obtain ⟨u, hu⟩ : ∃ u, Pl.gs D g = u := ⟨_, rfl⟩
  obtain ⟨v, hv⟩ : ∃ v, Pl.num (y + q + u) = v := ⟨_, rfl⟩
  have by1 := Pl.num_in x
  rw [hy] at by1
  have bq := quo_in (d := t - y) hl (by omega) (by omega)
  rw [hq] at bq
  have bu := Pl.gs_in h0 g
  rw [hu] at bu
  have ev : Pl.on D lag x t g = v := by rw [Pl.on, hy, hq, hu, hv]
  have CN : Hid (∀ W, Calls Try.prog 32 #[.int .i64 x] W fun r w' => r = .returned (.int .i64 y) ∧ W = w') := Lib.hid (fun W => hy ▸ number_c x W)
  have CM : Hid (∀ W, Calls Try.prog 32 #[.int .i64 (y + q + u)] W fun r w' => r = .returned (.int .i64 v) ∧ W = w') := Lib.hid (fun W => hv ▸ number_c _ W)
  have CC : Hid (∀ W, Calls Try.prog 57 #[.int .i64 g, .int .i64 (-D), .int .i64 D] W fun r w' => r = .returned (.int .i64 u) ∧ W = w') := Lib.hid (fun W => by rw [← hu, ← clamp_gs h0 h1]; exact FixC.clamp_c g (-D) D W)
  have m1 : IntKind.i64.wrap (t - y) = t - y := IntWalk.i64_in _ (by omega)
  have m2 : IntKind.i64.wrap ((t - y).tdiv lag) = q := by rw [hq]; exact IntWalk.i64_in _ (by omega)
  have m3 : IntKind.i64.wrap (y + q) = y + q := IntWalk.i64_in _ (by omega)
  have m4 : IntKind.i64.wrap (-D) = -D := IntWalk.i64_in _ (by omega)
  have m5 : IntKind.i64.wrap (y + q + u) = y + q + u := IntWalk.i64_in _ (by omega)
  have hz : ¬ lag = 0 := by omega
  rw [ev]
  clear hb h0 h1 hl ht ht1 hy hq hu hv by1 bq bu ev
  go_enter Try.func56, Try.ntmps56
  go_wp2_with (first | (go_at_call 32; (with_reducible refine (CN.out _).mono ?_); rintro r W ⟨rfl, rfl⟩) | fail)
  refine wp_region_noPanic (Lk.wp_region_ordered ord_on (fun V => V.cell? ⟨b, 0, none⟩ = some (.int .i64 D)) (by kernel_rfl) (by kernel_rfl) (fun _ _ _ _ _ h => h) (by exact c0) ?_)
  replace HV := Lib.hid HV.out.drew
  iterate 11 (refine Lk.ord_take ?_ rfl rfl ?_ ?_; rotate_left; (focus (intro w' hS; (try dsimp only at hS); first | (refine (rQuo _ _ rfl rfl rfl hz m2).trans ?_; with_reducible rfl) | (go_simp; try with_reducible rfl))); simp only [Act.put, List.setIfInBounds_toArray, List.set_cons_zero, List.set_cons_succ])
  refine Lk.ord_step rfl rfl (fun K hK => ?_)
  go_simp
  (with_reducible refine (CC.out _).mono ?_)
  rintro r W ⟨rfl, rfl⟩
  refine hK.out _ _ (Joins.cell_of_block HV.out.head 0) ?_
  clear hK K
  try simp only [Act.put, List.setIfInBounds_toArray, List.set_cons_zero, List.set_cons_succ]
  iterate 1 (refine Lk.ord_take ?_ rfl rfl ?_ ?_; rotate_left; (focus (intro w' hS; (try dsimp only at hS); (go_simp; try with_reducible rfl))); simp only [Act.put, List.setIfInBounds_toArray, List.set_cons_zero, List.set_cons_succ])
  refine Lk.ord_step rfl rfl (fun K hK => ?_)
  go_simp
  (with_reducible refine (CM.out _).mono ?_)
  rintro r W ⟨rfl, rfl⟩
  refine hK.out _ _ (Joins.cell_of_block HV.out.head 0) ?_
  clear hK K
  try simp only [Act.put, List.setIfInBounds_toArray, List.set_cons_zero, List.set_cons_succ]
  iterate 1 (refine Lk.ord_take ?_ rfl rfl ?_ ?_; rotate_left; (focus (intro w' hS; (try dsimp only at hS); (go_simp; try with_reducible rfl))); simp only [Act.put, List.setIfInBounds_toArray, List.set_cons_zero, List.set_cons_succ])
  refine Lk.ord_nil (NoPanic.normal ?_)
  go_wp2_with fail
  go_ret
  exact ⟨rfl, HV.out.old⟩

/-- Whether it burns. -/
def lit (e : Eg) (p : Pl.Pt) (d : Pl.Dr) (f : Int) : Bool := decide (e.lean ≤ f) && !d.blow && (p.lit || (d.ign && decide (e.light ≤ p.n2)))
theorem three_b (w : World) (e : Eg) (p : Pl.Pt) (d : Pl.Dr) : Hv w (((w.alloc (eo e)).alloc (po p)).alloc (dro d)) [(w.heap.size + 1 + 1, dro d), (w.heap.size + 1, po p), (w.heap.size, eo e)] := by
  have := (((Hv.nil w).made (eo e)).made (po p)).made (dro d)
  simpa only [World.size_alloc] using this
set_option maxRecDepth 100000 in
set_option maxHeartbeats 4000000 in
theorem burns_c (e : Eg) (p : Pl.Pt) (d : Pl.Dr) (f : Int) (w : World) : Calls Try.prog 34 #[.agg (ec e), .agg (pc p), .agg (dc d), .int .i64 f] w fun r w' => r = .returned (.bool (lit e p d f)) ∧ Below w.heap.size w w' := by
  have HV := Lib.hid (three_b w e p d)
  have a1 := Joins.cell_of_block HV.out.h3 14
  have a2 := Joins.cell_of_block HV.out.h3 13
  have a3 := Joins.cell_of_block HV.out.h2 4
  have a4 := Joins.cell_of_block HV.out.h2 1
  have a5 := Joins.cell_of_block HV.out.head 2
  have a6 := Joins.cell_of_block HV.out.head 7
  simp only [List.getElem?_toArray, List.getElem?_cons_zero, List.getElem?_cons_succ] at a1 a2 a3 a4 a5 a6
  obtain ⟨p1, p2, p3, p4, pl⟩ := p
  obtain ⟨d1, d2, d3, d4, d5, d6, d7, d8⟩ := d
  unfold lit
  simp only at a1 a2 a3 a4 a5 a6 ⊢
  have HB := Lib.hid HV.out.old
  clear HV
  rcases Int.lt_or_le f e.lean with c | c
  · rw [decide_eq_false (show ¬ e.lean ≤ f by omega)]
    have k1 : decide (f < e.lean) = true := decide_eq_true c
    clear c
    go_enter Try.func34, Try.ntmps34
    go_wp2_with (first | go_big_skip | fail)
    go_ret
    exact ⟨rfl, HB.out⟩
  · rw [decide_eq_true c]
    have k1 : decide (f < e.lean) = false := decide_eq_false (by omega)
    clear c
    cases d8
    · cases pl
      · cases d3
        · go_enter Try.func34, Try.ntmps34
          go_wp2_with (first | go_big_skip | fail)
          go_ret
          exact ⟨rfl, HB.out⟩
        · go_enter Try.func34, Try.ntmps34
          go_wp2_with (first | go_big_skip | fail)
          go_ret
          exact ⟨by simp, HB.out⟩
      · go_enter Try.func34, Try.ntmps34
        go_wp2_with (first | go_big_skip | fail)
        go_ret
        exact ⟨rfl, HB.out⟩
    · go_enter Try.func34, Try.ntmps34
      go_wp2_with (first | go_big_skip | fail)
      go_ret
      exact ⟨rfl, HB.out⟩
end Plw
end Go.Proofs.Ytioiffhbbhlgeaa
