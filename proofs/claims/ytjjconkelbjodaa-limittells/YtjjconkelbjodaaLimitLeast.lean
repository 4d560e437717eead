/- limit.Least: the least that three values leave, and which one does. -/
import Derived.Test.YtjjconkelbjodaaScheduleCheck
import Derived.Test.YtjjconkelbjodaaFloKit
import Derived.Test.YtjjconkelbjodaaLimitCalls
import Derived.ChangeKeysEq
import Derived.Laws.StructEq
namespace Go.Proofs.Ytjjconkelbjodaa
namespace Lw5
open Go.RowKit FixC Lk Ew Hw

/-- What a limiter leaves, and whether that is less; three of them. -/
abbrev vc (t : Int) (b : Bool) : Array Value := #[.int .i64 t, .bool b]
abbrev vo (t : Int) (b : Bool) : Obj := .cells (vc t b) 50 (0, 0)
abbrev ac (t1 t2 t3 : Int) (b1 b2 b3 : Bool) : Array Value := #[.int .i64 t1, .bool b1, .int .i64 t2, .bool b2, .int .i64 t3, .bool b3]
abbrev ao (t1 t2 t3 : Int) (b1 b2 b3 : Bool) : Obj := .cells (ac t1 t2 t3 b1 b2 b3) 52 (0, 0)
theorem info_v : (Try.prog.info? 50).map (·.size) = some 2 := by kernel_rfl
theorem info_a : (Try.prog.info? 52).map (·.size) = some 6 := by kernel_rfl
theorem vc_one (t : Int) (b : Bool) : (vc t b).all (·.oneCell') = true := by simp [vc, Value.oneCell']
theorem ac_one (t1 t2 t3 : Int) (b1 b2 b3 : Bool) : (ac t1 t2 t3 b1 b2 b3).all (·.oneCell') = true := by simp [ac, Value.oneCell']
theorem res_v {fn : Func} {p : Tmp} (h : fn.results = #[.cell p 50]) (tmps : Array Value) (w : World) (g : Nat) (t : Int) (b : Bool) (hp : tmps.getD p undef = .pointer (some ⟨g, 0, none⟩)) (hP : w.heap[g]? = some (vo t b)) :
    (results fn tmps).run Try.prog w = .ok (.agg (vc t b)) w := by
  have hp' : tmps[p]?.getD undef = .pointer (some ⟨g, 0, none⟩) := by simpa using hp
  simp [results, h, hp', asAddr, run_loadVar_row (P := Try.prog) w g 50 50 (vc t b) (0, 0) _ hP Try.underlying50 rfl info_v]
section
variable {ops : Array Oper} {rest : List Oper} {op : Oper} {a : Act} {w : World} {Q : Exit → Act → World → Prop}
theorem ldv (hw : Region.wanted op (yielded ops a.tmps) = true) (x : Operand) (ho : op.op = .load 50 x)
    (g : Nat) (t : Int) (b : Bool) (hx : a.eval x = .pointer (some ⟨g, 0, none⟩)) (hP : w.heap[g]? = some (vo t b))
    (c : wpList Try.prog ops Q rest (a.put op.dst (.agg (vc t b))) w) : wpList Try.prog ops Q (op :: rest) a w :=
  Lk.wanted hw fun _ hK => wp_load_row 50 x ho g hx 50 (vc t b) (0, 0) _ hP Try.underlying50 rfl info_v (hK _ _ c)
theorem lda (hw : Region.wanted op (yielded ops a.tmps) = true) (x : Operand) (ho : op.op = .load 52 x)
    (g : Nat) (t1 t2 t3 : Int) (b1 b2 b3 : Bool) (hx : a.eval x = .pointer (some ⟨g, 0, none⟩)) (hP : w.heap[g]? = some (ao t1 t2 t3 b1 b2 b3))
    (c : wpList Try.prog ops Q rest (a.put op.dst (.agg (ac t1 t2 t3 b1 b2 b3))) w) : wpList Try.prog ops Q (op :: rest) a w :=
  Lk.wanted hw fun _ hK => wp_load_row 52 x ho g hx 52 (ac t1 t2 t3 b1 b2 b3) (0, 0) _ hP Try.underlying52 rfl info_a (hK _ _ c)
theorem stv (hgd : op.guard = none) (x y : Operand) (ho : op.op = .store 50 x y) (hd : op.dst = none)
    (g : Nat) (s : Int) (c : Bool) (t : Int) (b : Bool) (hx : a.eval x = .pointer (some ⟨g, 0, none⟩)) (hy : a.eval y = .agg (vc t b)) (hP : w.heap[g]? = some (vo s c))
    (h : ∀ w', w'.heap[g]? = some (vo t b) → Off g w w' → wpList Try.prog ops Q rest a w') : wpList Try.prog ops Q (op :: rest) a w := by
  refine wpList_plain hgd fun _ hK => wp_store_row 50 x y ho g (vc t b) hx hy 50 (vc s c) hP info_v rfl (vc_one t b) (hK _ _ ?_)
  rw [hd]
  exact h _ (setRow_heap w g (vc s c) (vc t b) 50 (0, 0) hP) (Off.row w g _)
end
theorem eqin_v (t s : Int) (b c : Bool) (w : World) : (Op.equalIn 10000 50 (.agg (vc t b)) (.agg (vc s c))).run Try.prog w = .ok (t == s && b == c) w := by
  simp [go_sem, vc]
  by_cases h1 : t = s <;> by_cases h2 : b = c <;> simp [h1, h2]
theorem eq_v (t s : Int) (b c : Bool) (w : World) : (binOp .eql 50 (.agg (vc t b)) (.agg (vc s c))).run Try.prog w = .ok (.bool (t == s && b == c)) w := by
  rw [run_eql_struct, eqin_v]
  rfl

theorem trim_v {v r m f l t : Int} (h : Lt.trim v r m f l = t) (w : World) : Calls Try.prog 9 #[.int .i64 v, .int .i64 r, .int .i64 m, .int .i64 f, .int .i64 l] w fun e w' => e = .returned (.int .i64 t) ∧ w = w' := h ▸ trim_c v r m f l w

/-- The closure: one limiter's part. -/
theorem leave_c {w W : World} (l : Lg) (g1 g2 g3 : Nat) (f n v r t : Int) (b : Bool) (L : List (Nat × Obj)) (hv : Hv w W L) (h1 : (g1, lo l) ∈ L) (h2 : (g2, nob f) ∈ L) (h3 : (g3, nob n) ∈ L) (ht : Lt.trim v r l.margin f n = t) (hb : decide (t < Fx.sat f) = b) :
    Calls Try.prog 23 #[.int .i64 v, .int .i64 r, .pointer (some ⟨g1, 0, none⟩), .pointer (some ⟨g2, 0, none⟩), .pointer (some ⟨g3, 0, none⟩)] W fun e w' => e = .returned (.agg (vc t b)) ∧ Hv w w' L := by
  have HV := Lib.hid (hv.made (vo 0 false))
  have HL := Lib.hid hv
  obtain ⟨F, eF⟩ : ∃ x, Fx.sat f = x := ⟨_, rfl⟩
  rw [eF] at hb
  have CT := Lib.hid (trim_v ht)
  have CS := Lib.hid (sat_v eF)
  have k1 := (lfld (HV.out.has _ (List.mem_cons_of_mem _ h1))).2.2.2.2.2.2.2.2.2.1
  have k2 := Joins.cell_of_block (HV.out.has _ (List.mem_cons_of_mem _ h2)) 0
  have k3 := Joins.cell_of_block (HV.out.has _ (List.mem_cons_of_mem _ h3)) 0
  simp only [List.getElem?_toArray, List.getElem?_cons_zero] at k1 k2 k3
  have HB : Hid (∀ w', Off W.heap.size (W.alloc (vo 0 false)) w' → Hv w w' L) := fun w' ho => (HL.out.alloc _).off ho (fun e he => by have := HL.out.lt he; omega) HL.out.old.size
  clear hv h1 h2 h3 ht eF HL
  go_enter Try.func23, Try.ntmps23
  go_wp2_with (first | (go_at_call 9; (with_reducible refine (CT.out _).mono ?_); rintro e w' ⟨rfl, rfl⟩) | (go_at_call 18; (with_reducible refine (CS.out _).mono ?_); rintro e w' ⟨rfl, rfl⟩) | (refine stv rfl _ _ rfl rfl _ 0 false t b rfl (by rw [← hb]; rfl) HV.out.head ?_; intro W6 hP hO; have HP := Lib.hid hP; have HO := Lib.hid (HB.out _ hO); clear hP hO) | fail)
  refine bodyPost_ret (res_v rfl _ _ _ t b rfl HP.out) rfl ?_
  exact ⟨rfl, HO.out⟩

theorem three_b (w : World) (l : Lg) (f n : Int) : Hv w (((w.alloc (lo l)).alloc (nob f)).alloc (nob n)) [(w.heap.size + 1 + 1, nob n), (w.heap.size + 1, nob f), (w.heap.size, lo l)] := by
  have := ((one_l w l).made (nob f)).made (nob n)
  rwa [World.size_alloc, World.size_alloc] at this
theorem cl_ok (l : Lg) (w : World) (hL : LawIn w l) (h : Sd.okB (la l) = true) : Calls Try.prog 16 #[.agg (lc l)] w fun r w' => r = .returned (.int .i64 0) ∧ Below w.heap.size w w' := by
  have := check_c l w hL; rwa [show Sd.err (la l) = 0 from by rw [Sd.err, if_pos h]] at this
theorem cl_no (l : Lg) (w : World) (hL : LawIn w l) (h : Sd.okB (la l) = false) : Calls Try.prog 16 #[.agg (lc l)] w fun r w' => r = .returned (.int .i64 140) ∧ Below w.heap.size w w' := by
  have := check_c l w hL; rwa [show Sd.err (la l) = 140 from by rw [Sd.err, h]; rfl] at this

theorem least_no (l : Lg) (v1 v2 v3 f n : Int) (w : World) (hL : LawIn w l) (h : Sd.okB (la l) = false) :
    Calls Try.prog 12 #[.agg (lc l), .int .i64 v1, .int .i64 v2, .int .i64 v3, .int .i64 f, .int .i64 n] w fun e w' => e = .returned (.tuple #[.int .i64 0, .int .i64 0]) ∧ Below w.heap.size w w' := by
  have HV := Lib.hid (three_b w l f n)
  have C1 := Lib.hid (fun W (hW : Below w.heap.size w W) => cl_no l W (hL.below hW) h)
  clear hL h
  go_enter Try.func12, Try.ntmps12
  go_wp2_with (first | (refine ldl rfl _ rfl _ _ rfl HV.out.h3 ?_) | (go_at_call 16; (with_reducible refine (C1.out _ HV.out.old).mono ?_); rintro r W ⟨rfl, hb⟩; replace HV := Lib.hid (HV.out.grow hb); clear hb) | fail)
  go_ret2
  exact ⟨rfl, HV.out.old⟩

theorem ord_least : Lk.floatB (Lk.opsOf Try.f12 4) 16 15 [(0, false), (1, false), (2, false), (3, false), (5, false), (6, false), (7, false), (8, false), (10, false), (11, false), (12, false), (13, false), (4, true), (9, true), (14, true), (15, false)] [(17, true)] = true := by kernel_rfl

set_option maxRecDepth 100000 in
set_option maxHeartbeats 4000000 in
theorem least_ok (l : Lg) (v1 v2 v3 f n t1 t2 t3 F M : Int) (b1 b2 b3 : Bool) (w : World) (hL : LawIn w l) (h : Sd.okB (la l) = true)
    (e1 : Lt.trim v1 l.red1 l.margin f n = t1) (e2 : Lt.trim v2 l.red2 l.margin f n = t2) (e3 : Lt.trim v3 l.redE l.margin f n = t3) (eF : Fx.sat f = F) (eM : Lt.least t1 t2 t3 = M)
    (d1 : decide (t1 < F) = b1) (d2 : decide (t2 < F) = b2) (d3 : decide (t3 < F) = b3) :
    Calls Try.prog 12 #[.agg (lc l), .int .i64 v1, .int .i64 v2, .int .i64 v3, .int .i64 f, .int .i64 n] w fun e w' => e = .returned (.tuple #[.int .i64 M, .int .i64 (Lt.which t1 t2 t3 F)]) ∧ Below w.heap.size w w' := by
  have HV := Lib.hid (three_b w l f n)
  have C1 := Lib.hid (fun W (hW : Below w.heap.size w W) => cl_ok l W (hL.below hW) h)
  have HLA : Hid (Lt.ladder (-2147483648) [t1, t2, t3] = M) := by
    show _ = _
    rw [← eM]
    exact Lt.low3 (e1 ▸ ⟨(Lt.trim_in ..).1, (Lt.trim_in ..).2.1⟩) (e2 ▸ ⟨(Lt.trim_in ..).1, (Lt.trim_in ..).2.1⟩) (e3 ▸ ⟨(Lt.trim_in ..).1, (Lt.trim_in ..).2.1⟩)
  have Z1 := Lib.hid (fun (L : List (Nat × Obj)) (W : World) (hv : Hv w W L) (h1 : (w.heap.size, lo l) ∈ L) (h2 : (w.heap.size + 1, nob f) ∈ L) (h3 : (w.heap.size + 1 + 1, nob n) ∈ L) => leave_c (w := w) (W := W) l _ _ _ f n v1 l.red1 t1 b1 L hv h1 h2 h3 e1 (eF ▸ d1))
  have Z2 := Lib.hid (fun (L : List (Nat × Obj)) (W : World) (hv : Hv w W L) (h1 : (w.heap.size, lo l) ∈ L) (h2 : (w.heap.size + 1, nob f) ∈ L) (h3 : (w.heap.size + 1 + 1, nob n) ∈ L) => leave_c (w := w) (W := W) l _ _ _ f n v2 l.red2 t2 b2 L hv h1 h2 h3 e2 (eF ▸ d2))
  have Z3 := Lib.hid (fun (L : List (Nat × Obj)) (W : World) (hv : Hv w W L) (h1 : (w.heap.size, lo l) ∈ L) (h2 : (w.heap.size + 1, nob f) ∈ L) (h3 : (w.heap.size + 1 + 1, nob n) ∈ L) => leave_c (w := w) (W := W) l _ _ _ f n v3 l.redE t3 b3 L hv h1 h2 h3 e3 (eF ▸ d3))
  have HE := Lib.hid (And.intro eM (And.intro d1 (And.intro d2 d3)))
  clear hL h e1 e2 e3 eF eM d1 d2 d3
  go_enter Try.func12, Try.ntmps12
  go_upto_region 4 with (first | (refine ldl rfl _ rfl _ _ rfl HV.out.h3 ?_) | (go_at_call 16; (with_reducible refine (C1.out _ HV.out.old).mono ?_); rintro r W ⟨rfl, hb⟩; replace HV := Lib.hid (HV.out.grow hb); clear hb C1) | fail)
  refine wp_region_noPanic (Lk.wp_region_floating ord_least (fun V => LFld V w.heap.size l) (Lk.FT w (ao 0 0 0 false false false) [(w.heap.size + 1 + 1, nob n), (w.heap.size + 1, nob f), (w.heap.size, lo l)] (w.heap.size + 1 + 1)) (ao 0 0 0 false false false) (by kernel_rfl) (by kernel_rfl) (fun _ _ _ _ _ h => h) ?hA (Lk.FT.flo (x := nob n) (by simp) fun om V hv => lfld (hv.has (w.heap.size, lo l) (by simp))) (Lk.FT.zero HV.out.drew) ?_)
  case hA =>
    intro o ho a W1
    injection ho with ho
    subst ho
    go_simp
  iterate 12 (refine Lk.flo_take ?_ rfl (by decide) (fun _ => rfl) ?_ ?_; rotate_left; (focus (intro x w' hS; (try dsimp only at hS); simp only [Act.put, List.setIfInBounds_toArray, List.set_cons_zero, List.set_cons_succ]; go_simp; try with_reducible rfl)); simp only [Act.put, List.setIfInBounds_toArray, List.set_cons_zero, List.set_cons_succ])
  refine Lk.flo_step (.agg (vc t1 b1)) (Lk.FT w (ao 0 0 0 false false false) [(w.heap.size + 1 + 1, nob n), (w.heap.size + 1, nob f), (w.heap.size, lo l)] (w.heap.size + 1 + 1)) (Lk.FT.flo (x := nob n) (by simp) fun om V hv => lfld (hv.has (w.heap.size, lo l) (by simp))) rfl (by decide) (fun _ => rfl) ?_ ?_
  · intro om x W2 hT K hK
    simp only [Act.put, List.setIfInBounds_toArray, List.set_cons_zero, List.set_cons_succ]
    go_simp
    (with_reducible refine (Z1.out _ _ hT.hv (by simp) (by simp) (by simp)).mono ?_)
    rintro r W3 ⟨rfl, hv⟩
    exact hK.out _ _ rfl (hT.go hv)
  simp only [Act.put, List.setIfInBounds_toArray, List.set_cons_zero, List.set_cons_succ]
  refine Lk.flo_step (.agg (vc t2 b2)) (Lk.FT w (ao 0 0 0 false false false) [(w.heap.size + 1 + 1, nob n), (w.heap.size + 1, nob f), (w.heap.size, lo l)] (w.heap.size + 1 + 1)) (Lk.FT.flo (x := nob n) (by simp) fun om V hv => lfld (hv.has (w.heap.size, lo l) (by simp))) rfl (by decide) (fun _ => rfl) ?_ ?_
  · intro om x W2 hT K hK
    simp only [Act.put, List.setIfInBounds_toArray, List.set_cons_zero, List.set_cons_succ]
    go_simp
    (with_reducible refine (Z2.out _ _ hT.hv (by simp) (by simp) (by simp)).mono ?_)
    rintro r W3 ⟨rfl, hv⟩
    exact hK.out _ _ rfl (hT.go hv)
  simp only [Act.put, List.setIfInBounds_toArray, List.set_cons_zero, List.set_cons_succ]
  refine Lk.flo_step (.agg (vc t3 b3)) (Lk.FT w (ao 0 0 0 false false false) [(w.heap.size + 1 + 1, nob n), (w.heap.size + 1, nob f), (w.heap.size, lo l)] (w.heap.size + 1 + 1)) (Lk.FT.flo (x := nob n) (by simp) fun om V hv => lfld (hv.has (w.heap.size, lo l) (by simp))) rfl (by decide) (fun _ => rfl) ?_ ?_
  · intro om x W2 hT K hK
    simp only [Act.put, List.setIfInBounds_toArray, List.set_cons_zero, List.set_cons_succ]
    go_simp
    (with_reducible refine (Z3.out _ _ hT.hv (by simp) (by simp) (by simp)).mono ?_)
    rintro r W3 ⟨rfl, hv⟩
    exact hK.out _ _ rfl (hT.go hv)
  simp only [Act.put, List.setIfInBounds_toArray, List.set_cons_zero, List.set_cons_succ]
  iterate 1 (refine Lk.flo_take ?_ rfl (by decide) (fun _ => rfl) ?_ ?_; rotate_left; (focus (intro x w' hS; (try dsimp only at hS); simp only [Act.put, List.setIfInBounds_toArray, List.set_cons_zero, List.set_cons_succ]; go_simp; try with_reducible rfl)); simp only [Act.put, List.setIfInBounds_toArray, List.set_cons_zero, List.set_cons_succ])
  refine Lk.flo_nil fun m W2 hT => ?_
  replace HV := Lib.hid hT.end.1
  have hm := hT.end.2
  clear hT Z1 Z2 Z3
  simp only [Act.put, List.setIfInBounds_toArray, List.set_cons_zero, List.set_cons_succ]
  refine Lk.ord_step rfl rfl (fun K hK => ?_)
  refine wp_store_row 52 _ _ rfl m (ac t1 t2 t3 b1 b2 b3) rfl rfl 52 (ac 0 0 0 false false false) HV.out.head info_a rfl (ac_one ..) ?_
  replace HV := Lib.hid (HV.out.change (o' := ao t1 t2 t3 b1 b2 b3) (Off.row _ m (ac t1 t2 t3 b1 b2 b3)) (setRow_heap _ m (ac 0 0 0 false false false) (ac t1 t2 t3 b1 b2 b3) 52 (0, 0) HV.out.head) (by simp; omega) (by omega))
  refine hK.out _ _ (lfld (HV.out.has (w.heap.size, lo l) (by simp))) ?_
  clear hK K
  simp only [Act.put]
  refine Lk.ord_nil (NoPanic.normal ?_)
  generalize hW5 : W2.setRow m (ac t1 t2 t3 b1 b2 b3) = W5 at *
  clear hW5
  have c0 := Joins.cell_of_block HV.out.head 0
  have c2 := Joins.cell_of_block HV.out.head 2
  have c4 := Joins.cell_of_block HV.out.head 4
  simp only [List.getElem?_toArray, List.getElem?_cons_zero, List.getElem?_cons_succ] at c0 c2 c4
  have CL : Hid (Calls Try.prog 14 #[.int .i64 (-2147483648), .slice (some ⟨W5.heap.size, 0, none⟩) 3 3] (W5.alloc (.cells #[.int .i64 t1, .int .i64 t2, .int .i64 t3] 3)) fun e w' => e = .returned (.int .i64 M) ∧ Hv w w' [(m, ao t1 t2 t3 b1 b2 b3), (w.heap.size + 1 + 1, nob n), (w.heap.size + 1, nob f), (w.heap.size, lo l)]) := by
    refine Calls.mono (HLA.out ▸ ladder_c (-2147483648) (some ⟨W5.heap.size, 0, none⟩) 3 [t1, t2, t3] (W5.alloc (ro [t1, t2, t3])) (by simp) (ints_row (heap_alloc_last W5 _))) ?_
    rintro e w' ⟨rfl, rfl⟩
    exact ⟨rfl, HV.out.alloc _⟩
  go_wp2_with (first | (go_at_call 14; (with_reducible refine CL.out.mono ?_); rintro r W6 ⟨rfl, hv⟩; replace HV := Lib.hid hv; clear hv CL c0 c2 c4) | (refine stv rfl _ _ rfl rfl _ 0 false M true rfl rfl (HV.out.made (vo 0 false)).head ?_; intro W7 hP hO; replace HV := Lib.hid (HV.out.put hP hO); clear hP hO) | (refine lda rfl _ rfl _ _ _ _ _ _ _ rfl HV.out.h2 ?_) | fail)
  generalize W6.heap.size = q at *
  have hm1 : (t1 == M && b1 == true) = true → Lt.which t1 t2 t3 F = 1 := by
    have := HE.out
    intro h
    simp only [Bool.and_eq_true, beq_iff_eq] at h
    rw [h.2] at this
    simp only [decide_eq_true_eq] at this
    unfold Lt.which
    rw [if_neg (by omega), if_pos (by omega)]
  have hm2 : (t1 == M && b1 == true) = false → (t2 == M && b2 == true) = true → Lt.which t1 t2 t3 F = 2 := by
    have := HE.out
    intro k h
    simp only [Bool.and_eq_true, beq_iff_eq] at h
    simp only [Bool.and_eq_false_iff, beq_eq_false_iff_ne] at k
    rw [h.2] at this
    simp only [decide_eq_true_eq] at this
    have e1 : t1 ≠ M := fun e => by
      rcases k with k | k
      · exact k e
      · exact k (by rw [← this.2.1]; simp; omega)
    unfold Lt.which
    rw [if_neg (by omega), if_neg (by omega), if_pos (by omega)]
  have hm3 : (t1 == M && b1 == true) = false → (t2 == M && b2 == true) = false → (t3 == M && b3 == true) = true → Lt.which t1 t2 t3 F = 3 := by
    have := HE.out
    intro k j h
    simp only [Bool.and_eq_true, beq_iff_eq] at h
    simp only [Bool.and_eq_false_iff, beq_eq_false_iff_ne] at k j
    rw [h.2] at this
    simp only [decide_eq_true_eq] at this
    have e1 : t1 ≠ M := fun e => by
      rcases k with k | k
      · exact k e
      · exact k (by rw [← this.2.1]; simp; omega)
    have e2 : t2 ≠ M := fun e => by
      rcases j with j | j
      · exact j e
      · exact j (by rw [← this.2.2.1]; simp; omega)
    unfold Lt.which
    rw [if_neg (by omega), if_neg (by omega), if_neg (by omega)]
  have hm0 : (t1 == M && b1 == true) = false → (t2 == M && b2 == true) = false → (t3 == M && b3 == true) = false → Lt.which t1 t2 t3 F = 0 := by
    have := HE.out
    intro k j h
    simp only [Bool.and_eq_false_iff, beq_eq_false_iff_ne] at k j h
    unfold Lt.which
    rw [if_pos]
    have hM := this.1
    unfold Lt.least at hM ⊢
    rcases Int.lt_or_le M F with hlt | hge
    · exfalso
      have e1 : t1 ≠ M := fun e => by
        rcases k with k | k
        · exact k e
        · exact k (by rw [← this.2.1]; simp; omega)
      have e2 : t2 ≠ M := fun e => by
        rcases j with j | j
        · exact j e
        · exact j (by rw [← this.2.2.1]; simp; omega)
      have e3 : t3 ≠ M := fun e => by
        rcases h with h | h
        · exact h e
        · exact h (by rw [← this.2.2.2]; simp; omega)
      omega
    · omega
  have E1 := eq_v t1 M b1 true
  have E2 := eq_v t2 M b2 true
  have E3 := eq_v t3 M b3 true
  obtain ⟨x1, y1⟩ : ∃ x, (t1 == M && b1 == true) = x := ⟨_, rfl⟩
  obtain ⟨x2, y2⟩ : ∃ x, (t2 == M && b2 == true) = x := ⟨_, rfl⟩
  obtain ⟨x3, y3⟩ : ∃ x, (t3 == M && b3 == true) = x := ⟨_, rfl⟩
  rw [y1] at hm1 hm2 hm3 hm0 E1
  rw [y2] at hm2 hm3 hm0 E2
  rw [y3] at hm3 hm0 E3
  have H1 := Lib.hid hm1; have H2 := Lib.hid hm2; have H3 := Lib.hid hm3; have H0 := Lib.hid hm0
  clear y1 y2 y3 hm1 hm2 hm3 hm0 HE HLA hm
  go_loopw [52] (fun i wr => ∃ k : Nat, k ≤ 3 ∧ i = .int .i64 k ∧ Hv w wr [(q, vo M true), (m, ao t1 t2 t3 b1 b2 b3), (w.heap.size + 1 + 1, nob n), (w.heap.size + 1, nob f), (w.heap.size, lo l)] ∧ (0 < k → x1 = false) ∧ (1 < k → x2 = false) ∧ (2 < k → x3 = false)) (fun i _ => 3 - (intOf i).toNat)
  case atStart => exact ⟨0, by omega, rfl, HV.out, by omega, by omega, by omega⟩
  case round =>
    clear HV
    obtain ⟨k, hk, rfl, hv, n1, n2, n3⟩ := hrel
    have HV := Lib.hid hv
    have N1 := Lib.hid n1; have N2 := Lib.hid n2; have N3 := Lib.hid n3
    clear hv n1 n2 n3
    obtain rfl | rfl | rfl | rfl : k = 0 ∨ k = 1 ∨ k = 2 ∨ k = 3 := by omega
    · have i0 : ∀ W, (Instr.index 52 (.agg (ac t1 t2 t3 b1 b2 b3)) (.int .i64 0)).run Try.prog W = .ok (.agg (vc t1 b1)) W := fun _ => by kernel_rfl
      rw [show ((0 : Nat) : Int) = 0 from rfl]
      cases x1 with
      | true =>
        go_wp2_with (first | (refine stv rfl _ _ rfl rfl _ 0 false t1 b1 rfl rfl (HV.out.made (vo 0 false)).head ?_; intro W7 hP hO; replace HV := Lib.hid (HV.out.put hP hO); have cq := Joins.cell_of_block HV.out.h2 0; simp only [List.getElem?_toArray, List.getElem?_cons_zero] at cq; clear hP hO) | (refine ldv rfl _ rfl _ _ _ rfl HV.out.head ?_) | (refine ldv rfl _ rfl _ _ _ rfl HV.out.h2 ?_) | fail)
        try rw [Exit.noGoto_ret]
        go_ret2
        exact ⟨ret_int2 rfl (H1.out  trivial).symm, HV.out.old⟩
      | false =>
        go_wp2_with (first | (refine stv rfl _ _ rfl rfl _ 0 false t1 b1 rfl rfl (HV.out.made (vo 0 false)).head ?_; intro W7 hP hO; replace HV := Lib.hid (HV.out.put hP hO); have cq := Joins.cell_of_block HV.out.h2 0; simp only [List.getElem?_toArray, List.getElem?_cons_zero] at cq; clear hP hO) | (refine ldv rfl _ rfl _ _ _ rfl HV.out.head ?_) | (refine ldv rfl _ rfl _ _ _ rfl HV.out.h2 ?_) | fail)
        go_roundw
        case rel => exact ⟨0 + 1, by omega, by go_num, HV.out.tail, fun _ => trivial, fun h => by omega, fun h => by omega⟩
        case measure => simp [intOf]
    · have i0 : ∀ W, (Instr.index 52 (.agg (ac t1 t2 t3 b1 b2 b3)) (.int .i64 1)).run Try.prog W = .ok (.agg (vc t2 b2)) W := fun _ => by kernel_rfl
      rw [show ((1 : Nat) : Int) = 1 from rfl]
      cases x2 with
      | true =>
        go_wp2_with (first | (refine stv rfl _ _ rfl rfl _ 0 false t2 b2 rfl rfl (HV.out.made (vo 0 false)).head ?_; intro W7 hP hO; replace HV := Lib.hid (HV.out.put hP hO); have cq := Joins.cell_of_block HV.out.h2 0; simp only [List.getElem?_toArray, List.getElem?_cons_zero] at cq; clear hP hO) | (refine ldv rfl _ rfl _ _ _ rfl HV.out.head ?_) | (refine ldv rfl _ rfl _ _ _ rfl HV.out.h2 ?_) | fail)
        try rw [Exit.noGoto_ret]
        go_ret2
        exact ⟨ret_int2 rfl (H2.out (N1.out (by omega)) trivial).symm, HV.out.old⟩
      | false =>
        go_wp2_with (first | (refine stv rfl _ _ rfl rfl _ 0 false t2 b2 rfl rfl (HV.out.made (vo 0 false)).head ?_; intro W7 hP hO; replace HV := Lib.hid (HV.out.put hP hO); have cq := Joins.cell_of_block HV.out.h2 0; simp only [List.getElem?_toArray, List.getElem?_cons_zero] at cq; clear hP hO) | (refine ldv rfl _ rfl _ _ _ rfl HV.out.head ?_) | (refine ldv rfl _ rfl _ _ _ rfl HV.out.h2 ?_) | fail)
        go_roundw
        case rel => exact ⟨1 + 1, by omega, by go_num, HV.out.tail, fun _ => N1.out (by omega), fun _ => trivial, fun h => by omega⟩
        case measure => simp [intOf]
    · have i0 : ∀ W, (Instr.index 52 (.agg (ac t1 t2 t3 b1 b2 b3)) (.int .i64 2)).run Try.prog W = .ok (.agg (vc t3 b3)) W := fun _ => by kernel_rfl
      rw [show ((2 : Nat) : Int) = 2 from rfl]
      cases x3 with
      | true =>
        go_wp2_with (first | (refine stv rfl _ _ rfl rfl _ 0 false t3 b3 rfl rfl (HV.out.made (vo 0 false)).head ?_; intro W7 hP hO; replace HV := Lib.hid (HV.out.put hP hO); have cq := Joins.cell_of_block HV.out.h2 0; simp only [List.getElem?_toArray, List.getElem?_cons_zero] at cq; clear hP hO) | (refine ldv rfl _ rfl _ _ _ rfl HV.out.head ?_) | (refine ldv rfl _ rfl _ _ _ rfl HV.out.h2 ?_) | fail)
        try rw [Exit.noGoto_ret]
        go_ret2
        exact ⟨ret_int2 rfl (H3.out (N1.out (by omega)) (N2.out (by omega)) trivial).symm, HV.out.old⟩
      | false =>
        go_wp2_with (first | (refine stv rfl _ _ rfl rfl _ 0 false t3 b3 rfl rfl (HV.out.made (vo 0 false)).head ?_; intro W7 hP hO; replace HV := Lib.hid (HV.out.put hP hO); have cq := Joins.cell_of_block HV.out.h2 0; simp only [List.getElem?_toArray, List.getElem?_cons_zero] at cq; clear hP hO) | (refine ldv rfl _ rfl _ _ _ rfl HV.out.head ?_) | (refine ldv rfl _ rfl _ _ _ rfl HV.out.h2 ?_) | fail)
        go_roundw
        case rel => exact ⟨2 + 1, by omega, by go_num, HV.out.tail, fun _ => N1.out (by omega), fun _ => N2.out (by omega), fun _ => trivial⟩
        case measure => simp [intOf]
    · rw [show ((3 : Nat) : Int) = 3 from rfl]
      have cq := Joins.cell_of_block HV.out.head 0
      simp only [List.getElem?_toArray, List.getElem?_cons_zero] at cq
      go_wp2_with fail
      go_ret2
      exact ⟨ret_int2 rfl (H0.out (N1.out (by omega)) (N2.out (by omega)) (N3.out (by omega))).symm, HV.out.old⟩

end Lw5
end Go.Proofs.Ytjjconkelbjodaa
