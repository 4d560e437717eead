/- The contract of All: each of five signals is picked as alone. -/
import Derived.Test.YtcbnfpnlkjkgaaaPickFive
namespace Go.Proofs.Ytcbnfpnlkjkgaaa
namespace Pw
open Go.RowKit Pc Lk FixC

abbrev z5 : Array Value := #[.int .i64 0, .int .i64 0, .int .i64 0, .int .i64 0, .int .i64 0]
abbrev zo : Obj := .cells z5 26 (0, 0)
/-- What All holds: six arrays that came in, two for the results, two that are filled. -/
abbrev Ten (b0 b1 b2 b3 b4 b5 b6 b7 b8 b9 : Nat) (A B : Nat → Int) (G H : Nat → Bool) (M N : Nat → Int) (x y : Obj) : List (Nat × Obj) :=
  [(b9, y), (b8, x), (b7, zo), (b6, zo), (b5, io N), (b4, io M), (b3, go H), (b2, go G), (b1, io B), (b0, io A)]
theorem ten (w : World) (A B : Nat → Int) (G H : Nat → Bool) (M N : Nat → Int) (x y : Obj) :
    Hv w ((((((((((w.alloc (io A)).alloc (io B)).alloc (go G)).alloc (go H)).alloc (io M)).alloc (io N)).alloc zo).alloc zo).alloc x).alloc y) (Ten w.heap.size (w.heap.size + 1) (w.heap.size + 2) (w.heap.size + 3) (w.heap.size + 4) (w.heap.size + 5) (w.heap.size + 6) (w.heap.size + 7) (w.heap.size + 8) (w.heap.size + 9) A B G H M N x y) := by
  have h := (((((((((((Hv.nil w).made (io A)).made (io B)).made (go G)).made (go H)).made (io M)).made (io N)).made zo).made zo).made x).made y)
  simp only [World.size_alloc] at h
  exact h
abbrev Six (V : World) (b0 b1 b2 b3 b4 b5 k : Nat) (A B : Nat → Int) (G H : Nat → Bool) (M N : Nat → Int) : Prop :=
  V.cell? ⟨b0, k, none⟩ = some (.int .i64 (A k)) ∧ V.cell? ⟨b1, k, none⟩ = some (.int .i64 (B k)) ∧ V.cell? ⟨b2, k, none⟩ = some (.bool (G k)) ∧ V.cell? ⟨b3, k, none⟩ = some (.bool (H k)) ∧ V.cell? ⟨b4, k, none⟩ = some (.int .i64 (M k)) ∧ V.cell? ⟨b5, k, none⟩ = some (.int .i64 (N k))
theorem six {w V : World} {b0 b1 b2 b3 b4 b5 b6 b7 b8 b9 k : Nat} {A B : Nat → Int} {G H : Nat → Bool} {M N : Nat → Int} {x y : Obj} (h : Hv w V (Ten b0 b1 b2 b3 b4 b5 b6 b7 b8 b9 A B G H M N x y)) (hk : k < 5) : Six V b0 b1 b2 b3 b4 b5 k A B G H M N :=
  ⟨cell_i (h.has (b0, _) (by simp)) hk, cell_i (h.has (b1, _) (by simp)) hk, cell_g (h.has (b2, _) (by simp)) hk, cell_g (h.has (b3, _) (by simp)) hk, cell_i (h.has (b4, _) (by simp)) hk, cell_i (h.has (b5, _) (by simp)) hk⟩

abbrev Row10 (w : World) (b0 b1 b2 b3 b4 b5 b6 b7 b8 b9 : Nat) : Prop := b0 = w.heap.size ∧ b1 = b0 + 1 ∧ b2 = b0 + 2 ∧ b3 = b0 + 3 ∧ b4 = b0 + 4 ∧ b5 = b0 + 5 ∧ b6 = b0 + 6 ∧ b7 = b0 + 7 ∧ b8 = b0 + 8 ∧ b9 = b0 + 9
theorem upto_io (f : Nat → Int) : io (upto 5 f) = io f := rfl
section
variable {w V : World} {b0 b1 b2 b3 b4 b5 b6 b7 b8 b9 k : Nat} {A B : Nat → Int} {G H : Nat → Bool} {M N P F : Nat → Int} {x y : Obj}
theorem swap {L : List (Nat × Obj)} {e f : Nat × Obj} (h : Hv w V (e :: f :: L)) : Hv w V (f :: e :: L) := ((h.tail.tail).add e h.head).add f h.h2
theorem putV (E : Row10 w b0 b1 b2 b3 b4 b5 b6 b7 b8 b9) (h : Hv w V (Ten b0 b1 b2 b3 b4 b5 b6 b7 b8 b9 A B G H M N (io (upto k P)) y)) (hk : k < 5) : Hv w (V.setCell ⟨b8, k, none⟩ (.int .i64 (P k))) (Ten b0 b1 b2 b3 b4 b5 b6 b7 b8 b9 A B G H M N (io (upto (k + 1) P)) y) :=
  swap ((swap h).change ((Off.refl b8 V).set k _) (put_i h.h2 hk) (by simp; omega) (by omega))
theorem putF (E : Row10 w b0 b1 b2 b3 b4 b5 b6 b7 b8 b9) (h : Hv w V (Ten b0 b1 b2 b3 b4 b5 b6 b7 b8 b9 A B G H M N x (io (upto k F)))) (hk : k < 5) : Hv w (V.setCell ⟨b9, k, none⟩ (.int .i64 (F k))) (Ten b0 b1 b2 b3 b4 b5 b6 b7 b8 b9 A B G H M N x (io (upto (k + 1) F))) :=
  h.change ((Off.refl b9 V).set k _) (put_i h.head hk) (by simp; omega) (by omega)
end

section
variable {w V : World} {b0 b1 b2 b3 b4 b5 b6 b7 b8 b9 : Nat} {A B : Nat → Int} {G H : Nat → Bool} {M N P F : Nat → Int} {x y : Obj}
theorem four (h : Hv w V (Ten b0 b1 b2 b3 b4 b5 b6 b7 b8 b9 A B G H M N x y)) : Hv w V [(b6, zo), (b7, zo), (b8, x), (b9, y)] :=
  ⟨by intro e he; simp only [List.mem_cons, List.not_mem_nil, or_false] at he; rcases he with rfl | rfl | rfl | rfl <;> exact h.has _ (by simp), h.old⟩
end
theorem res22 {fn : Func} {p u : Tmp} (h : fn.results = #[.cell p 26, .cell u 26]) (tmps : Array Value) (w : World) (g k : Nat) (P F : Nat → Int) (hp : tmps.getD p undef = .pointer (some ⟨g, 0, none⟩)) (hu : tmps.getD u undef = .pointer (some ⟨k, 0, none⟩)) (hP : w.heap[g]? = some (io P)) (hF : w.heap[k]? = some (io F)) :
    (results fn tmps).run Try.prog w = .ok (.tuple #[.agg (i5 P), .agg (i5 F)]) w := by
  have hp' : tmps[p]?.getD undef = .pointer (some ⟨g, 0, none⟩) := by simpa using hp
  have hu' : tmps[u]?.getD undef = .pointer (some ⟨k, 0, none⟩) := by simpa using hu
  simp [results, h, hp', hu', asAddr, run_loadVar_row (P := Try.prog) w g 26 26 (i5 P) (0, 0) _ hP Try.underlying26 rfl info_i5, run_loadVar_row (P := Try.prog) w k 26 26 (i5 F) (0, 0) _ hF Try.underlying26 rfl info_i5]

/-- An array of five loaded as a whole. -/
theorem run_ld5 {o : Oper} {a : Act} {w : World} (x : Operand) (ho : o.op = .load 26 x) (g : Nat) (f : Nat → Int) (hx : a.eval x = .pointer (some ⟨g, 0, none⟩)) (hP : w.heap[g]? = some (io f)) : (execOp a.eval o).run Try.prog w = .ok (.value (.agg (i5 f))) w := by
  unfold execOp
  simp only [ho, hx, Instr.loadAt, Instr.sureAddr, Sem.run_bind, Sem.run_pure, Result.andThen_ok, run_loadVar_row w g 26 26 (i5 f) (0, 0) _ hP Try.underlying26 rfl info_i5]
theorem i5_one (f : Nat → Int) : (i5 f).all (·.oneCell') = true := by simp [i5, Value.oneCell']
/-- An array of five stored as a whole. -/
theorem step_st5 {ops : Array Oper} {o : Oper} {a : Act} {w : World} {K : Act → World → Prop} {Q : Exit → Act → World → Prop} {E : Prop} (hgd : o.guard = none) (x y : Operand) (ho : o.op = .store 26 x y) (hd : o.dst = none)
    (g : Nat) (q p : Nat → Int) (hx : a.eval x = .pointer (some ⟨g, 0, none⟩)) (hy : a.eval y = .agg (i5 p)) (hP : w.heap[g]? = some (io q))
    (h : ∀ w', w'.heap[g]? = some (io p) → Off g w w' → K a w') : if Region.wanted o (yielded ops a.tmps) = true then Oper.wp Try.prog o a w K Q else E := by
  simp only [Region.wanted, hgd, if_true]
  refine wp_store_row 26 x y ho g (i5 p) hx hy 26 (i5 q) hP info_i5 rfl (i5_one p) ?_
  rw [hd]
  exact h _ (setRow_heap w g (i5 q) (i5 p) 26 (0, 0) hP) (Off.row w g _)
set_option maxRecDepth 100000 in
set_option maxHeartbeats 4000000 in
theorem all_c (A B : Nat → Int) (G H : Nat → Bool) (M N : Nat → Int) (w : World) :
    Calls Try.prog 12 #[.agg (i5 A), .agg (i5 B), .agg (g5 G), .agg (g5 H), .agg (i5 M), .agg (i5 N)] w fun e w' => e = .returned (.tuple #[.agg (i5 fun k => (pick (A k) (B k) (G k) (H k) (M k) (N k)).1), .agg (i5 fun k => (pick (A k) (B k) (G k) (H k) (M k) (N k)).2)]) ∧ Below w.heap.size w w' := by
  have HV := Lib.hid (ten w A B G H M N zo zo)
  have CP := Lib.hid (fun k W => pick_c (A k) (B k) (G k) (H k) (M k) (N k) W)
  obtain ⟨P, eP⟩ : ∃ P : Nat → Int, (fun k => (pick (A k) (B k) (G k) (H k) (M k) (N k)).1) = P := ⟨_, rfl⟩
  obtain ⟨F, eF⟩ : ∃ F : Nat → Int, (fun k => (pick (A k) (B k) (G k) (H k) (M k) (N k)).2) = F := ⟨_, rfl⟩
  have CP : Hid (∀ k W, Calls Try.prog 10 #[.int .i64 (A k), .int .i64 (B k), .bool (G k), .bool (H k), .int .i64 (M k), .int .i64 (N k)] W fun e w' => e = .returned (.tuple #[.int .i64 (P k), .int .i64 (F k)]) ∧ Below W.heap.size W w') := by
    subst eP eF
    exact CP.out
  rw [eP, eF]
  clear eP eF
  go_enter Try.func12, Try.ntmps12
  go_wp2_with fail
  generalize e9 : w.heap.size + 1 + 1 + 1 + 1 + 1 + 1 + 1 + 1 + 1 = b9
  generalize e8 : w.heap.size + 1 + 1 + 1 + 1 + 1 + 1 + 1 + 1 = b8
  generalize e7 : w.heap.size + 1 + 1 + 1 + 1 + 1 + 1 + 1 = b7
  generalize e6 : w.heap.size + 1 + 1 + 1 + 1 + 1 + 1 = b6
  generalize e5 : w.heap.size + 1 + 1 + 1 + 1 + 1 = b5
  generalize e4 : w.heap.size + 1 + 1 + 1 + 1 = b4
  generalize e3 : w.heap.size + 1 + 1 + 1 = b3
  generalize e2 : w.heap.size + 1 + 1 = b2
  generalize e1 : w.heap.size + 1 = b1
  generalize e0 : w.heap.size = b0
  replace HV : Hid (Hv w ((((((((((w.alloc (io A)).alloc (io B)).alloc (go G)).alloc (go H)).alloc (io M)).alloc (io N)).alloc zo).alloc zo).alloc zo).alloc zo) (Ten b0 b1 b2 b3 b4 b5 b6 b7 b8 b9 A B G H M N zo zo)) := by
    subst e0 e1 e2 e3 e4 e5 e6 e7 e8 e9
    exact HV.out
  have EB : Hid (b0 = w.heap.size ∧ b1 = b0 + 1 ∧ b2 = b0 + 2 ∧ b3 = b0 + 3 ∧ b4 = b0 + 4 ∧ b5 = b0 + 5 ∧ b6 = b0 + 6 ∧ b7 = b0 + 7 ∧ b8 = b0 + 8 ∧ b9 = b0 + 9) := ⟨by omega, by omega, by omega, by omega, by omega, by omega, by omega, by omega, by omega, by omega⟩
  clear e0 e1 e2 e3 e4 e5 e6 e7 e8 e9
  go_loopw [17] (fun i wr => ∃ k : Nat, k ≤ 5 ∧ i = .int .i64 k ∧ Hv w wr (Ten b0 b1 b2 b3 b4 b5 b6 b7 b8 b9 A B G H M N (io (upto k P)) (io (upto k F)))) (fun i _ => 5 - (intOf i).toNat)
  case atStart => exact ⟨0, by decide, rfl, HV.out⟩
  case round =>
    obtain ⟨k, hk, rfl, hv⟩ := hrel
    clear HV
    have HV := Lib.hid hv
    clear hv
    by_cases hlt : k < 5
    · have i1 : (0 : Int) ≤ (k : Int) := by omega
      have i2 : (k : Int) < 5 := by omega
      have n1 : (b8 = b9) = False := by have := EB.out; apply eq_false; omega
      have n2 : (b9 = b8) = False := by have := EB.out; apply eq_false; omega
      go_upto_region 5 with fail
      go_region_held3 (fun V => Six V b0 b1 b2 b3 b4 b5 k A B G H M N) (first | exact six HV.out hlt | exact six HV.out.drew hlt | exact six (putV EB.out HV.out hlt) hlt | exact six (putF EB.out (putV EB.out HV.out hlt) hlt) hlt | fail)
        (first | (go_at_call 10; (with_reducible refine (CP.out k _).mono ?_); rintro e Wn ⟨rfl, hb⟩; replace HV := Lib.hid (HV.out.drew.grow hb); clear hb; have x1 := cell_i HV.out.h2 hlt; have x2 := cell_i HV.out.head hlt; have x3 := Joins.unfrozen_of_block HV.out.h2 k; have x4 := Joins.unfrozen_of_block HV.out.head k) | fail)
      all_goals
        go_wp2_with fail
        go_roundw
        case rel => exact ⟨k + 1, by omega, by go_num, putF EB.out (putV EB.out HV.out hlt) hlt⟩
        case measure => simp [intOf]; omega
    · obtain rfl : k = 5 := by omega
      go_wp2_with fail
      replace HV := Lib.hid (four HV.out)
      rw [upto_io, upto_io] at HV
      refine wp_region_held_drew (S := fun V => V.heap[b8]? = some (io P) ∧ V.heap[b9]? = some (io F)) (by kernel_rfl) ⟨HV.out.drew.h3, HV.out.drew.h4⟩ (fun hHeld => ?_)
      refine wpAnyH_take (i := 0) (v := .agg (i5 P)) rfl (by kernel_rfl) (by kernel_rfl) (by kernel_rfl) (fun _ _ _ h => h) (Or.inl ⟨by rfl, ?_⟩) hHeld ?_
      · intro w' hSw
        exact run_ld5 _ rfl b8 P rfl hSw.1
      simp only [Act.put, List.getElem_toArray, List.getElem_cons_zero, List.setIfInBounds_toArray, List.set_cons_zero, List.set_cons_succ]
      refine wpAnyH_take (i := 1) (v := .agg (i5 F)) rfl (by kernel_rfl) (by kernel_rfl) (by kernel_rfl) (fun _ _ _ h => h) (Or.inl ⟨by rfl, ?_⟩) hHeld ?_
      · intro w' hSw
        exact run_ld5 _ rfl b9 F rfl hSw.2
      simp only [Act.put, List.getElem_toArray, List.getElem_cons_succ, List.getElem_cons_zero, List.setIfInBounds_toArray, List.set_cons_zero, List.set_cons_succ]
      refine wpAnyH_ready (rs := [2]) (by kernel_rfl) (by simp) ?_
      refine AllReadyH.cons rfl (fun K hK => ?_) AllReadyH.nil
      refine step_st5 rfl _ _ rfl rfl b6 (fun _ => 0) P rfl rfl HV.out.drew.head ?_
      intro W1 h1 h2
      replace HV : Hid (Hv w W1 [(b7, zo), (b6, io P), (b8, io P), (b9, io F)]) := swap (HV.out.drew.change h2 h1 (by have := EB.out; simp; omega) (by have := EB.out; omega))
      clear h1 h2 hHeld
      refine hK.out _ _ ⟨HV.out.h3, HV.out.h4⟩ (fun hHeld => ?_)
      clear hK K
      refine wpAnyH_ready (rs := [3]) (by kernel_rfl) (by simp) ?_
      refine AllReadyH.cons rfl (fun K hK => ?_) AllReadyH.nil
      refine step_st5 rfl _ _ rfl rfl b7 (fun _ => 0) F rfl rfl HV.out.head ?_
      intro W2 h1 h2
      replace HV : Hid (Hv w W2 [(b7, io F), (b6, io P), (b8, io P), (b9, io F)]) := HV.out.change h2 h1 (by have := EB.out; simp; omega) (by have := EB.out; omega)
      clear h1 h2 hHeld
      refine hK.out _ _ ⟨HV.out.h3, HV.out.h4⟩ (fun _ => ?_)
      clear hK K
      refine wpAnyH_done (by kernel_rfl) ?_ _
      go_wp2_with fail
      refine bodyPost_ret (res22 rfl _ _ b6 b7 P F rfl rfl HV.out.h2 HV.out.head) rfl ?_
      exact ⟨rfl, HV.out.old⟩
end Pw
end Go.Proofs.Ytcbnfpnlkjkgaaa
