/- Next, May: the channels asked by a range over a function, a frame compared with the one that would have to be. -/
import Derived.Test.YtgpgdmebojmobaaArbiterIn
import Derived.Test.YtgpgdmebojmobaaRangeKit
import Derived.Test.YtgpgdmebojmobaaHeldIn
import Derived.Laws.EntriesVeiled
import Derived.Shelf.Abstract
import Derived.Shelf.RegionOpen
import Derived.OwnWalkIn
import Derived.TacticsInMore
import Derived.LoopNIn
import Derived.LoopIn
import Derived.BigFrameIn
namespace Go.Proofs.Ytgpgdmebojmobaa
namespace Aw
open Go.RowKit Go.Shelf Lk

attribute [local go_sem] Oper.semAt_some

abbrev encZ (x : Int) : Array Value := #[.int .i64 x]
/-- What a round keeps: all below n₀, and some boxes. -/
def Kl (n₀ : Nat) (Bs : List Nat) (W W' : World) : Prop := Below n₀ W W' ∧ ∀ b ∈ Bs, W'.heap[b]? = W.heap[b]?
namespace Kl
variable {n₀ : Nat} {Bs : List Nat} {A B C : World}
theorem refl (n₀ : Nat) (Bs : List Nat) (W : World) : Kl n₀ Bs W W := ⟨Below.refl _ _, fun _ _ => rfl⟩
theorem trans (h : Kl n₀ Bs A B) (k : Kl n₀ Bs B C) : Kl n₀ Bs A C := ⟨h.1.trans k.1, fun b hb => (k.2 b hb).trans (h.2 b hb)⟩
theorem grow (h : Kl n₀ Bs A B) (hb : Below B.heap.size B C) (h0 : n₀ ≤ B.heap.size) (h1 : ∀ b ∈ Bs, b < B.heap.size) : Kl n₀ Bs A C := h.trans ⟨hb.mono h0, fun b hbs => hb.block b (h1 b hbs)⟩
theorem putObj {w : World} (hn : n₀ ≤ w.heap.size) (h1 : ∀ b ∈ Bs, b < w.heap.size) (W : World) (l : Nat) (o o' : Obj) (hl : w.heap.size ≤ l) (h : W.heap[l]? = some o) (g1 : o.isCells = false) (g2 : o.isWalk = false) : Kl n₀ Bs W (W.putObj l o') :=
  ⟨belowK_b hn W l o o' hl h g1 g2, fun b hb => World.putObj_heap_other (by have := h1 b hb; omega)⟩
end Kl
theorem abide {β : Type} {B : Nat} {J : β → World → Prop} (h : AbidesFrom B J) {s : β} {W W' : World} (hj : J s W) (hb : Below W.heap.size W W') : J s W' :=
  h s W W' none hj ⟨hb.os, hb.tape, hb.output, hb.size, fun k hk _ => hb.block k hk⟩ (fun r e => by cases e)

theorem asked_c (h : Int) (w : World) :
    Calls Try.prog 12 #[.int .i64 h] w fun e w' => e = .returned (.func (.func 15) #[] #[.pointer (some ⟨w.heap.size, 0, none⟩)]) ∧ w.alloc (.cells #[.int .i64 h] 3) = w' := by
  go_enter Try.func12, Try.ntmps12
  go_wp2
  go_ret
  exact ⟨rfl, rfl⟩

set_option maxRecDepth 100000 in
set_option maxHeartbeats 4000000 in
theorem asked_in (d l n₀ B : Nat) (h : Int) (J Jx : List Int → World → Prop) (W : World)
    (hY : ∀ pre x W1, J pre W1 → pre.length < 3 → YieldAt Fence.wide (d - 1) Try.prog l (encZ x) W1 fun e W' =>
      (e = .returned (.bool true) ∧ J (pre ++ [x]) W' ∧ Kl n₀ [B] W1 W') ∨ (e = .returned (.bool false) ∧ Jx (pre ++ [x]) W'))
    (hB : BoxV W B 3 #[.int .i64 h]) (h0 : J [] W) :
    CallsIn Fence.wide d Try.prog 15 #[.func (.yield l) #[] #[], .pointer (some ⟨B, 0, none⟩)] W fun e W' => (∃ v, e = .returned v) ∧
      ((∃ zs, zs = Av.ask h ∧ J zs W') ∨ (∃ pre, pre <+: Av.ask h ∧ Jx pre W')) := by
  have hfn : ∀ f, Fence.wide.fn f := fun _ => trivial
  have HY := Lib.hid hY
  have HJ := Lib.hid h0
  have cx := hB.cell 0
  simp only [List.getElem?_toArray, List.getElem?_cons_zero] at cx
  clear hY h0 hB
  refine callsIn_of_wp Try.func15 rfl trivial ?_ rfl
  simp only [Try.ntmps15, List.size_toArray, List.length_cons, List.length_nil, Nat.reduceAdd, Nat.reduceSub, Array.replicate_succ, Array.replicate_zero, List.push_toArray, List.append_toArray, List.nil_append, List.cons_append]
  by_cases hh : h = 1
  · subst hh
    obtain ⟨fn, tmps, assign, body, hy, hR⟩ := HY.out [] 1 W HJ.out (by decide)
    have HRd := Lib.hid hR
    clear hR
    gi_wp2_with fail
    refine ⟨fun e => (by cases e), HRd.out.mono ?_⟩
    rintro e W2 (⟨rfl, hJ2, hk2⟩ | ⟨rfl, hJx2⟩)
    · have HJ2 := Lib.hid hJ2
      clear hJ2 hk2 hy HRd
      obtain ⟨fn, tmps, assign, body, hy, hR⟩ := HY.out [1] 0 W2 HJ2.out (by decide)
      have HRd := Lib.hid hR
      clear hR
      gi_wp2_with fail
      refine ⟨fun e => (by cases e), HRd.out.mono ?_⟩
      rintro e W3 (⟨rfl, hJ3, hk3⟩ | ⟨rfl, hJx3⟩)
      · have HJ3 := Lib.hid hJ3
        clear hJ3 hk3 hy HRd
        obtain ⟨fn, tmps, assign, body, hy, hR⟩ := HY.out [1, 0] 1 W3 HJ3.out (by decide)
        have HRd := Lib.hid hR
        clear hR
        gi_wp2_with fail
        refine ⟨fun e => (by cases e), HRd.out.mono ?_⟩
        rintro e W4 (⟨rfl, hJ4, hk4⟩ | ⟨rfl, hJx4⟩)
        · have HJ4 := Lib.hid hJ4
          clear hJ4 hk4 hy HRd
          gi_wp2
          go_end0
          exact ⟨⟨_, rfl⟩, .inl ⟨_, rfl, HJ4.out⟩⟩
        · have HJ4 := Lib.hid hJx4
          clear hJx4 hy HRd
          gi_wp2
          go_end0
          exact ⟨⟨_, rfl⟩, .inr ⟨_, ⟨[], rfl⟩, HJ4.out⟩⟩
      · have HJ3 := Lib.hid hJx3
        clear hJx3 hy HRd
        gi_wp2
        go_end0
        exact ⟨⟨_, rfl⟩, .inr ⟨_, ⟨[1], rfl⟩, HJ3.out⟩⟩
    · have HJ2 := Lib.hid hJx2
      clear hJx2 hy HRd
      gi_wp2
      refine bodyPost_ret (results_none rfl _ _ _) rfl ?_
      exact ⟨⟨_, rfl⟩, .inr ⟨_, ⟨[0, 1], rfl⟩, HJ2.out⟩⟩
  · have hh1 : (h == 1) = false := by simpa using hh
    have HA := Lib.hid (Av.ask_no hh1)
    clear hh
    obtain ⟨fn, tmps, assign, body, hy, hR⟩ := HY.out [] 0 W HJ.out (by decide)
    have HRd := Lib.hid hR
    clear hR
    gi_wp2_with fail
    refine ⟨fun e => (by cases e), HRd.out.mono ?_⟩
    rintro e W3 (⟨rfl, hJ3, hk3⟩ | ⟨rfl, hJx3⟩)
    · have HJ3 := Lib.hid hJ3
      clear hJ3 hk3 hy HRd
      obtain ⟨fn, tmps, assign, body, hy, hR⟩ := HY.out [0] 1 W3 HJ3.out (by decide)
      have HRd := Lib.hid hR
      clear hR
      gi_wp2_with fail
      refine ⟨fun e => (by cases e), HRd.out.mono ?_⟩
      rintro e W4 (⟨rfl, hJ4, hk4⟩ | ⟨rfl, hJx4⟩)
      · have HJ4 := Lib.hid hJ4
        clear hJ4 hk4 hy HRd
        gi_wp2
        go_end0
        exact ⟨⟨_, rfl⟩, .inl ⟨_, HA.out.symm, HJ4.out⟩⟩
      · have HJ4 := Lib.hid hJx4
        clear hJx4 hy HRd
        gi_wp2
        go_end0
        exact ⟨⟨_, rfl⟩, .inr ⟨_, by rw [HA.out]; exact ⟨[], rfl⟩, HJ4.out⟩⟩
    · have HJ3 := Lib.hid hJx3
      clear hJx3 hy HRd
      gi_wp2
      go_end0
      exact ⟨⟨_, rfl⟩, .inr ⟨_, by rw [HA.out]; exact ⟨[1], rfl⟩, HJ3.out⟩⟩

theorem asked_stops (d n₀ B : Nat) (h : Int) (w : World) (hB : BoxV w B 3 #[.int .i64 h]) :
    SeqStopsK Fence.wide d Try.prog 15 #[.pointer (some ⟨B, 0, none⟩)] encZ (Kl n₀ [B]) (fun zs => zs = Av.ask h) (fun pre => pre <+: Av.ask h) 3 w := fun l J Jx W hW _ _ hY h0 =>
  asked_in d l n₀ B h J Jx W hY (hB.below hW hB.lt) h0

theorem ret_i {a b : Int} (h : a = b) : Ending.returned (.int .i64 a) = .returned (.int .i64 b) := by rw [h]
theorem snoc_no {q : List Int} {x : Int} {a b r : Bool} (h : ∀ y ∈ q, Av.fits a b r y = false) (hx : Av.fits a b r x = false) : ∀ y ∈ q ++ [x], Av.fits a b r y = false := by
  intro y hy
  rcases List.mem_append.1 hy with hy | hy
  · exact h y hy
  · obtain rfl : y = x := by simpa using hy
    exact hx

theorem eq_fit (a b r : Bool) (x : Int) (w : World) : (binOp .eql 34 (.agg (fc a b r)) (.agg (if x = 0 then fc true b false else fc a true false))).run Try.prog w = .ok (.bool (Av.fits a b r x)) w := by
  unfold Av.fits
  split
  · rw [eq_f]; cases a <;> cases b <;> cases r <;> rfl
  · rw [eq_f]; cases a <;> cases b <;> cases r <;> rfl

/-- An operation that yields one value, behind those that may come in any order. -/
theorem step_val {F : Fence} {n : Nat} {ops : Array Oper} {Q : Exit → Act → World → Prop} {S : World → Prop} {o : Oper} {rest : List Oper} {u : Act} {w : World} (v : Value) (hF : Lk.Open F n Try.prog) (hw : Region.wanted o (yielded ops u.tmps) = true) (hd : ∀ c, o.op ≠ .defer c)
    (hr : (execOp u.eval o).run Try.prog w = .ok (.value v) w) (hS : S w) (c : wpListH F n Try.prog ops Q S rest (u.put o.dst v) w) : wpListH F n Try.prog ops Q S (o :: rest) u w := by
  unfold wpListH
  simp only [hw, if_true]
  unfold Oper.wpIn
  rw [Oper.semAt_eq F.round u.eval o hd, hr]
  exact ⟨fun f _ => hF.fn f, hS, c⟩
theorem guard_f (s t : Operand) (xs ys : Array Value) (w : World) : (eqGuard .eql 34 s t (.agg xs) (.agg ys)).run Try.prog w = .ok () w := by
  simp [go_sem]
theorem run_eq {a b r : Bool} {x : Int} {o : Oper} {u : Act} {w : World} (s t : Operand) (ho : o.op = .binOp .eql 34 s t 34) (hs : u.eval s = .agg (fc a b r)) (ht : u.eval t = .agg (if x = 0 then fc true b false else fc a true false)) :
    (execOp u.eval o).run Try.prog w = .ok (.value (.bool (Av.fits a b r x))) w := by
  have e := eq_fit a b r x w
  generalize (if x = 0 then fc true b false else fc a true false) = v at e ht
  unfold execOp
  simp only [ho, hs, ht, Sem.run_bind, guard_f, e, Sem.run_pure, Result.andThen_ok]

set_option maxRecDepth 100000 in
set_option maxHeartbeats 8000000 in
/-- **Next**. -/
theorem next_c (h : Int) (a b r : Bool) (w : World) :
    Calls Try.prog 9 #[.int .i64 h, .bool a, .bool b, .bool r] w fun e w' => e = .returned (.int .i64 (Av.nx h a b r)) ∧ Below w.heap.size w w' := by
  have hfn : ∀ f, Fence.wide.fn f := fun _ => trivial
  refine (callsIn_wide (n := 9)).1 ?_
  refine callsIn_of_wp_marks Try.func9 rfl trivial ?_ rfl
  simp only [Try.ntmps9, List.size_toArray, List.length_cons, List.length_nil, Nat.reduceAdd, Nat.reduceSub, Array.replicate_succ, Array.replicate_zero, List.push_toArray, List.append_toArray, List.nil_append, List.cons_append]
  gi_wp2_with fail
  refine (callsIn_wide.2 (asked_c h _)).mono ?_
  rintro e w' ⟨rfl, rfl⟩
  gi_wp2_with fail
  have b2 := BoxV.new ((w.alloc (.cells #[.int .i64 0] 3)).alloc (.cells (fc a b r) 34)) 3 #[.int .i64 h]
  have b1 := (BoxV.new (w.alloc (.cells #[.int .i64 0] 3)) 34 (fc a b r)).alloc (.cells #[.int .i64 h] 3)
  have b0 := ((BoxV.new w 3 #[.int .i64 0]).alloc (.cells (fc a b r) 34)).alloc (.cells #[.int .i64 h] 3)
  have hB0 := (((Below.refl w.heap.size w).alloc (Nat.le_refl _) (.cells #[.int .i64 0] 3)).alloc (by simp) (.cells (fc a b r) 34)).alloc (by simp; omega) (.cells #[.int .i64 h] 3)
  have hsz : (((w.alloc (.cells #[.int .i64 0] 3)).alloc (.cells (fc a b r) 34)).alloc (.cells #[.int .i64 h] 3)).heap.size = w.heap.size + 3 := by simp
  simp only [World.size_alloc] at b2 b1
  generalize ((w.alloc (.cells #[.int .i64 0] 3)).alloc (.cells (fc a b r) 34)).alloc (.cells #[.int .i64 h] 3) = W0 at b2 b1 b0 hB0 hsz ⊢
  refine rangeU (by omega) (gf := 15) (lb := #[.pointer (some ⟨w.heap.size + 1 + 1, 0, none⟩)]) rfl (enters_of Try.func15 (by kernel_rfl) rfl)
    (asked_stops 8 w.heap.size (w.heap.size + 1 + 1) h W0 b2) Kl.trans (fun W => Kl.refl _ _ W) (Kl.putObj (by omega) (by intro b hb; simp only [List.mem_cons, List.not_mem_nil, or_false] at hb; omega)) (fun _ => rfl)
    (fun pre W => ((∀ y ∈ pre, Av.fits a b r y = false) ∧ (BoxV W w.heap.size 3 #[.int .i64 0] ∧ BoxV W (w.heap.size + 1) 34 (fc a b r))) ∧ (Below w.heap.size w W ∧ w.heap.size + 3 ≤ W.heap.size))
    (fun c pre W => ((c = .ret ∧ ∃ q x, pre = q ++ [x] ∧ (∀ y ∈ q, Av.fits a b r y = false) ∧ Av.fits a b r x = true) ∧ BoxV W w.heap.size 3 #[.int .i64 (pre.getLastD 0)]) ∧ Below w.heap.size w W)
    (OwnFrom.and (OwnFrom.and (Lk.ownFrom_pure _ _) (OwnFrom.and (Own.from (Lk.boxV_own _ _ _) _) (Own.from (Lk.boxV_own _ _ _) _))) (OwnFrom.and (ownFrom_below (Nat.le_refl _) (by omega)) (Lk.ownFrom_size _ _)))
    (fun c => OwnFrom.and (OwnFrom.and (Lk.ownFrom_pure _ _) (Own.from (Lk.boxV_own _ _ _) _)) (ownFrom_below (Nat.le_refl _) (by omega)))
    ⟨⟨by simp, b0, b1⟩, hB0, by omega⟩
    17 10 (fun x => .int .i64 x) ?assign ?body ?done ?stop
  case assign =>
    rintro l x W K hK
    have HK := Lib.hid hK
    clear hK
    simp only [encZ, frameU] at HK ⊢
    gi_wp2
    exact HK.out
  case body =>
    rintro l pre x W ⟨⟨hp, bR, bN⟩, hB1, hsW⟩ hlt
    have HP := Lib.hid hp
    have HB1 := Lib.hid hB1
    have HR := Lib.hid bR
    clear hp hB1 b0 b1 b2 hB0 hsz bR
    have hbR := HR.out.lt
    have hbN := bN.lt
    simp only [frameU, List.setIfInBounds_toArray, List.set_cons_succ, List.set_cons_zero]
    gi_wp2_with fail
    refine wpIn_region_held 3 (fun w' => w'.heap[w.heap.size + 1]? = some (fo a b r)) (open_round _ _ _) (by kernel_rfl) (by kernel_rfl) (by kernel_rfl) (fun _ _ _ _ _ h => h) bN.drew ?_
    simp only [List.take_succ_cons, List.take_zero, List.drop_succ_cons, List.drop_zero]
    refine wpHeld_step (.agg (fc a b r)) rfl (fun w hS => rF _ rfl _ rfl hS) ?_
    simp only [Act.put, List.setIfInBounds_toArray, List.set_cons_succ, List.set_cons_zero]
    refine wpHeld_step (.agg (fc a b r)) rfl (fun w hS => rF _ rfl _ rfl hS) ?_
    simp only [Act.put, List.setIfInBounds_toArray, List.set_cons_succ, List.set_cons_zero]
    refine wpHeld_step (.int .i64 x) rfl (fun w hS => by go_simp) ?_
    simp only [Act.put, List.setIfInBounds_toArray, List.set_cons_succ, List.set_cons_zero]
    show wpListH _ _ _ _ _ _ _ _ _
    refine wpListH_step (fun K hK => ?_)
    have HKK := Lib.hid hK
    clear hK
    go_simp
    refine (CallsIn.inRound l (callsIn_wide.2 (fit_c a b r x _))).mono ?_
    rintro e w2 ⟨rfl, hb5⟩
    have hb4 : Below W.heap.size W w2 := (Below.refl W.heap.size W).drew.trans hb5
    have bN2 := bN.below hb4 hbN
    have HR2 := Lib.hid (HR.out.below hb4 hbR)
    have HKO := Lib.hid (keeps_of_below hb4)
    have HB2 := Lib.hid (HB1.out.trans (hb4.mono HB1.out.size))
    have HS2 := hb4.size
    have HKl : Hid (Kl w.heap.size [w.heap.size + 1 + 1] W w2) := Lib.hid (⟨hb4.mono HB1.out.size, fun b hb => hb4.block b (by simp only [List.mem_cons, List.not_mem_nil, or_false] at hb; omega)⟩ : Kl w.heap.size [w.heap.size + 1 + 1] W w2)
    clear hb4 hb5
    refine HKK.out _ _ bN2 ?_
    clear HKK K
    refine step_val _ (open_round _ _ _) rfl (fun _ hc => by cases hc) (run_eq _ _ rfl rfl rfl) bN2 (wpListH_nil ?_)
    simp only [Act.put, List.setIfInBounds_toArray, List.set_cons_succ, List.set_cons_zero]
    generalize Value.agg (if x = 0 then fc true b false else fc a true false) = vv
    cases hf : Av.fits a b r x with
    | true =>
      have r0 := HR2.out.cell 0
      simp only [List.getElem?_toArray, List.getElem?_cons_zero] at r0
      have r1 := HR2.out.frozen 0
      have HF := Lib.hid hf
      clear hf
      gi_wp2_with fail
      exact ⟨(HKO.out.trans (KeepsOthers.setCell _ _ _)).from _, ⟨⟨rfl, pre, x, rfl, HP.out, HF.out⟩, by rw [List.getLastD_concat]; exact HR2.out.set _⟩, HB2.out.setCell (p := ⟨w.heap.size, 0, none⟩) (by simp) _⟩
    | false =>
      have HF := Lib.hid (snoc_no HP.out hf)
      clear hf
      gi_wp2_with fail
      exact ⟨HKO.out.from _, HKl.out, ⟨HF.out, HR2.out, bN2⟩, HB2.out, by omega⟩
  case done =>
    rintro D zs W hD rfl ⟨⟨hp, bR, bN⟩, hB1, hsW⟩ hK
    have E := Lib.hid (Av.none_fits hp)
    have HB1 := Lib.hid hB1
    clear hp b0 b1 b2 hB0 bN hB1
    have r0 := bR.cell 0
    simp only [List.getElem?_toArray, List.getElem?_cons_zero] at r0
    have r1 := bR.frozen 0
    gi_wp2
    have hK' := (KeepsOthers.setCell W ⟨w.heap.size, 0, none⟩ (.int .i64 2)).same D _ hK rfl
    refine ⟨by simp, .inl ⟨_, _, rfl, run_takeDeferred hK', ?_⟩⟩
    have c5 := ((bR.set (.int .i64 2)).put (.deferred none) hK' rfl).cell 0
    simp only [List.getElem?_toArray, List.getElem?_cons_zero] at c5
    refine ⟨.int .i64 2, ?_, ret_i E.out.symm, (HB1.out.setCell (p := ⟨w.heap.size, 0, none⟩) (by simp) _).trans (belowK_b (w := w) (Nat.le_refl _) _ D _ _ (by omega) hK' rfl rfl)⟩
    simp [results, Try.f9, go_sem, c5]
  case stop =>
    rintro D c' pre W hD hpre ⟨⟨⟨rfl, q, x, rfl, hq, hx⟩, bR⟩, hB1⟩ hK
    have E := Lib.hid (Av.first_fits hpre rfl hq hx)
    have HB1 := Lib.hid hB1
    clear hpre hq hx b0 b1 b2 hB0 hB1
    gi_wp2
    refine ⟨by simp, .inl ⟨_, _, rfl, run_takeDeferred hK, ?_⟩⟩
    have c5 := (bR.put (.deferred none) hK rfl).cell 0
    simp only [List.getElem?_toArray, List.getElem?_cons_zero, List.getLastD_concat] at c5
    refine ⟨.int .i64 x, ?_, ret_i E.out.symm, HB1.out.trans (belowK_b (w := w) (Nat.le_refl _) W D _ _ (by omega) hK rfl rfl)⟩
    simp [results, Try.f9, go_sem, c5]
theorem next_v {h n : Int} {a b r : Bool} (e : Av.nx h a b r = n) (w : World) :
    Calls Try.prog 9 #[.int .i64 h, .bool a, .bool b, .bool r] w fun e w' => e = .returned (.int .i64 n) ∧ Below w.heap.size w w' := e ▸ next_c h a b r w

set_option maxHeartbeats 4000000 in
/-- **May**. -/
theorem may_c {h n : Int} {a b r : Bool} (e : Av.nx h a b r = n) (t : Int) (w : World) :
    Calls Try.prog 10 #[.int .i64 h, .int .i64 t, .bool a, .bool b, .bool r] w fun e w' => e = .returned (.bool (t == n)) ∧ Below w.heap.size w w' := by
  have C := Lib.hid (fun w => next_v e w)
  have HB := Lib.hid (Below.refl w.heap.size w)
  clear e
  go_enter Try.func10, Try.ntmps10
  go_wp2_with (first
    | (go_at_call 9; (with_reducible refine (C.out _).mono ?_); rintro e W ⟨rfl, hb⟩; replace HB := Lib.hid (HB.out.trans (hb.mono HB.out.size)); clear hb)
    | fail)
  go_ret
  exact ⟨rfl, HB.out⟩
end Aw
end Go.Proofs.Ytgpgdmebojmobaa
