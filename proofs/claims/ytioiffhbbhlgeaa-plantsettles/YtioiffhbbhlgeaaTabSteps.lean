/- Contracts: slices.IsSorted; a table's steps, gone through by a range over a function. -/
import Derived.Test.YtioiffhbbhlgeaaTabLib
import Derived.Test.YtioiffhbbhlgeaaTailIn
import Derived.RangeFuncNested
import Derived.RangeFuncBound
import Derived.RangeFuncCalls
import Derived.RangeFuncLeaves
import Derived.RangeFuncBox
import Derived.Shelf.Abstract
import Derived.Shelf.RegionOpen
import Derived.OwnWalkIn
import Derived.TacticsInMore
import Derived.LoopNIn
import Derived.LoopIn
namespace Go.Proofs.Ytioiffhbbhlgeaa
namespace TabC
open Go.RowKit Go.Shelf

attribute [local go_sem] Oper.semAt_some

def SortedUp (l : List Int) (k : Nat) : Prop := ∀ j, k ≤ j → j + 1 < l.length → Tb.g l j ≤ Tb.g l (j + 1)

set_option maxHeartbeats 1000000 in
theorem isSorted_c (A : Option Addr) (c : Nat) (l : List Int) (w : World) (hl : l.length ≤ 9223372036854775807) (h1 : 0 < l.length) (hA : Lk.IntsAt w .i64 A l) :
    Calls Try.prog 71 #[.slice A l.length c] w fun e w' => e = .returned (.bool (Tb.riB l)) ∧ Below w.heap.size w w' := by
  obtain ⟨b, off, rfl, c0⟩ := cellG hA (i := 0) h1
  have hb : b < w.heap.size := World.block_lt_of_cell? _ _ c0
  have HA := Lib.hid hA
  clear hA c0
  go_enter Try.func71, Try.ntmps71
  go_wp2_with fail
  go_loopw [3] (fun i wr => ∃ k : Nat, k < l.length ∧ i = .int .i64 k ∧ SortedUp l k ∧ Below w.heap.size w wr) (fun i _ => (intOf i).toNat)
  case atStart => exact ⟨l.length - 1, by omega, by go_num, fun j h1 h2 => by omega, Below.refl _ _⟩
  case round =>
    obtain ⟨k, hk, rfl, hs, hB⟩ := hrel
    have HS := Lib.hid hs
    clear hs
    by_cases hlt : 0 < k
    · obtain ⟨b1, off1, e1, hc1⟩ := cellG HA.out (i := k) hk
      obtain ⟨b2, off2, e2, hc2⟩ := cellG HA.out (i := k - 1) (by omega)
      simp only [Option.some.injEq, Addr.mk.injEq, and_true] at e1 e2
      obtain ⟨rfl, rfl⟩ := e1
      obtain ⟨rfl, rfl⟩ := e2
      have hd1 := (hB.cell (p := ⟨b, off + k, none⟩) hb).trans hc1
      have hd2 := (hB.cell (p := ⟨b, off + (k - 1), none⟩) hb).trans hc2
      clear hc1 hc2
      obtain ⟨k', rfl⟩ : ∃ k', k = k' + 1 := ⟨k - 1, by omega⟩
      rw [Nat.add_sub_cancel] at hd2
      generalize hx : Tb.g l (k' + 1) = x at hd1
      generalize hy : Tb.g l k' = y at hd2
      have HX := Lib.hid hx
      have HY := Lib.hid hy
      clear hx hy
      have e3 : IntKind.i64.wrap (((k' + 1 : Nat) : Int) - 1) = (k' : Int) := by rw [IntWalk.i64_in _ (by omega)]; omega
      have e4 : ((k' + 1 : Nat) : Int) - 1 = (k' : Int) := by omega
      by_cases hxy : x < y
      · have hd : decide (x < y) = true := by simp [hxy]
        have lc : ∀ W, Calls Try.prog 73 #[.int .i64 x, .int .i64 y] W fun e w' => e = .returned (.bool true) ∧ w' = W :=
          fun W => (less_c x y W).mono fun _ _ h => ⟨by rw [← hd]; exact h.1, h.2.symm⟩
        have LC := Lib.hid lc
        clear lc
        go_wp2_with fail
        go_quiet ((go_at_call 73; exact Calls.quiet_of_same (LC.out _)))
        go_wp2_with fail
        go_ret
        refine ⟨ret_bool ?_, below_drewN hB _⟩
        symm
        rw [Bool.eq_false_iff]
        intro h
        have := (Tb.riB_iff l).1 h k' hk
        rw [HX.out, HY.out] at this
        omega
      · have hd : decide (x < y) = false := by simp [hxy]
        have lc : ∀ W, Calls Try.prog 73 #[.int .i64 x, .int .i64 y] W fun e w' => e = .returned (.bool false) ∧ w' = W :=
          fun W => (less_c x y W).mono fun _ _ h => ⟨by rw [← hd]; exact h.1, h.2.symm⟩
        have LC := Lib.hid lc
        clear lc
        go_wp2_with fail
        go_quiet ((go_at_call 73; exact Calls.quiet_of_same (LC.out _)))
        go_wp2_with fail
        go_roundw
        case rel =>
          refine ⟨k', by omega, by go_num, ?_, below_drewN hB _⟩
          intro j h1 h2
          by_cases e : j = k'
          · subst e; rw [HX.out, HY.out]; omega
          · exact HS.out j (by omega) h2
        case measure => simp [intOf]
    · obtain rfl : k = 0 := by omega
      go_wp2_with fail
      go_ret
      refine ⟨ret_bool ?_, hB⟩
      symm
      rw [Tb.riB_iff]
      intro j hj
      exact HS.out j (Nat.zero_le _) hj

/-- **steps**: the table is boxed; the function value captures the box. -/
theorem steps_c (A B : Option Addr) (na nb ca cb : Nat) (w : World) :
    Calls Try.prog 50 #[.agg #[.slice A na ca, .slice B nb cb]] w fun e w' => e = .returned (.func (.func 69) #[] #[.pointer (some ⟨w.heap.size, 0, none⟩)]) ∧ w.alloc (.cells #[.slice A na ca, .slice B nb cb] 24) = w' := by
  go_enter Try.func50, Try.ntmps50
  go_wp2
  go_ret
  exact ⟨rfl, rfl⟩

/-- A place of a table that has one behind it. -/
abbrev Idx (xs : List Int) := { k : Nat // k + 1 < xs.length }
def stepOf (xs ys : List Int) (k : Nat) : Value := .agg #[.int .i64 (Tb.g xs k), .int .i64 (Tb.g xs (k + 1)), .int .i64 (Tb.g ys k), .int .i64 (Tb.g ys (k + 1))]
def encS (xs ys : List Int) (k : Idx xs) : Array Value := #[stepOf xs ys k.1]
/-- The first m steps. -/
def ups (xs : List Int) : Nat → List (Idx xs)
  | 0 => []
  | m + 1 => if h : m + 1 < xs.length then ups xs m ++ [⟨m, h⟩] else ups xs m
theorem ups_succ {xs : List Int} {m : Nat} (h : m + 1 < xs.length) : ups xs (m + 1) = ups xs m ++ [⟨m, h⟩] := by rw [ups, dif_pos h]
theorem ups_length {xs : List Int} : ∀ {m : Nat}, m + 1 ≤ xs.length → (ups xs m).length = m
  | 0, _ => rfl
  | m + 1, h => by rw [ups_succ (by omega), List.length_append, ups_length (by omega)]; rfl
theorem mem_ups {xs : List Int} {j : Idx xs} : ∀ {m : Nat}, m + 1 ≤ xs.length → (j ∈ ups xs m ↔ j.1 < m)
  | 0, _ => by simp [ups]
  | m + 1, h => by
    rw [ups_succ (by omega), List.mem_append, mem_ups (by omega), List.mem_singleton]
    constructor
    · rintro (h | h)
      · omega
      · rw [h]; simp
    · intro h
      by_cases e : j.1 = m
      · exact .inr (Subtype.ext e)
      · exact .inl (by omega)

/-- What a round keeps: all below n₀, and the table's box. -/
def KpT (n₀ Bs : Nat) (W W' : World) : Prop := Below n₀ W W' ∧ W'.heap[Bs]? = W.heap[Bs]?
theorem KpT.refl (n₀ Bs : Nat) (W : World) : KpT n₀ Bs W W := ⟨Below.refl _ _, rfl⟩
theorem KpT.trans {n₀ Bs : Nat} {A B C : World} (h : KpT n₀ Bs A B) (k : KpT n₀ Bs B C) : KpT n₀ Bs A C := ⟨h.1.trans k.1, k.2.trans h.2⟩
theorem KpT.drew {n₀ Bs : Nat} {A B : World} (h : KpT n₀ Bs A B) : KpT n₀ Bs A B.drew := ⟨h.1.drew, h.2⟩
theorem kpT_b {n₀ Bs : Nat} {w : World} (hn : n₀ ≤ w.heap.size) (hB : Bs < w.heap.size) (W : World) (l : Nat) (o o' : Obj) (hl : w.heap.size ≤ l) (h : W.heap[l]? = some o) (h1 : o.isCells = false) (h2 : o.isWalk = false) : KpT n₀ Bs W (W.putObj l o') :=
  ⟨belowK_b hn W l o o' hl h h1 h2, World.putObj_heap_other (by omega)⟩

/-- A table's box, and its two lists, below n₀. -/
structure TabBox (n₀ Bs : Nat) (W : World) (A B : Option Addr) (ca cb : Nat) (xs ys : List Int) : Prop where
  box : W.heap[Bs]? = some (.cells #[.slice A xs.length ca, .slice B ys.length cb] 24 (0, 0))
  xa : ∀ i, i < xs.length → ∃ b off, A = some ⟨b, off, none⟩ ∧ b < n₀ ∧ W.cell? ⟨b, off + i, none⟩ = some (.int .i64 (Tb.g xs i))
  ya : ∀ i, i < ys.length → ∃ b off, B = some ⟨b, off, none⟩ ∧ b < n₀ ∧ W.cell? ⟨b, off + i, none⟩ = some (.int .i64 (Tb.g ys i))
theorem TabBox.kp {n₀ Bs : Nat} {W W' : World} {A B : Option Addr} {ca cb : Nat} {xs ys : List Int} (h : TabBox n₀ Bs W A B ca cb xs ys) (k : KpT n₀ Bs W W') : TabBox n₀ Bs W' A B ca cb xs ys := by
  refine ⟨k.2.trans h.box, fun i hi => ?_, fun i hi => ?_⟩
  · obtain ⟨b, off, e, hb, hc⟩ := h.xa i hi
    exact ⟨b, off, e, hb, (k.1.cell (p := ⟨b, off + i, none⟩) hb).trans hc⟩
  · obtain ⟨b, off, e, hb, hc⟩ := h.ya i hi
    exact ⟨b, off, e, hb, (k.1.cell (p := ⟨b, off + i, none⟩) hb).trans hc⟩
theorem cell_of_box {W : World} {Bs t : Nat} {vs : Array Value} (h : W.heap[Bs]? = some (.cells vs t (0, 0))) (i : Nat) : W.cell? ⟨Bs, i, none⟩ = vs[i]? := by
  simp [World.cell?, h]

set_option maxRecDepth 100000 in
set_option maxHeartbeats 4000000 in
theorem steps1_in (n l n₀ Bs : Nat) (A B : Option Addr) (ca cb : Nat) (xs ys : List Int) (h2 : 2 ≤ xs.length) (hl : xs.length ≤ 9223372036854775807) (hs : ys.length = xs.length) (J Jx : List (Idx xs) → World → Prop) (W : World)
    (hJ : AbidesFrom W.heap.size J)
    (hY : ∀ pre x W1, J pre W1 → pre.length < xs.length - 1 → YieldAt Fence.wide (n - 1) Try.prog l (encS xs ys x) W1 fun e W' =>
      (e = .returned (.bool true) ∧ J (pre ++ [x]) W' ∧ KpT n₀ Bs W1 W') ∨ (e = .returned (.bool false) ∧ Jx (pre ++ [x]) W'))
    (hT : TabBox n₀ Bs W A B ca cb xs ys) (h0 : J [] W) :
    CallsIn Fence.wide n Try.prog 69 #[.func (.yield l) #[] #[], .pointer (some ⟨Bs, 0, none⟩)] W fun e W' => (∃ v, e = .returned v) ∧
      ((∃ zs, zs = ups xs (xs.length - 1) ∧ J zs W') ∨ (∃ pre, (∃ k, k + 1 < xs.length ∧ pre = ups xs (k + 1)) ∧ Jx pre W')) := by
  have HJ := Lib.hid hJ
  have HY := Lib.hid hY
  have HT := Lib.hid hT
  have HSM := Lib.hid hs
  clear hJ hY hT hs
  refine callsIn_of_wp Try.func69 rfl trivial ?_ rfl
  simp only [Try.ntmps69, List.size_toArray, List.length_cons, List.length_nil, Nat.reduceAdd, Nat.reduceSub, Array.replicate_succ, Array.replicate_zero, List.push_toArray, List.append_toArray, List.nil_append, List.cons_append]
  gi_wp2
  gi_loopw [3] (fun i wr => ∃ k : Nat, k + 1 ≤ xs.length ∧ i = .int .i64 ((k + 1 : Nat) : Int) ∧ J (ups xs k) wr ∧ KpT n₀ Bs W wr) (fun i _ => xs.length - (intOf i).toNat)
  case atStart => exact ⟨0, by omega, rfl, h0, KpT.refl _ _ _⟩
  case round =>
    obtain ⟨k, hk, rfl, hJs, hK⟩ := hrel
    have HT2 := Lib.hid (HT.out.kp hK)
    have cx : wr.cell? ⟨Bs, 0, none⟩ = some (.slice A xs.length ca) := by rw [cell_of_box HT2.out.box]; rfl
    have cy : wr.cell? ⟨Bs, 1, none⟩ = some (.slice B ys.length cb) := by rw [cell_of_box HT2.out.box]; rfl
    rw [HSM.out] at cy
    have HK := Lib.hid hK
    clear hK
    by_cases hlt : k + 1 < xs.length
    · obtain ⟨b1, o1, rfl, hb1, c1⟩ := HT2.out.xa k (by omega)
      obtain ⟨b1', o1', e1, _, c2⟩ := HT2.out.xa (k + 1) hlt
      simp only [Option.some.injEq, Addr.mk.injEq, and_true] at e1
      obtain ⟨rfl, rfl⟩ := e1
      obtain ⟨b2, o2, rfl, hb2, c3⟩ := HT2.out.ya k (by rw [HSM.out]; omega)
      obtain ⟨b2', o2', e2, _, c4⟩ := HT2.out.ya (k + 1) (by rw [HSM.out]; exact hlt)
      simp only [Option.some.injEq, Addr.mk.injEq, and_true] at e2
      obtain ⟨rfl, rfl⟩ := e2
      have hJd : J (ups xs k) wr.drew := HJ.out _ wr wr.drew none hJs ⟨rfl, rfl, rfl, Nat.le_refl _, fun _ _ _ => rfl⟩ (fun r e => by cases e)
      obtain ⟨fn, tmps, assign, body, hy, hR⟩ := HY.out (ups xs k) ⟨k, hlt⟩ wr.drew hJd (by rw [ups_length (by omega)]; omega)
      simp only [encS, stepOf] at hy
      have HR := Lib.hid hR
      have e5 : IntKind.i64.wrap (k : Int) = k := IntWalk.i64_in _ (by omega)
      have g0 : k < xs.length := by omega
      have g1 : (k : Int) + 1 < (xs.length : Int) := by omega
      have g2 : 0 ≤ (k : Int) + 1 := by omega
      have g3 : ((k : Int) + 1).toNat = k + 1 := by omega
      clear hR hJd
      gi_wp2
      refine Lk.wpIn_region_tail 24 (Lk.open_wide _ _) (by kernel_rfl) (by kernel_rfl) (by kernel_rfl) ?_
      simp only [List.take_succ_cons, List.take_zero, List.drop_succ_cons, List.drop_zero]
      repeat still_step
      try refine wpStill_nil ?_
      gi_wp2
      refine ⟨fun e => (by cases e), HR.out.mono ?_⟩
      rintro e W3 (⟨rfl, hJ3, hk3⟩ | ⟨rfl, hJx3⟩)
      · have hk4 : KpT n₀ Bs W W3 := HK.out.drew.trans hk3
        have HK4 := Lib.hid hk4
        have HJ4 := Lib.hid hJ3
        clear hk3 hk4 hJ3 hy cx cy c1 c2 c3 c4
        gi_wp2
        go_roundw
        case rel => exact ⟨k + 1, by omega, by go_num, by rw [ups_succ hlt]; exact HJ4.out, HK4.out⟩
        case measure => simp [intOf]; omega
      · have HJ4 := Lib.hid hJx3
        clear hJx3 hy cx cy c1 c2 c3 c4
        gi_wp2
        refine bodyPost_ret (results_none rfl _ _ _) rfl ?_
        exact ⟨⟨_, rfl⟩, .inr ⟨_, ⟨k, hlt, (ups_succ hlt).symm⟩, HJ4.out⟩⟩
    · gi_wp2
      go_end0
      exact ⟨⟨_, rfl⟩, .inl ⟨_, by rw [show xs.length - 1 = k from by omega], hJs⟩⟩

/-- **What steps hands back**: all steps; or the first ones, where a round has said 'no more'. -/
theorem steps_stops (n n₀ Bs : Nat) (A B : Option Addr) (ca cb : Nat) (xs ys : List Int) (h2 : 2 ≤ xs.length) (hl : xs.length ≤ 9223372036854775807) (hs : ys.length = xs.length) (w : World) (hn₀ : n₀ ≤ w.heap.size) (hBs : Bs < w.heap.size)
    (hT : TabBox n₀ Bs w A B ca cb xs ys) :
    SeqStopsK Fence.wide n Try.prog 69 #[.pointer (some ⟨Bs, 0, none⟩)] (encS xs ys) (KpT n₀ Bs) (fun zs => zs = ups xs (xs.length - 1)) (fun pre => ∃ k, k + 1 < xs.length ∧ pre = ups xs (k + 1)) (xs.length - 1) w := fun l J Jx W hW hJ _ hY h0 =>
  steps1_in n l n₀ Bs A B ca cb xs ys h2 hl hs J Jx W hJ hY (hT.kp ⟨hW.mono hn₀, hW.block Bs hBs⟩) h0

end TabC
end Go.Proofs.Ytioiffhbbhlgeaa
