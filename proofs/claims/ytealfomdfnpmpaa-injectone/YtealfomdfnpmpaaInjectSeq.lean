/- The faults that are there in a frame, gone through by a range over a function: inject.on. -/
import Derived.Test.YtealfomdfnpmpaaInjectRef
import Derived.Test.YtealfomdfnpmpaaRangeKit
import Derived.Test.YtealfomdfnpmpaaTailIn
import Derived.Shelf.Abstract
import Derived.Shelf.RegionOpen
import Derived.OwnWalkIn
import Derived.TacticsInMore
import Derived.LoopNIn
import Derived.LoopIn
import Derived.BigFrameIn
namespace Go.Proofs.Ytealfomdfnpmpaa
namespace Jw
open Go.RowKit Go.Shelf Nj

attribute [local go_sem] Oper.semAt_some

theorem seq_c (A : Option Addr) (n cp : Nat) (fr : Int) (w : World) :
    Calls Try.prog 17 #[.slice A n cp, .int .i64 fr] w fun e w' => e = .returned (.func (.func 21) #[] #[.pointer (some ⟨w.heap.size, 0, none⟩), .pointer (some ⟨w.heap.size + 1, 0, none⟩)]) ∧ (w.alloc (.cells #[.slice A n cp] 23)).alloc (.cells #[.int .i64 fr] 3) = w' := by
  go_enter Try.func17, Try.ntmps17
  go_wp2
  go_ret
  exact ⟨rfl, rfl⟩

/-- A fault loaded out of the midst of a block, inside a fence. -/
theorem ldmIn {F : Fence} {n : Nat} {ops : Array Oper} {rest : List Oper} {op : Oper} {a : Act} {w : World} {Q : Exit → Act → World → Prop} (hw : Region.wanted op (yielded ops a.tmps) = true) (x : Operand) (ho : op.op = .load 27 x)
    (b off : Nat) (k s f l : Int) (hx : a.eval x = .pointer (some ⟨b, off, none⟩)) (hP : w.rangeAt b off (fc k s f l).toList)
    (c : wpListIn F n Try.prog ops Q rest (a.put op.dst (.agg (fc k s f l))) w) : wpListIn F n Try.prog ops Q (op :: rest) a w := by
  refine BigFrame.wpListIn_want hw fun K hK => ⟨fun g hg => ?_, ?_⟩
  · simp [Oper.about, ho] at hg
  · rw [Oper.semAt_eq _ _ _ (by simp [ho])]
    unfold execOp
    simp only [ho, hx, Instr.loadAt, Instr.sureAddr, Sem.run_bind, Sem.run_pure, Result.andThen_ok, run_loadVar_mid w b off 27 (fc k s f l).toList _ hP Try.underlying27 rfl info_fc]
    exact hK _ _ c

theorem ldIn {F : Fence} {n : Nat} {ops : Array Oper} {rest : List Oper} {op : Oper} {a : Act} {w : World} {Q : Exit → Act → World → Prop} (hw : Region.wanted op (yielded ops a.tmps) = true) (x : Operand) (ho : op.op = .load 27 x)
    (b : Nat) (k s f l : Int) (hx : a.eval x = .pointer (some ⟨b, 0, none⟩)) (hP : Blk w b k s f l)
    (c : wpListIn F n Try.prog ops Q rest (a.put op.dst (.agg (fc k s f l))) w) : wpListIn F n Try.prog ops Q (op :: rest) a w :=
  ldmIn hw x ho b 0 k s f l hx (fun j v hv => by rw [Nat.zero_add]; exact (Joins.cell_of_block hP j).trans (by simpa using hv)) c

def encF (fr : Int) (j : Sub fr) : Array Value := #[.agg (fc j.1.k j.1.s j.1.f j.1.l)]
/-- What a round keeps: all below n₀, and the two boxes. -/
def KpF (n₀ B1 B2 : Nat) (W W' : World) : Prop := Below n₀ W W' ∧ W'.heap[B1]? = W.heap[B1]? ∧ W'.heap[B2]? = W.heap[B2]?
theorem KpF.refl (n₀ B1 B2 : Nat) (W : World) : KpF n₀ B1 B2 W W := ⟨Below.refl _ _, rfl, rfl⟩
theorem KpF.trans {n₀ B1 B2 : Nat} {A B C : World} (h : KpF n₀ B1 B2 A B) (k : KpF n₀ B1 B2 B C) : KpF n₀ B1 B2 A C := ⟨h.1.trans k.1, k.2.1.trans h.2.1, k.2.2.trans h.2.2⟩
theorem KpF.grow {n₀ B1 B2 : Nat} {A B C : World} (h : KpF n₀ B1 B2 A B) (hb : Below B.heap.size B C) (h0 : n₀ ≤ B.heap.size) (h1 : B1 < B.heap.size) (h2 : B2 < B.heap.size) : KpF n₀ B1 B2 A C :=
  h.trans ⟨hb.mono h0, hb.block _ h1, hb.block _ h2⟩
theorem kpF_b {n₀ B1 B2 : Nat} {w : World} (hn : n₀ ≤ w.heap.size) (h1 : B1 < w.heap.size) (h2 : B2 < w.heap.size) (W : World) (l : Nat) (o o' : Obj) (hl : w.heap.size ≤ l) (h : W.heap[l]? = some o) (g1 : o.isCells = false) (g2 : o.isWalk = false) : KpF n₀ B1 B2 W (W.putObj l o') :=
  ⟨belowK_b hn W l o o' hl h g1 g2, World.putObj_heap_other (by omega), World.putObj_heap_other (by omega)⟩

/-- The list's box, the frame's box, and the faults below n₀. -/
structure SeqBox (n₀ B1 B2 : Nat) (W : World) (A : Option Addr) (n cp : Nat) (fr : Int) (L : List Flt) : Prop where
  b1 : Lk.BoxV W B1 23 #[.slice A n cp]
  b2 : Lk.BoxV W B2 3 #[.int .i64 fr]
  le : n₀ ≤ W.heap.size
  at_ : ∀ i, i < L.length → ∃ b o, A = some ⟨b, o, none⟩ ∧ b < n₀ ∧ W.rangeAt b (o + i * 4) (fc (L.getD i zero).k (L.getD i zero).s (L.getD i zero).f (L.getD i zero).l).toList
theorem SeqBox.kp {n₀ B1 B2 : Nat} {W W' : World} {A : Option Addr} {n cp : Nat} {fr : Int} {L : List Flt} (h : SeqBox n₀ B1 B2 W A n cp fr L) (k : KpF n₀ B1 B2 W W') : SeqBox n₀ B1 B2 W' A n cp fr L :=
  ⟨k.2.1.trans h.b1, k.2.2.trans h.b2, Nat.le_trans h.le k.1.size, fun i hi => by
    obtain ⟨b, o, e, hb, hr⟩ := h.at_ i hi
    exact ⟨b, o, e, hb, range_below k.1 hb hr⟩⟩
theorem abide {β : Type} {B : Nat} {J : β → World → Prop} (h : AbidesFrom B J) {s : β} {W W' : World} (hj : J s W) (hb : Below W.heap.size W W') : J s W' :=
  h s W W' none hj ⟨hb.os, hb.tape, hb.output, hb.size, fun k hk _ => hb.block k hk⟩ (fun r e => by cases e)

set_option maxRecDepth 100000 in
set_option maxHeartbeats 4000000 in
theorem seq_in (d l n₀ B1 B2 : Nat) (A : Option Addr) (n cp : Nat) (fr : Int) (L : List Flt) (hn : L.length = n) (hl : n ≤ 9223372036854775807) (J Jx : List (Sub fr) → World → Prop) (W : World)
    (hJ : AbidesFrom W.heap.size J)
    (hY : ∀ pre x W1, J pre W1 → pre.length < n → YieldAt Fence.wide (d - 1) Try.prog l (encF fr x) W1 fun e W' =>
      (e = .returned (.bool true) ∧ J (pre ++ [x]) W' ∧ KpF n₀ B1 B2 W1 W') ∨ (e = .returned (.bool false) ∧ Jx (pre ++ [x]) W'))
    (hT : SeqBox n₀ B1 B2 W A n cp fr L) (h0 : J [] W) :
    CallsIn Fence.wide d Try.prog 21 #[.func (.yield l) #[] #[], .pointer (some ⟨B1, 0, none⟩), .pointer (some ⟨B2, 0, none⟩)] W fun e W' => (∃ v, e = .returned v) ∧
      ((∃ zs, zs = ons fr L ∧ J zs W') ∨ (∃ pre, True ∧ Jx pre W')) := by
  have HJ := Lib.hid hJ
  have HY := Lib.hid hY
  have HT := Lib.hid hT
  have HN := Lib.hid hn
  have cx := hT.b1.cell 0
  simp only [List.getElem?_toArray, List.getElem?_cons_zero] at cx
  clear hJ hY hT hn
  refine callsIn_of_wp Try.func21 rfl trivial ?_ rfl
  simp only [Try.ntmps21, List.size_toArray, List.length_cons, List.length_nil, Nat.reduceAdd, Nat.reduceSub, Array.replicate_succ, Array.replicate_zero, List.push_toArray, List.append_toArray, List.nil_append, List.cons_append]
  gi_wp2
  gi_loopw [8] (fun i wr => ∃ m : Nat, m ≤ n ∧ i = .int .i64 m ∧ J (ons fr (L.take m)) wr ∧ KpF n₀ B1 B2 W wr) (fun i _ => n - (intOf i).toNat)
  case atStart => exact ⟨0, Nat.zero_le _, rfl, h0, KpF.refl _ _ _ _⟩
  case round =>
    obtain ⟨m, hm, rfl, hJs, hK⟩ := hrel
    clear cx
    have HT2 := Lib.hid (HT.out.kp hK)
    have HK := Lib.hid hK
    have HJs := Lib.hid hJs
    clear hK hJs h0
    by_cases hlt : m < n
    · obtain ⟨b, o, rfl, hb, hr⟩ := HT2.out.at_ m (by rw [HN.out]; exact hlt)
      have HS : Hid (ons fr (L.take (m + 1)) = ons fr (L.take m) ++ ons fr [L.getD m zero]) := by show _ = _; rw [take_snoc (by rw [HN.out]; exact hlt), ons_app]
      have HLen : Hid ((ons fr (L.take m)).length < n) := Nat.lt_of_le_of_lt (ons_len _ _) (by rw [List.length_take]; omega)
      obtain ⟨k, s, f, lo, ej⟩ := getD_eta L m
      rw [ej] at HS hr
      have HR := Lib.hid hr
      clear hr ej
      have c2 : ∀ o, (wr.alloc o).cell? ⟨B2, 0, none⟩ = some (.int .i64 fr) := fun o => by rw [(HT2.out.b2.alloc o).cell 0]; rfl
      gi_wp2_with (first | (refine ldmIn rfl _ rfl _ _ _ _ _ _ rfl HR.out ?_) | fail)
      have lw1 : B1 < wr.heap.size := HT2.out.b1.lt
      have lw2 : B2 < wr.heap.size := HT2.out.b2.lt
      cases hon : onB ⟨k, s, f, lo⟩ fr with
      | true =>
        have C : Hid (∀ W, Calls Try.prog 11 #[.agg (fc k s f lo), .int .i64 fr] W fun e w' => e = .returned (.bool true) ∧ Below W.heap.size W w') := fun W => by
          have := on_c k s f lo fr W
          rwa [hon] at this
        rw [ons_on hon] at HS
        refine ⟨trivial, fun e => (by cases e), (callsIn_wide.2 (C.out _)).mono ?_⟩
        rintro e W2 ⟨rfl, hb2⟩
        have hbw : Below wr.heap.size wr W2 := ((Below.refl _ _).alloc (Nat.le_refl _) _).trans (hb2.mono (by simp))
        have hsz : wr.heap.size < W2.heap.size := Nat.lt_of_lt_of_le (by simp) hb2.size
        have hj : Blk W2 wr.heap.size k s f lo := (Blk.new wr k s f lo).grow hb2
        have HK2 := Lib.hid (HK.out.grow hbw HT2.out.le lw1 lw2)
        have HJ2 := Lib.hid (abide HJ.out HJs.out hbw)
        have HBk := Lib.hid hj
        obtain ⟨fn, tmps, assign, body, hy, hR⟩ := HY.out (ons fr (L.take m)) ⟨_, hon⟩ W2 HJ2.out HLen.out
        simp only [encF] at hy
        have HRd := Lib.hid hR
        clear hR hj hb2 hbw C c2
        have hfn : ∀ f, Fence.wide.fn f := fun _ => trivial
        gi_wp2_with (first | (refine ldIn rfl _ rfl _ _ _ _ _ rfl HBk.out ?_) | fail)
        refine ⟨fun e => (by cases e), HRd.out.mono ?_⟩
        rintro e W3 (⟨rfl, hJ3, hk3⟩ | ⟨rfl, hJx3⟩)
        · have HK4 := Lib.hid (HK2.out.trans hk3)
          have HJ4 := Lib.hid hJ3
          clear hk3 hJ3 hy
          gi_wp2
          go_roundw
          case rel => exact ⟨m + 1, by omega, by go_num, by rw [HS.out]; exact HJ4.out, HK4.out⟩
          case measure => simp [intOf]; omega
        · have HJ4 := Lib.hid hJx3
          clear hJx3 hy
          gi_wp2
          refine bodyPost_ret (results_none rfl _ _ _) rfl ?_
          exact ⟨⟨_, rfl⟩, .inr ⟨_, trivial, HJ4.out⟩⟩
      | false =>
        have C : Hid (∀ W, Calls Try.prog 11 #[.agg (fc k s f lo), .int .i64 fr] W fun e w' => e = .returned (.bool false) ∧ Below W.heap.size W w') := fun W => by
          have := on_c k s f lo fr W
          rwa [hon] at this
        rw [ons_off hon, List.append_nil] at HS
        refine ⟨trivial, fun e => (by cases e), (callsIn_wide.2 (C.out _)).mono ?_⟩
        rintro e W2 ⟨rfl, hb2⟩
        have hbw : Below wr.heap.size wr W2 := ((Below.refl _ _).alloc (Nat.le_refl _) _).trans (hb2.mono (by simp))
        have HK2 := Lib.hid (HK.out.grow hbw HT2.out.le lw1 lw2)
        have HJ2 := Lib.hid (abide HJ.out HJs.out hbw)
        clear hb2 hbw C c2 hon
        have hfn : ∀ f, Fence.wide.fn f := fun _ => trivial
        gi_wp2
        go_roundw
        case rel => exact ⟨m + 1, by omega, by go_num, by rw [HS.out]; exact HJ2.out, HK2.out⟩
        case measure => simp [intOf]; omega
    · obtain rfl : m = n := by omega
      gi_wp2
      go_end0
      exact ⟨⟨_, rfl⟩, .inl ⟨_, by rw [List.take_of_length_le (by rw [HN.out]; exact Nat.le_refl _)], HJs.out⟩⟩
end Jw
end Go.Proofs.Ytealfomdfnpmpaa
