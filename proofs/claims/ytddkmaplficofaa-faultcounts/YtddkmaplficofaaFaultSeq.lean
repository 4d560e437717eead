/- Records, gone through by a range over a function: fault.where at records; what it asks of each. -/
import Derived.Test.YtddkmaplficofaaFaultRec
import Derived.Test.YtddkmaplficofaaRangeKit
import Derived.Laws.EntriesVeiled
import Derived.Shelf.Abstract
import Derived.Shelf.RegionOpen
import Derived.OwnWalkIn
import Derived.TacticsInMore
import Derived.LoopNIn
import Derived.LoopIn
import Derived.BigFrameIn
namespace Go.Proofs.Ytddkmaplficofaa
namespace Fw
open Go.RowKit Go.Shelf Fa Lk
open Sp (R)

attribute [local go_sem] Oper.semAt_some

/-- Which closure asks what. -/
def So (K : Nat) (c : Int) (q : R → Bool) : Prop := (K = 26 ∧ q = eqB c) ∨ (K = 29 ∧ q = eqB c) ∨ (K = 30 ∧ q = gtB c)
abbrev fv (K B : Nat) : Value := .func (.func K) #[] #[.pointer (some ⟨B, 0, none⟩)]

theorem eqB_int (c : Int) (r : R) : (r.code == c) = eqB c r := rfl
theorem find1_c (r : R) (c : Int) (B : Nat) (w : World) (hc : BoxV w B 3 #[.int .i64 c]) :
    Calls Try.prog 26 #[.agg (rcs r), .pointer (some ⟨B, 0, none⟩)] w fun e w' => e = .returned (.bool (eqB c r)) ∧ Below w.heap.size w w' := by
  have c0 := (hc.alloc (.cells (rcs r) 30)).cell 0
  simp only [List.getElem?_toArray, List.getElem?_cons_zero] at c0
  have HB : Hid (Below w.heap.size w (w.alloc (.cells (rcs r) 30))) := (Below.refl _ _).alloc (Nat.le_refl _) _
  clear hc
  go_enter Try.func26, Try.ntmps26
  go_wp2_with fail
  go_ret
  exact ⟨rfl, HB.out⟩
theorem change1_c (r : R) (c : Int) (B : Nat) (w : World) (hc : BoxV w B 3 #[.int .i64 c]) :
    Calls Try.prog 29 #[.agg (rcs r), .pointer (some ⟨B, 0, none⟩)] w fun e w' => e = .returned (.bool (eqB c r)) ∧ Below w.heap.size w w' := by
  have c0 := (hc.alloc (.cells (rcs r) 30)).cell 0
  simp only [List.getElem?_toArray, List.getElem?_cons_zero] at c0
  have HB : Hid (Below w.heap.size w (w.alloc (.cells (rcs r) 30))) := (Below.refl _ _).alloc (Nat.le_refl _) _
  clear hc
  go_enter Try.func29, Try.ntmps29
  go_wp2_with fail
  go_ret
  exact ⟨rfl, HB.out⟩
theorem change2_c (r : R) (c : Int) (B : Nat) (w : World) (hc : BoxV w B 3 #[.int .i64 c]) :
    Calls Try.prog 30 #[.agg (rcs r), .pointer (some ⟨B, 0, none⟩)] w fun e w' => e = .returned (.bool (gtB c r)) ∧ Below w.heap.size w w' := by
  have c0 := (hc.alloc (.cells (rcs r) 30)).cell 0
  simp only [List.getElem?_toArray, List.getElem?_cons_zero] at c0
  have HB : Hid (Below w.heap.size w (w.alloc (.cells (rcs r) 30))) := (Below.refl _ _).alloc (Nat.le_refl _) _
  clear hc
  go_enter Try.func30, Try.ntmps30
  go_wp2_with fail
  go_ret
  exact ⟨rfl, HB.out⟩

/-- The closure that first hands on. -/
theorem first1_c {K : Nat} {c : Int} {q : R → Bool} (hK : So K c q) (i : Nat) (r : R) (B Bf : Nat) (w : World) (hc : BoxV w B 3 #[.int .i64 c]) (hf : BoxV w Bf 47 #[fv K B]) :
    Calls Try.prog 33 #[.int .i64 i, .agg (rcs r), .pointer (some ⟨Bf, 0, none⟩)] w fun e w' => e = .returned (.bool (q r)) ∧ Below w.heap.size w w' := by
  have f0 := (hf.alloc (.cells (rcs r) 30)).cell 0
  simp only [List.getElem?_toArray, List.getElem?_cons_zero] at f0
  have HC := Lib.hid (hc.alloc (.cells (rcs r) 30))
  have HB : Hid (Below w.heap.size w (w.alloc (.cells (rcs r) 30))) := (Below.refl _ _).alloc (Nat.le_refl _) _
  clear hc hf
  rcases hK with ⟨rfl, rfl⟩ | ⟨rfl, rfl⟩ | ⟨rfl, rfl⟩
  · go_enter Try.func33, Try.ntmps33
    go_wp2_with (go_at_call 26; refine (find1_c r c B _ HC.out).mono ?_; rintro e W ⟨rfl, hb⟩; replace HB := Lib.hid (HB.out.trans (hb.mono (by simp))); clear hb)
    go_ret
    exact ⟨rfl, HB.out⟩
  · go_enter Try.func33, Try.ntmps33
    go_wp2_with (go_at_call 29; refine (change1_c r c B _ HC.out).mono ?_; rintro e W ⟨rfl, hb⟩; replace HB := Lib.hid (HB.out.trans (hb.mono (by simp))); clear hb)
    go_ret
    exact ⟨rfl, HB.out⟩
  · go_enter Try.func33, Try.ntmps33
    go_wp2_with (go_at_call 30; refine (change2_c r c B _ HC.out).mono ?_; rintro e W ⟨rfl, hb⟩; replace HB := Lib.hid (HB.out.trans (hb.mono (by simp))); clear hb)
    go_ret
    exact ⟨rfl, HB.out⟩

theorem where_c (A : Option Addr) (n cp : Nat) (Bf : Nat) (w : World) :
    Calls Try.prog 32 #[.slice A n cp, fv 33 Bf] w fun e w' => e = .returned (.func (.func 37) #[] #[.pointer (some ⟨w.heap.size, 0, none⟩), .pointer (some ⟨w.heap.size + 1, 0, none⟩)]) ∧ (w.alloc (.cells #[.slice A n cp] 24)).alloc (.cells #[fv 33 Bf] 54) = w' := by
  go_enter Try.func32, Try.ntmps32
  go_wp2
  go_ret
  exact ⟨rfl, rfl⟩

/-- A record loaded out of the midst of a block, inside a fence. -/
theorem ldrmIn {F : Fence} {n : Nat} {ops : Array Oper} {rest : List Oper} {op : Oper} {a : Act} {w : World} {Q : Exit → Act → World → Prop} (hw : Region.wanted op (yielded ops a.tmps) = true) (x : Operand) (ho : op.op = .load 30 x)
    (b off : Nat) (r : R) (hx : a.eval x = .pointer (some ⟨b, off, none⟩)) (hP : w.rangeAt b off (rcs r).toList)
    (c : wpListIn F n Try.prog ops Q rest (a.put op.dst (.agg (rcs r))) w) : wpListIn F n Try.prog ops Q (op :: rest) a w := by
  refine BigFrame.wpListIn_want hw fun K hK => ⟨fun g hg => ?_, ?_⟩
  · simp [Oper.about, ho] at hg
  · rw [Oper.semAt_eq _ _ _ (by simp [ho])]
    unfold execOp
    simp only [ho, hx, Instr.loadAt, Instr.sureAddr, Sem.run_bind, Sem.run_pure, Result.andThen_ok, run_loadVar_mid w b off 30 (rcs r).toList _ hP Try.underlying30 rfl info_rs]
    exact hK _ _ c

def encN (x : Nat) : Array Value := #[.int .i64 x]
/-- What a round keeps: all below n₀, and some boxes. -/
def Kl (n₀ : Nat) (Bs : List Nat) (W W' : World) : Prop := Below n₀ W W' ∧ ∀ b ∈ Bs, W'.heap[b]? = W.heap[b]?
namespace Kl
variable {n₀ : Nat} {Bs : List Nat} {A B C : World}
theorem refl (n₀ : Nat) (Bs : List Nat) (W : World) : Kl n₀ Bs W W := ⟨Below.refl _ _, fun _ _ => rfl⟩
theorem trans (h : Kl n₀ Bs A B) (k : Kl n₀ Bs B C) : Kl n₀ Bs A C := ⟨h.1.trans k.1, fun b hb => (k.2 b hb).trans (h.2 b hb)⟩
theorem grow (h : Kl n₀ Bs A B) (hb : Below B.heap.size B C) (h0 : n₀ ≤ B.heap.size) (h1 : ∀ b ∈ Bs, b < B.heap.size) : Kl n₀ Bs A C := h.trans ⟨hb.mono h0, fun b hbs => hb.block b (h1 b hbs)⟩
theorem putObj {w : World} (hn : n₀ ≤ w.heap.size) (h1 : ∀ b ∈ Bs, b < w.heap.size) (W : World) (l : Nat) (o o' : Obj) (hl : w.heap.size ≤ l) (h : W.heap[l]? = some o) (g1 : o.isCells = false) (g2 : o.isWalk = false) : Kl n₀ Bs W (W.putObj l o') :=
  ⟨belowK_b hn W l o o' hl h g1 g2, fun b hb => World.putObj_heap_other (by have := h1 b hb; omega)⟩
end Kl
theorem abide {β : Type} {B : Nat} {J : β → World → Prop} (h : AbidesFrom B J) {s : β} {W W' : World} (hj : J s W) (hb : Below W.heap.size W W') : J s W' :=
  h s W W' none hj ⟨hb.os, hb.tape, hb.output, hb.size, fun k hk _ => hb.block k hk⟩ (fun r e => by cases e)

/-- The boxes of a walk through records, and the records below n₀. -/
structure SeqBox (n₀ B1 B2 Bf Bc : Nat) (W : World) (A : Option Addr) (n cp K : Nat) (c : Int) (L : List R) : Prop where
  b1 : BoxV W B1 24 #[.slice A n cp]
  b2 : BoxV W B2 54 #[fv 33 Bf]
  bf : BoxV W Bf 47 #[fv K Bc]
  bc : BoxV W Bc 3 #[.int .i64 c]
  lc : Bc < n₀
  le : n₀ ≤ W.heap.size
  at_ : ∀ i r, L[i]? = some r → ∃ g o, A = some ⟨g, o, none⟩ ∧ g < n₀ ∧ W.rangeAt g (o + i * 3) (rcs r).toList
theorem SeqBox.kl {n₀ B1 B2 Bf Bc : Nat} {W W' : World} {A : Option Addr} {n cp K : Nat} {c : Int} {L : List R} (h : SeqBox n₀ B1 B2 Bf Bc W A n cp K c L) (k : Kl n₀ [B1, B2, Bf] W W') : SeqBox n₀ B1 B2 Bf Bc W' A n cp K c L :=
  ⟨(k.2 B1 (by simp)).trans h.b1, (k.2 B2 (by simp)).trans h.b2, (k.2 Bf (by simp)).trans h.bf, h.bc.below k.1 h.lc, h.lc, Nat.le_trans h.le k.1.size, fun i r hi => by
    obtain ⟨g, o, e, hg, hr⟩ := h.at_ i r hi
    exact ⟨g, o, e, hg, fun j v hv => (k.1.cell (p := ⟨g, o + i * 3 + j, none⟩) hg).trans (hr j v hv)⟩⟩
/-- Whether the record at a place is so. -/
def qi (q : R → Bool) (L : List R) (i : Nat) : Bool := match L[i]? with
  | some r => q r
  | none => false
theorem qi_some {q : R → Bool} {L : List R} {i : Nat} {r : R} (h : L[i]? = some r) : qi q L i = q r := by simp [qi, h]
theorem ups_yes {q : Nat → Bool} {m : Nat} (h : q m = true) : ups q (m + 1) = ups q m ++ [m] := by rw [ups_succ, h]; rfl
theorem ups_no {q : Nat → Bool} {m : Nat} (h : q m = false) : ups q (m + 1) = ups q m := by rw [ups_succ, h]; simp

set_option maxRecDepth 100000 in
set_option maxHeartbeats 4000000 in
theorem seq_in (d l n₀ B1 B2 Bf Bc : Nat) (A : Option Addr) (n cp K : Nat) (c : Int) (q : R → Bool) (hK : So K c q) (L : List R) (hn : L.length = n) (hl : n ≤ 9223372036854775807) (J Jx : List Nat → World → Prop) (W : World)
    (hJ : AbidesFrom W.heap.size J)
    (hY : ∀ pre x W1, J pre W1 → pre.length < n → YieldAt Fence.wide (d - 1) Try.prog l (encN x) W1 fun e W' =>
      (e = .returned (.bool true) ∧ J (pre ++ [x]) W' ∧ Kl n₀ [B1, B2, Bf] W1 W') ∨ (e = .returned (.bool false) ∧ Jx (pre ++ [x]) W'))
    (hT : SeqBox n₀ B1 B2 Bf Bc W A n cp K c L) (h0 : J [] W) :
    CallsIn Fence.wide d Try.prog 37 #[.func (.yield l) #[] #[], .pointer (some ⟨B1, 0, none⟩), .pointer (some ⟨B2, 0, none⟩)] W fun e W' => (∃ v, e = .returned v) ∧
      ((∃ zs, zs = ups (qi q L) n ∧ J zs W') ∨ (∃ pre, (∃ m, m ≤ n ∧ pre = ups (qi q L) m) ∧ Jx pre W')) := by
  have HJ := Lib.hid hJ
  have HY := Lib.hid hY
  have HT := Lib.hid hT
  have HN := Lib.hid hn
  have cx := hT.b1.cell 0
  simp only [List.getElem?_toArray, List.getElem?_cons_zero] at cx
  clear hJ hY hT hn
  refine callsIn_of_wp Try.func37 rfl trivial ?_ rfl
  simp only [Try.ntmps37, List.size_toArray, List.length_cons, List.length_nil, Nat.reduceAdd, Nat.reduceSub, Array.replicate_succ, Array.replicate_zero, List.push_toArray, List.append_toArray, List.nil_append, List.cons_append]
  gi_wp2
  gi_loopw [8] (fun i wr => ∃ m : Nat, m ≤ n ∧ i = .int .i64 m ∧ J (ups (qi q L) m) wr ∧ Kl n₀ [B1, B2, Bf] W wr) (fun i _ => n - (intOf i).toNat)
  case atStart => exact ⟨0, Nat.zero_le _, rfl, h0, Kl.refl _ _ _⟩
  case round =>
    obtain ⟨m, hm, rfl, hJs, hKl⟩ := hrel
    clear cx
    have HT2 := Lib.hid (HT.out.kl hKl)
    have HKl := Lib.hid hKl
    have HJs := Lib.hid hJs
    clear hKl hJs h0
    by_cases hlt : m < n
    · have hlt2 : (m : Int) < n := by omega
      obtain ⟨r, hr⟩ : ∃ r, L[m]? = some r := ⟨L[m]'(by rw [HN.out]; exact hlt), List.getElem?_eq_getElem _⟩
      obtain ⟨g, o, rfl, hg, hrg⟩ := HT2.out.at_ m r hr
      have HLen : Hid ((ups (qi q L) m).length < n) := Nat.lt_of_le_of_lt (ups_len _ _) hlt
      have HQ : Hid (qi q L m = q r) := qi_some hr
      have HR := Lib.hid hrg
      clear hrg hr
      have f2 : ∀ o, (wr.alloc o).cell? ⟨B2, 0, none⟩ = some (fv 33 Bf) := fun o => by rw [(HT2.out.b2.alloc o).cell 0]; rfl
      have C : Hid (∀ o, Calls Try.prog 33 #[.int .i64 m, .agg (rcs r), .pointer (some ⟨Bf, 0, none⟩)] (wr.alloc o) fun e w' => e = .returned (.bool (q r)) ∧ Below (wr.alloc o).heap.size (wr.alloc o) w') := fun o => first1_c hK m r Bc Bf (wr.alloc o) (HT2.out.bc.alloc o) (HT2.out.bf.alloc o)
      have lw : ∀ b ∈ [B1, B2, Bf], b < wr.heap.size := by
        intro b hb
        simp only [List.mem_cons, List.not_mem_nil, or_false] at hb
        rcases hb with rfl | rfl | rfl
        · exact HT2.out.b1.lt
        · exact HT2.out.b2.lt
        · exact HT2.out.bf.lt
      have HLW := Lib.hid lw
      clear lw
      cases hq : q r with
      | true =>
        rw [hq] at C HQ
        have HS : Hid (ups (qi q L) (m + 1) = ups (qi q L) m ++ [m]) := ups_yes HQ.out
        clear hq HQ
        gi_wp2_with (first | (refine ldrmIn rfl _ rfl _ _ r rfl HR.out ?_) | fail)
        refine ⟨trivial, fun e => (by cases e), (callsIn_wide.2 (C.out _)).mono ?_⟩
        rintro e W2 ⟨rfl, hb2⟩
        have hbw : Below wr.heap.size wr W2 := ((Below.refl _ _).alloc (Nat.le_refl _) _).trans (hb2.mono (by simp))
        have HK2 := Lib.hid (HKl.out.grow hbw HT2.out.le HLW.out)
        have HJ2 := Lib.hid (abide HJ.out HJs.out hbw)
        obtain ⟨fn, tmps, assign, body, hy, hR⟩ := HY.out (ups (qi q L) m) m W2 HJ2.out HLen.out
        simp only [encN] at hy
        have HRd := Lib.hid hR
        clear hR hb2 hbw C
        gi_wp2_with fail
        refine ⟨fun e => (by cases e), HRd.out.mono ?_⟩
        rintro e W3 (⟨rfl, hJ3, hk3⟩ | ⟨rfl, hJx3⟩)
        · have HK4 := Lib.hid (HK2.out.trans hk3)
          have HJ4 := Lib.hid hJ3
          clear hk3 hJ3 hy
          gi_wp2
          go_roundw
          case rel => exact ⟨m + 1, by omega, by go_num, by rw [HS.out]; exact HJ4.out, HK4.out⟩
          case measure => simp [intOf]; omega
        · have HJ4 := Lib.hid hJx3
          clear hJx3 hy
          gi_wp2
          refine bodyPost_ret (results_none rfl _ _ _) rfl ?_
          exact ⟨⟨_, rfl⟩, .inr ⟨_, ⟨m + 1, by omega, HS.out.symm⟩, HJ4.out⟩⟩
      | false =>
        rw [hq] at C HQ
        have HS : Hid (ups (qi q L) (m + 1) = ups (qi q L) m) := ups_no HQ.out
        clear hq HQ
        gi_wp2_with (first | (refine ldrmIn rfl _ rfl _ _ r rfl HR.out ?_) | fail)
        refine ⟨trivial, fun e => (by cases e), (callsIn_wide.2 (C.out _)).mono ?_⟩
        rintro e W2 ⟨rfl, hb2⟩
        have hbw : Below wr.heap.size wr W2 := ((Below.refl _ _).alloc (Nat.le_refl _) _).trans (hb2.mono (by simp))
        have HK2 := Lib.hid (HKl.out.grow hbw HT2.out.le HLW.out)
        have HJ2 := Lib.hid (abide HJ.out HJs.out hbw)
        clear hb2 hbw C
        have hfn : ∀ f, Fence.wide.fn f := fun _ => trivial
        gi_wp2
        go_roundw
        case rel => exact ⟨m + 1, by omega, by go_num, by rw [HS.out]; exact HJ2.out, HK2.out⟩
        case measure => simp [intOf]; omega
    · obtain rfl : m = n := by omega
      gi_wp2
      go_end0
      exact ⟨⟨_, rfl⟩, .inl ⟨_, rfl, HJs.out⟩⟩
end Fw
end Go.Proofs.Ytddkmaplficofaa
