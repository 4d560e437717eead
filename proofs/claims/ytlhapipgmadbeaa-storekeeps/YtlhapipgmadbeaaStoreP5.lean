/- The program's store: sooner, greatest, words; slices.Index. -/
import Derived.Test.YtlhapipgmadbeaaStoreP4
import Derived.Deep.MidRow
import Derived.Lib.MinMax
namespace Go.Proofs.Ytlhapipgmadbeaa
namespace Sq
open Go.RowKit Nv Nw Sp Lk

/-- Places, words in a slice. -/
def Pcs (W : World) (A : Option Addr) (L : List Nat) (l : Nat → Pl) : Prop := ∀ j i : Nat, L[j]? = some i → ∃ g, A = some ⟨g, 0, none⟩ ∧ g < W.heap.size ∧ W.rangeAt g (j * 5) (pcs i (l i)).toList
abbrev wcs (x : Nat × Int) : Array Value := #[.int .i64 x.1, .int .u32 x.2]
def Wds (W : World) (A : Option Addr) (L : List (Nat × Int)) : Prop := ∀ j x, L[j]? = some x → ∃ g, A = some ⟨g, 0, none⟩ ∧ g < W.heap.size ∧ W.rangeAt g (j * 2) (wcs x).toList
theorem range_kept {W W' : World} {g o : Nat} {cs : List Value} (e : W'.heap[g]? = W.heap[g]?) (h : W.rangeAt g o cs) : W'.rangeAt g o cs := fun j v hv => (World.cell?_of_block (w := W) (a := ⟨g, o + j, none⟩) e).trans (h j v hv)
theorem Pcs.below {W W' : World} {A : Option Addr} {L : List Nat} {l : Nat → Pl} (h : Pcs W A L l) (hb : Below W.heap.size W W') : Pcs W' A L l := fun j i hj => by
  obtain ⟨g, e, hg, hr⟩ := h j i hj
  exact ⟨g, e, Nat.lt_of_lt_of_le hg hb.size, range_kept (hb.block g hg) hr⟩
theorem Wds.below {W W' : World} {A : Option Addr} {L : List (Nat × Int)} (h : Wds W A L) (hb : Below W.heap.size W W') : Wds W' A L := fun j i hj => by
  obtain ⟨g, e, hg, hr⟩ := h j i hj
  exact ⟨g, e, Nat.lt_of_lt_of_le hg hb.size, range_kept (hb.block g hg) hr⟩
section
variable {ops : Array Oper} {rest : List Oper} {op : Oper} {a : Act} {w : World} {Q : Exit → Act → World → Prop}
/-- A place, a word loaded out of the midst of a block. -/
theorem ldpm (hw : Region.wanted op (yielded ops a.tmps) = true) (x : Operand) (ho : op.op = .load 94 x)
    (b off : Nat) (i : Int) (p : Pl) (hx : a.eval x = .pointer (some ⟨b, off, none⟩)) (hP : w.rangeAt b off (pcs i p).toList)
    (c : wpList Try.prog ops Q rest (a.put op.dst (.agg (pcs i p))) w) : wpList Try.prog ops Q (op :: rest) a w :=
  Lk.wanted hw fun _ hK => wp_load_mid 94 x ho b off hx (pcs i p).toList _ hP Try.underlying94 rfl info_pp (hK _ _ c)
theorem info_wd : (Try.prog.info? 90).map (·.size) = some 2 := by kernel_rfl
theorem ldwm (hw : Region.wanted op (yielded ops a.tmps) = true) (x : Operand) (ho : op.op = .load 90 x)
    (b off : Nat) (y : Nat × Int) (hx : a.eval x = .pointer (some ⟨b, off, none⟩)) (hP : w.rangeAt b off (wcs y).toList)
    (c : wpList Try.prog ops Q rest (a.put op.dst (.agg (wcs y))) w) : wpList Try.prog ops Q (op :: rest) a w :=
  Lk.wanted hw fun _ hK => wp_load_mid 90 x ho b off hx (wcs y).toList _ hP Try.underlying90 rfl info_wd (hK _ _ c)
end

set_option maxHeartbeats 1600000 in
theorem sooner_c (i j : Int) (p q : Pl) (w : World) : Calls Try.prog 56 #[.agg (pcs i p), .agg (pcs j q)] w fun e w' => e = .returned (.bool (soonB i p j q)) ∧ Below w.heap.size w w' := by
  obtain ⟨pn, pk, pt, pl_, pg⟩ := p
  obtain ⟨qn, qk, qt, ql, qg⟩ := q
  have HW : Hid (Below w.heap.size w ((w.alloc (.cells #[.int .i64 i, .int .u32 pn, .int .i64 pk, .int .i64 pt, .bool pl_] 94)).alloc (.cells #[.int .i64 j, .int .u32 qn, .int .i64 qk, .int .i64 qt, .bool ql] 94))) := below_two w _ _
  obtain ⟨x, hx⟩ : ∃ x, soonB i ⟨pn, pk, pt, pl_, pg⟩ j ⟨qn, qk, qt, ql, qg⟩ = x := ⟨_, rfl⟩
  have HX := Lib.hid hx
  rw [hx]
  clear hx
  by_cases h1 : pl_ = ql
  · by_cases h2 : pn = qn
    · have e : x = decide (i < j) := by rw [← HX.out]; unfold soonB; rw [if_pos h1, if_pos h2]
      subst e
      subst h1
      subst h2
      clear HX
      cases pl_
      all_goals
        go_enter Try.func56, Try.ntmps56
        go_wp2_with fail
        go_ret
        exact ⟨rfl, HW.out⟩
    · have e : x = decide (pn < qn) := by rw [← HX.out]; unfold soonB; rw [if_pos h1, if_neg h2]
      subst e
      subst h1
      clear HX
      have h2' : (pn == qn) = false := by simpa using h2
      cases pl_
      all_goals
        go_enter Try.func56, Try.ntmps56
        go_wp2_with fail
        go_ret
        exact ⟨rfl, HW.out⟩
  · have e : x = ql := by rw [← HX.out]; unfold soonB; rw [if_neg h1]
    subst e
    clear HX
    cases pl_ <;> cases x
    · exact absurd rfl h1
    · clear h1
      go_enter Try.func56, Try.ntmps56
      go_wp2_with fail
      go_ret
      exact ⟨rfl, HW.out⟩
    · clear h1
      go_enter Try.func56, Try.ntmps56
      go_wp2_with fail
      go_ret
      exact ⟨rfl, HW.out⟩
    · exact absurd rfl h1

set_option maxHeartbeats 1600000 in
/-- slices.Index of false: the first place that does not hold. -/
theorem index_c (g c P : Nat) (h : Nat → Bool) (w : World) (hP : P ≤ 1000) (hc : ∀ i, i < P → w.cell? ⟨g, i, none⟩ = some (.bool (h i))) (he : ∃ i, i < P ∧ h i = false) :
    Calls Try.prog 49 #[.slice (some ⟨g, 0, none⟩) P c, .bool false] w fun e w' => e = .returned (.int .i64 (first P h)) ∧ w = w' := by
  obtain ⟨f1, f2, f3⟩ := first_spec he
  have HC := Lib.hid hc
  have H3 := Lib.hid f3
  obtain ⟨F, hF⟩ : ∃ F, first P h = F := ⟨_, rfl⟩
  rw [hF] at f1 f2 H3 ⊢
  clear hc f3 he hF
  go_enter Try.func49, Try.ntmps49
  go_wp2_with fail
  go_loopw [8] (fun i wr => ∃ k : Nat, k ≤ F ∧ i = .int .i64 k ∧ w = wr) (fun i _ => P - (intOf i).toNat)
  case atStart => exact ⟨0, Nat.zero_le _, rfl, rfl⟩
  case round =>
    obtain ⟨k, hk, rfl, rfl⟩ := hrel
    have hkP : (k : Int) < P := by omega
    have c0 := HC.out k (by omega)
    by_cases hlt : k < F
    · rw [H3.out k hlt] at c0
      go_wp2_with fail
      go_roundw
      case rel => exact ⟨k + 1, by omega, by go_num, by first | rfl | trivial⟩
      case measure => simp [intOf]; omega
    · obtain rfl : k = F := by omega
      rw [f2] at c0
      go_wp2_with fail
      go_ret
      exact ⟨rfl, rfl⟩

set_option maxHeartbeats 1600000 in
theorem greatest_c (A : Option Addr) (c : Nat) (L : List Nat) (l : Nat → Pl) (w : World) (hl : Okp l) (hL : L.length ≤ 1000) (hc : L.length ≤ c) (hA : Pcs w A L l) (hg : ∀ i ∈ L, (l i).good = true) :
    Calls Try.prog 36 #[.slice A L.length c] w fun e w' => e = .returned (.int .u32 (big l L)) ∧ Below w.heap.size w w' := by
  have HA := Lib.hid hA
  have HN := Lib.hid (fun j i (h : L[j]? = some i) => hl i (hg i (List.mem_of_getElem? h)))
  clear hA hg
  obtain ⟨n, hn⟩ : ∃ n, L.length = n := ⟨_, rfl⟩
  have HE : Hid (L.take n = L) := by show _ = _; rw [← hn, List.take_length]
  have HI : Hid (∀ k, k < n → ∃ i, L[k]? = some i) := fun k hk => ⟨L[k]'(by omega), List.getElem?_eq_getElem (by omega)⟩
  have HB0 : Hid (∀ k, 0 ≤ big l (L.take k) ∧ big l (L.take k) ≤ 2147483648) := fun k => by
    induction k with
    | zero => simp [big]
    | succ k ih =>
      cases e : L[k]? with
      | none =>
        rw [List.take_of_length_le (by have := List.getElem?_eq_none_iff.1 e; omega)]
        rwa [List.take_of_length_le (by have := List.getElem?_eq_none_iff.1 e; omega)] at ih
      | some i =>
        rw [take_snoc e, big_snoc]
        have := HN.out k i e
        omega
  rw [hn] at hL hc ⊢
  clear hn
  go_enter Try.func36, Try.ntmps36
  go_wp2_with fail
  go_loopw [3, 8] (fun t i wr => ∃ k : Nat, k ≤ n ∧ i = .int .i64 k ∧ t = .int .u32 (big l (L.take k)) ∧ Below w.heap.size w wr) (fun _ i _ => n - (intOf i).toNat)
  case atStart => exact ⟨0, Nat.zero_le _, rfl, rfl, Below.refl _ _⟩
  case round =>
    obtain ⟨k, hk, rfl, rfl, hb⟩ := hrel
    have HW := Lib.hid hb
    clear hb
    by_cases hlt : k < n
    · obtain ⟨i, hi⟩ := HI.out k hlt
      obtain ⟨g, rfl, hgl, hr⟩ := HA.out k i hi
      have HR := Lib.hid (range_kept (HW.out.block g hgl) hr)
      have HS : Hid (big l (L.take (k + 1)) = max (big l (L.take k)) (l i).num) := by show _ = _; rw [take_snoc hi, big_snoc]
      have hb0 := HB0.out k
      have hni := HN.out k i hi
      have hkn : (k : Int) < n := by omega
      clear hr hi
      generalize big l (L.take k) = T at *
      generalize l i = p at *
      obtain ⟨pn, pk, pt, plt, pg⟩ := p
      simp only at hni HS
      obtain ⟨n1, n2, _, _⟩ := hni
      obtain ⟨b1, b2⟩ := hb0
      by_cases hm : T < pn
      · have hmx : max T pn = pn := by omega
        go_wp2_with (first | (refine ldpm rfl _ rfl _ _ i ⟨pn, pk, pt, plt, pg⟩ rfl HR.out ?_) | fail)
        go_roundw
        case rel => exact ⟨k + 1, by omega, by go_num, by rw [HS.out, hmx], HW.out.alloc HW.out.size _⟩
        case measure => simp [intOf]; omega
      · have hmx : max T pn = T := by omega
        go_wp2_with (first | (refine ldpm rfl _ rfl _ _ i ⟨pn, pk, pt, plt, pg⟩ rfl HR.out ?_) | fail)
        go_roundw
        case rel => exact ⟨k + 1, by omega, by go_num, by rw [HS.out, hmx], HW.out.alloc HW.out.size _⟩
        case measure => simp [intOf]; omega
    · obtain rfl : k = n := by omega
      have hE := HE.out
      rw [hE]
      clear HB0 HI HN
      go_wp2_with fail
      go_ret
      exact ⟨rfl, HW.out⟩

/-- Words laid into a new block. -/
theorem wds_made (w : World) (o : Obj) (cs : Array Value) {L : List (Nat × Int)} (hc : cs.toList = L.flatMap fun x => (wcs x).toList) : Wds ((w.alloc o).alloc (.cells cs 90)) (some ⟨w.heap.size + 1, 0, none⟩) L := fun j x hj => by
  refine ⟨_, rfl, by simp, fun k v hv => ?_⟩
  have h1 := heap_alloc_last (w.alloc o) (.cells cs 90)
  rw [World.size_alloc] at h1
  refine (Joins.cell_of_block h1 _).trans ?_
  have := Rw.flat_at (f := fun x => (wcs x).toList) (sz := 2) (fun _ => rfl) hj hv
  rw [← hc] at this
  simpa using this
set_option maxHeartbeats 1600000 in
theorem words_c (at_ : Nat) (n : Int) (r : R) (w : World) (hr : okR r = true) (ha : at_ ≤ 1000) :
    Calls Try.prog 38 #[.int .i64 at_, .int .u32 n, .agg (rcs r)] w fun e w' => ∃ g, e = .returned (.slice (some ⟨g, 0, none⟩) 5 5) ∧ w.heap.size ≤ g ∧ Wds w' (some ⟨g, 0, none⟩) (five at_ r n) ∧ Below w.heap.size w w' := by
  have hr2 := of_decide_eq_true hr
  obtain ⟨rk, rt, rl⟩ := r
  obtain ⟨r1, r2, r3, r4⟩ := hr2
  simp only at r1 r2 r3 r4
  cases rl
  · go_enter Try.func38, Try.ntmps38
    go_wp2_with fail
    go_ret
    exact ⟨_, rfl, Nat.le_succ _, wds_made _ _ _ (by simp [five, second]; omega), below_two w _ _⟩
  · go_enter Try.func38, Try.ntmps38
    go_wp2_with fail
    go_ret
    exact ⟨_, rfl, Nat.le_succ _, wds_made _ _ _ (by simp [five, second]; omega), below_two w _ _⟩
end Sq
end Go.Proofs.Ytlhapipgmadbeaa
