/- The program's store, plain arithmetic: which places hold, one behind the other; the one that is let go. -/
import Derived.Test.YtlhapipgmadbeaaStoreP3
namespace Go.Proofs.Ytlhapipgmadbeaa
namespace Sq
open Go.RowKit Nv Nw Sp Lk

/-- Of the places of a list, just those that no other one of it beats. -/
structure Bs (l : Nat → Pl) (S : List Nat) (h : Nat → Bool) : Prop where
  mem : ∀ i, h i = true → i ∈ S
  top : ∀ i, h i = true → ∀ k ∈ S, ¬ beats l k i = true
  cov : ∀ j ∈ S, ∃ i, h i = true ∧ (l i).code = (l j).code
namespace Bs
variable {l : Nat → Pl} {S : List Nat} {h : Nat → Bool}
theorem nil (l : Nat → Pl) : Bs l [] (fun _ => false) := ⟨fun _ h => (by cases h), fun _ h => (by cases h), fun _ h => (by cases h)⟩
theorem put (B : Bs l S h) {x : Nat} (c : ∀ i, h i = true → (l i).code = (l x).code → (l i).num < (l x).num) :
    Bs l (S ++ [x]) (fun i => decide (i = x) || (h i && decide ((l i).code ≠ (l x).code))) := by
  refine ⟨fun i hi => ?_, fun i hi k hk => ?_, fun j hj => ?_⟩
  · simp only [Bool.or_eq_true, decide_eq_true_eq, Bool.and_eq_true] at hi
    rcases hi with rfl | hi
    · simp
    · simp [B.mem i hi.1]
  · simp only [Bool.or_eq_true, decide_eq_true_eq, Bool.and_eq_true] at hi
    rw [List.mem_append, List.mem_singleton] at hk
    intro hb
    have hb2 := beats_iff.1 hb
    rcases hi with rfl | hi
    · rcases hk with hk | rfl
      · obtain ⟨q, hq, hqc⟩ := B.cov k hk
        have h1 := B.top q hq k hk
        have h2 := c q hq (hqc.trans hb2.2.1)
        rw [beats_iff] at h1
        simp only [hb2.1, hqc, true_and] at h1
        omega
      · rw [beats_irr] at hb; cases hb
    · rcases hk with hk | rfl
      · exact B.top i hi.1 k hk hb
      · exact hi.2 hb2.2.1.symm
  · rw [List.mem_append, List.mem_singleton] at hj
    rcases hj with hj | rfl
    · obtain ⟨q, hq, hqc⟩ := B.cov j hj
      by_cases e : (l q).code = (l x).code
      · exact ⟨x, by simp, by rw [← e, hqc]⟩
      · exact ⟨q, by simp [hq, e], hqc⟩
    · exact ⟨j, by simp, rfl⟩
theorem skip (B : Bs l S h) {x i : Nat} (hx : ∀ k ∈ S, k < x) (hi : h i = true) (hc : (l i).code = (l x).code) (hn : ¬ (l i).num < (l x).num) (hu : ∀ i j, h i = true → h j = true → (l i).code = (l j).code → i = j) : Bs l (S ++ [x]) h := by
  refine ⟨fun j hj => by simp [B.mem j hj], fun j hj k hk => ?_, fun j hj => ?_⟩
  · rw [List.mem_append, List.mem_singleton] at hk
    rcases hk with hk | rfl
    · exact B.top j hj k hk
    · intro hb
      have hb2 := beats_iff.1 hb
      have : j = i := hu j i hj hi (hb2.2.1.symm.trans hc.symm)
      subst this
      have := hx j (B.mem j hj)
      omega
  · rw [List.mem_append, List.mem_singleton] at hj
    rcases hj with hj | rfl
    · exact B.cov j hj
    · exact ⟨i, hi, hc⟩
theorem done {P : Nat} (B : Bs l ((List.range P).filter fun i => (l i).good) h) (i : Nat) : h i = (decide (i < P) && best P l i) := by
  have key : ∀ i, h i = true → i < P ∧ best P l i = true := fun i hi => by
    have h1 := B.mem i hi
    rw [List.mem_filter, List.mem_range] at h1
    refine ⟨h1.1, best_iff.2 ⟨h1.2, fun k hk hb => B.top i hi k ?_ hb⟩⟩
    rw [List.mem_filter, List.mem_range]
    exact ⟨hk, (beats_iff.1 hb).1⟩
  apply bool_eq
  rw [Bool.and_eq_true, decide_eq_true_eq]
  constructor
  · exact key i
  · rintro ⟨hi, hb⟩
    obtain ⟨q, hq, hqc⟩ := B.cov i (by rw [List.mem_filter, List.mem_range]; exact ⟨hi, (best_iff.1 hb).1⟩)
    have := key q hq
    rw [best_uniq hi this.1 hb this.2 hqc.symm]
    exact hq
end Bs

/-- Whether one place is let go of ahead of another one. -/
def soonB (i : Int) (p : Pl) (j : Int) (q : Pl) : Bool := if p.lat = q.lat then (if p.num = q.num then decide (i < j) else decide (p.num < q.num)) else q.lat
theorem drop_is {P : Nat} {l : Nat → Pl} {h : Nat → Bool} {j : Nat} (hP : ∀ i, h i = true → i < P) (hj : h j = true) (hm : ∀ i, h i = true → i = j ∨ soonB j (l j) i (l i) = true) : dropAt P l h = j := by
  unfold dropAt
  split
  · rename_i a ha
    obtain ⟨h1, h2, h3, h4⟩ := old_some ha
    rcases hm a h2 with e | e
    · exact e
    · unfold soonB at e
      rw [h3] at e
      split at e
      · rename_i e2
        have := h4 j (hP j hj) hj e2
        split at e
        · have := of_decide_eq_true e; omega
        · have := of_decide_eq_true e; omega
      · cases e
  · rename_i hn
    have hl : (l j).lat = true := by
      cases e : (l j).lat with
      | true => rfl
      | false => exact absurd e (old_none hn j (hP j hj) hj)
    cases ho : old l h true P with
    | none => exact absurd hl (old_none ho j (hP j hj) hj)
    | some a =>
      obtain ⟨h1, h2, h3, h4⟩ := old_some ho
      show a = j
      rcases hm a h2 with e | e
      · exact e
      · unfold soonB at e
        rw [h3, hl, if_pos rfl] at e
        have := h4 j (hP j hj) hj hl
        split at e
        · have := of_decide_eq_true e; omega
        · have := of_decide_eq_true e; omega

/-- The places that are told to be good. -/
def gs (m : M) : List Nat := (List.range (rooms m)).filter (gd m)
/-- The greatest number among places of a list. -/
def big (l : Nat → Pl) (L : List Nat) : Int := L.foldl (fun n i => max n (l i).num) 0
theorem big_snoc (l : Nat → Pl) (L : List Nat) (i : Nat) : big l (L ++ [i]) = max (big l L) (l i).num := by simp [big, List.foldl_append]
theorem big_most (l : Nat → Pl) : ∀ n, big l ((List.range n).filter fun i => (l i).good) = most l n
  | 0 => rfl
  | n + 1 => by
    rw [List.range_succ, List.filter_append]
    by_cases e : (l n).good = true
    · rw [List.filter_cons, List.filter_nil, e]
      simp only [if_true]
      rw [big_snoc, big_most l n]
      by_cases c : most l n < (l n).num
      · rw [most_yes e c]; omega
      · rw [most_no (fun q => c q.2)]; omega
    · have e' : (l n).good = false := by simpa using e
      rw [List.filter_cons, List.filter_nil, e']
      simp only [Bool.false_eq_true, if_false, List.append_nil]
      rw [big_most l n, most_no (fun q => e q.1)]
theorem gs_on {m : M} (hg : m.gone = false) : gs m = (List.range (rooms m)).filter fun i => (pl m.ws i).good := by
  unfold gs
  congr 1
  funext i
  unfold gd
  rw [hg]; rfl
theorem gs_gone {m : M} (hg : m.gone = true) : gs m = [] := by
  unfold gs
  rw [List.filter_eq_nil_iff]
  intro i _
  unfold gd
  rw [hg]; simp
theorem gs_mem {m : M} {i : Nat} (h : i ∈ gs m) : i < rooms m ∧ (pl m.ws i).good = true := by
  unfold gs at h
  rw [List.mem_filter, List.mem_range] at h
  refine ⟨h.1, ?_⟩
  have := h.2
  unfold gd at this
  simp only [Bool.and_eq_true] at this
  exact this.2
theorem gs_len (m : M) : (gs m).length ≤ rooms m := by
  have := List.length_filter_le (gd m) (List.range (rooms m))
  rw [List.length_range] at this
  exact this
theorem gs_rise (m : M) : (gs m).Pairwise (· < ·) := List.Pairwise.filter _ List.pairwise_lt_range
/-- In a list that rises what stands ahead is less. -/
theorem rise_take {L : List Nat} (h : L.Pairwise (· < ·)) {k x : Nat} (hx : L[k]? = some x) : ∀ q ∈ L.take k, q < x := by
  intro q hq
  obtain ⟨j, hj, rfl⟩ := List.getElem_of_mem hq
  have hjk : j < k := by simp at hj; omega
  obtain ⟨hk, rfl⟩ := List.getElem?_eq_some_iff.1 hx
  rw [List.getElem_take]
  exact List.pairwise_iff_getElem.1 h j k (by omega) hk hjk
theorem take_snoc {L : List Nat} {k x : Nat} (hx : L[k]? = some x) : L.take (k + 1) = L.take k ++ [x] := by
  rw [List.take_add_one, hx]; rfl
theorem take_not {L : List Nat} (h : L.Pairwise (· < ·)) {k x : Nat} (hx : L[k]? = some x) : x ∉ L.take k := fun hq => by
  have := rise_take h hx x hq
  omega
end Sq
end Go.Proofs.Ytlhapipgmadbeaa
