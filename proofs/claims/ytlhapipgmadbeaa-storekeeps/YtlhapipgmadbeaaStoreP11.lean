/- The program's store: records sorted by code. -/
import Derived.Test.YtlhapipgmadbeaaStoreP10
import Derived.Test.YtlhapipgmadbeaaStoreSort
namespace Go.Proofs.Ytlhapipgmadbeaa
namespace Sq
open Go.RowKit Nv Nw Sp Lk
open Go.Sort (HoldsK PermIn SortedIn SWO)

instance : Inhabited R := ⟨⟨0, 0, false⟩⟩
def cmpI (a b : Int) : Int := if a < b then -1 else if b < a then 1 else 0
def cfR (x y : R) : Int := cmpI x.code y.code
theorem lt_cfR (x y : R) : ltOf cfR x y = decide (x.code < y.code) := by
  unfold ltOf cfR cmpI
  by_cases h1 : x.code < y.code
  · simp [h1]
  · by_cases h2 : y.code < x.code <;> simp [h1, h2]
theorem swoR : SWO (ltOf cfR) where
  irrefl x := by rw [lt_cfR]; simp
  trans x y z h1 h2 := by rw [lt_cfR] at *; simp at *; omega
  ntrans x y z h1 h2 := by rw [lt_cfR] at *; simp at *; omega

theorem nan_c (a : Int) (w : World) : Calls Try.prog 55 #[.int .i64 a] w fun e w' => e = .returned (.bool false) ∧ w = w' := by
  go_enter Try.func55, Try.ntmps55
  go_wp2_with fail
  go_ret
  exact ⟨rfl, rfl⟩
theorem cmp_c (a b : Int) (w : World) : Calls Try.prog 47 #[.int .i64 a, .int .i64 b] w fun e w' => e = .returned (.int .i64 (cmpI a b)) ∧ w = w' := by
  have HN := Lib.hid (fun a W => nan_c a W)
  obtain ⟨x, hx⟩ : ∃ x, cmpI a b = x := ⟨_, rfl⟩
  have HX := Lib.hid hx
  rw [hx]
  clear hx
  by_cases h1 : a < b
  · have e : x = -1 := by rw [← HX.out]; unfold cmpI; rw [if_pos h1]
    subst e
    clear HX
    go_enter Try.func47, Try.ntmps47
    go_wp2_with (first | (go_at_call 55; refine (HN.out _ _).mono ?_; rintro e W ⟨rfl, rfl⟩) | fail)
    go_ret
    exact ⟨rfl, rfl⟩
  · by_cases h2 : b < a
    · have e : x = 1 := by rw [← HX.out]; unfold cmpI; rw [if_neg h1, if_pos h2]
      subst e
      clear HX
      go_enter Try.func47, Try.ntmps47
      go_wp2_with (first | (go_at_call 55; refine (HN.out _ _).mono ?_; rintro e W ⟨rfl, rfl⟩) | fail)
      go_ret
      exact ⟨rfl, rfl⟩
    · have e : x = 0 := by rw [← HX.out]; unfold cmpI; rw [if_neg h1, if_neg h2]
      subst e
      clear HX
      go_enter Try.func47, Try.ntmps47
      go_wp2_with (first | (go_at_call 55; refine (HN.out _ _).mono ?_; rintro e W ⟨rfl, rfl⟩) | fail)
      go_ret
      exact ⟨rfl, rfl⟩
theorem clos_c (x y : R) (W : World) : Calls Try.prog 46 #[.agg (rf_ x).toArray, .agg (rf_ y).toArray] W fun e w' => e = .returned (.int .i64 (cfR x y)) ∧ ∃ q os', w' = Go.Sort.grow (W.drewN q) os' := by
  obtain ⟨xk, xt, xl⟩ := x
  obtain ⟨yk, yt, yl⟩ := y
  have HC := Lib.hid (fun W => cmp_c xk yk W)
  have e : cfR ⟨xk, xt, xl⟩ ⟨yk, yt, yl⟩ = cmpI xk yk := rfl
  rw [e]
  clear e
  generalize cmpI xk yk = r at *
  go_enter Try.func46, Try.ntmps46
  go_wp2_with (first | (go_at_call 47; refine (HC.out _).mono ?_; rintro e W ⟨rfl, rfl⟩) | fail)
  go_ret
  exact ⟨rfl, 0, _, by rw [Go.Sort.alloc_eq_grow, Go.Sort.alloc_eq_grow, Go.Sort.grow_grow]; rfl⟩

theorem turn_sort {enc : R → List Value} {k : Nat} {w : World} {g off n : Nat} {d : Array R} {os : Array Obj} : Turn g g w (sortWorldK enc k w g off n d os) := by
  refine ⟨rfl, rfl, rfl, by simp [sortWorldK, Go.Sort.putRowK], fun i hi h1 _ => ?_⟩
  show ((Go.Sort.putRowK enc k (Go.Sort.ahead w n) g off d).heap ++ os)[i]? = _
  rw [Array.getElem?_append_left (by simpa [Go.Sort.putRowK] using hi)]
  simp only [Go.Sort.putRowK, Go.Sort.putRow, Go.Sort.mapBlock, Array.getElem?_modify, Go.Sort.heap_ahead]
  rw [if_neg (Ne.symm h1)]
theorem holds_of {w : World} {g : Nat} {L : List R} (hr : ∀ i r, L[i]? = some r → w.rangeAt g (i * 3) (rcs r).toList) (hf : ∀ o, w.frozen? ⟨g, o, none⟩ = false) : HoldsK rf_ 3 w g 0 L.toArray := by
  intro j hj
  have hj' : j < L.length * 3 := by simpa using hj
  have hi : j / 3 < L.length := by omega
  have hx : L[j / 3]? = some (L[j / 3]) := List.getElem?_eq_getElem hi
  rw [Go.Sort.get_flatK _ _ _ _ (by simpa using hj')]
  rw [Nat.zero_add]
  refine ⟨?_, hf j⟩
  have e1 : L.toArray[j / 3]! = L[j / 3] := by simp [hi]
  rw [e1]
  have h3 : j % 3 < (rf_ L[j / 3]).length := by show _ < 3; omega
  have := hr (j / 3) _ hx (j % 3) ((rf_ L[j / 3])[j % 3]) (List.getElem?_eq_getElem h3)
  rw [show j / 3 * 3 + j % 3 = j by omega] at this
  rw [this]
  exact congrArg some (getElem!_pos (rf_ L[j / 3]) (j % 3) h3).symm
theorem sort_c (g c : Nat) (L : List R) (w : World) (hL : L.length ≤ 1000) (hr : ∀ i r, L[i]? = some r → w.rangeAt g (i * 3) (rcs r).toList) (hf : ∀ o, w.frozen? ⟨g, o, none⟩ = false) (hg : g < w.heap.size) :
    Calls Try.prog 45 #[.slice (some ⟨g, 0, none⟩) L.length c, .func (.func 46) #[] #[]] w fun e w' => e = .returned (.tuple #[]) ∧ ∃ L' : List R, L'.Perm L ∧ L'.Pairwise (fun a b => a.code ≤ b.code) ∧ (∀ i r, L'[i]? = some r → w'.rangeAt g (i * 3) (rcs r).toList) ∧ Turn g g w w' := by
  have hH := holds_of hr hf
  have eg : ∀ args w, (callFunc 46 args).run Try.prog w = .ok (.enter 46 args) w := enters_of Try.func46 (by kernel_rfl) rfl
  have hcon := AnyQ.slices_SortFunc srt 3 Try.isAgg37 Try.sizeOf37 rf_ (fun _ => rfl) (fun x => rf_one x) cfR swoR 46 #[] g 0 c L.toArray w eg (fun _ _ _ _ x y => clos_c x y _) hH hg (by simp; omega)
  change Calls Try.prog 45 _ _ _ at hcon
  rw [show L.toArray.size = L.length from by simp] at hcon
  refine hcon.mono ?_
  rintro e w' ⟨rfl, d', n, os, hp, hs, rfl⟩
  have hsz : d'.size = L.length := by have := hp.1; simpa using this
  have hh := holdsK_sortWorldK_c rf_ 3 w g 0 L.toArray d' n os hH hg (by rw [hsz]; simp)
  refine ⟨rfl, d'.toList, ?_, ?_, fun i r hi => ?_, turn_sort⟩
  · have := hp.2.2
    rw [show d'.extract 0 L.length = d' from by rw [← hsz]; simp] at this
    simpa using this
  · rw [List.pairwise_iff_getElem]
    intro i j hi hj hij
    have := hs i j (Nat.zero_le _) hij (by simpa [hsz] using hj)
    rw [lt_cfR] at this
    have h2 := of_decide_eq_false this
    rw [getElem!_pos d' j (by simpa using hj), getElem!_pos d' i (by simpa using hi)] at h2
    simp only [Array.getElem_toList]
    omega
  · have hi2 := (List.getElem?_eq_some_iff.1 hi)
    obtain ⟨hlt, hr2⟩ := hi2
    intro j v hv
    have hj3 : j < 3 := (List.getElem?_eq_some_iff.1 hv).1
    have := (hh.cell (i := i) (c := j) (by simpa using hlt) hj3).1
    rw [Nat.zero_add] at this
    rw [this, getElem!_pos d' i (by simpa using hlt)]
    rw [Array.getElem_toList] at hr2
    rw [hr2]
    have h3 : j < (rf_ r).length := hj3
    rw [List.getElem?_eq_getElem h3] at hv
    rw [← hv]
    exact congrArg some (getElem!_pos (rf_ r) j h3)
theorem sort_none (A : Option Addr) (c : Nat) (w : World) : Calls Try.prog 45 #[.slice A 0 c, .func (.func 46) #[] #[]] w fun e w' => e = .returned (.tuple #[]) ∧ w = w' := by
  have h := AnyF.slices_SortFunc_none (P := Try.prog) (ρ := srt_ren) srt A c (.func (.func 46) #[] #[]) w
  change Calls Try.prog 45 _ _ _ at h
  refine h.mono ?_
  rintro e w' ⟨rfl, rfl⟩
  exact ⟨rfl, rfl⟩
end Sq
end Go.Proofs.Ytlhapipgmadbeaa
