/- Faults of signals, over plain integers: which may be, when one is there, what they make of a count. -/
import Derived.Test.YtealfomdfnpmpaaFixMath
namespace Go.Proofs.Ytealfomdfnpmpaa
namespace Nj

structure Flt where
  k : Int
  s : Int
  f : Int
  l : Int

def Ok (j : Flt) : Prop := 0 ≤ j.k ∧ j.k ≤ 6 ∧ -65535 ≤ j.s ∧ j.s ≤ 65535 ∧ 0 ≤ j.f ∧ j.f ≤ 1073741824 ∧ 0 ≤ j.l ∧ j.l ≤ 1073741824
instance (j : Flt) : Decidable (Ok j) := by unfold Ok; infer_instance
def err (j : Flt) : Int := if Ok j then 0 else 1
theorem err_ok {j : Flt} (h : Ok j) : err j = 0 := if_pos h
theorem err_no {j : Flt} (h : ¬ Ok j) : err j = 1 := if_neg h
def On (j : Flt) (fr : Int) : Prop := Ok j ∧ j.k ≠ 0 ∧ j.f ≤ fr ∧ fr < j.f + j.l
instance (j : Flt) (fr : Int) : Decidable (On j fr) := by unfold On; infer_instance
def onB (j : Flt) (fr : Int) : Bool := decide (On j fr)
theorem onB_t {j : Flt} {fr : Int} (h : On j fr) : onB j fr = true := decide_eq_true h
theorem onB_f {j : Flt} {fr : Int} (h : ¬ On j fr) : onB j fr = false := decide_eq_false h
theorem of_onB {j : Flt} {fr : Int} (h : onB j fr = true) : On j fr := of_decide_eq_true h

def cl (n : Int) : Int := if n < 0 then 0 else if 65535 < n then 65535 else n
theorem cl_in (n : Int) : 0 ≤ cl n ∧ cl n ≤ 65535 := by unfold cl; (repeat' split) <;> omega
theorem cl_id {n : Int} (h : 0 ≤ n ∧ n ≤ 65535) : cl n = n := by unfold cl; (repeat' split) <;> omega
theorem clamp_cl (n : Int) : Fx.clamp n 0 65535 = cl n := by
  unfold Fx.clamp Fx.bound
  rw [Fx.sat_id 0 (by omega) (by omega), Fx.sat_id 65535 (by omega) (by omega)]
  unfold Fx.sat cl
  (repeat' split) <;> omega

/-- What the program's change says: saturating. -/
def pr (j : Flt) (si la c : Int) : Int :=
  if j.k = 1 then Fx.add c j.s else if j.k = 2 then la else if j.k = 3 then 65535 else if j.k = 4 then 0 else if j.k = 5 then (if si.tmod 2 = 0 then Fx.add c j.s else c) else if j.k = 6 then Fx.add c (Fx.mul j.s (si + 1) 0) else c
/-- What the document says. -/
def wh (j : Flt) (si la c : Int) : Int :=
  if j.k = 1 then c + j.s else if j.k = 2 then la else if j.k = 3 then 65535 else if j.k = 4 then 0 else if j.k = 5 then (if si.tmod 2 = 0 then c + j.s else c) else if j.k = 6 then c + j.s * (si + 1) else c

theorem add_cl {c s : Int} (h : 0 ≤ c ∧ c ≤ 65535) (hs : -65535 ≤ s ∧ s ≤ 65535) : Fx.add c s = c + s := by
  unfold Fx.add
  rw [Fx.sat_id c (by omega) (by omega), Fx.sat_id s (by omega) (by omega), Fx.sat_id _ (by omega) (by omega)]
theorem add_sat {c p : Int} (h : 0 ≤ c ∧ c ≤ 65535) : cl (Fx.add c (Fx.sat p)) = cl (c + p) := by
  unfold Fx.add
  rw [Fx.sat_id c (by omega) (by omega), Fx.sat_sat]
  unfold Fx.sat cl
  (repeat' split) <;> omega
theorem mul_zero {s t : Int} (hs : -65535 ≤ s ∧ s ≤ 65535) (ht : 0 ≤ t ∧ t ≤ 1073741824) : Fx.mul s t 0 = Fx.sat (s * t) := by
  unfold Fx.mul
  rw [Fx.sat_id s (by omega) (by omega), Fx.sat_id t (by omega) (by omega)]
  have : (Fx.bound 0 0 62).toNat = 0 := by decide
  rw [this]
  simp
theorem pr_wh {j : Flt} {fr la c : Int} (h : On j fr) (hc : 0 ≤ c ∧ c ≤ 65535) : cl (pr j (fr - j.f) la c) = cl (wh j (fr - j.f) la c) := by
  obtain ⟨⟨h1, h2, h3, h4, h5, h6, h7, h8⟩, h9, h10, h11⟩ := h
  unfold pr wh
  rw [add_cl hc ⟨h3, h4⟩]
  by_cases h6 : j.k = 6
  · rw [if_neg (by omega), if_neg (by omega), if_neg (by omega), if_neg (by omega), if_neg (by omega), if_pos h6, if_neg (by omega), if_neg (by omega), if_neg (by omega), if_neg (by omega), if_neg (by omega), if_pos h6,
      mul_zero ⟨h3, h4⟩ (by omega), add_sat hc]
  · rw [if_neg h6, if_neg h6]

/-- What one fault makes of a count. -/
def one (fr la c : Int) (j : Flt) : Int := if onB j fr = true then cl (wh j (fr - j.f) la c) else c
theorem one_on {j : Flt} {fr la c : Int} (h : On j fr) : one fr la c j = cl (wh j (fr - j.f) la c) := if_pos (onB_t h)
theorem one_off {j : Flt} {fr la c : Int} (h : ¬ On j fr) : one fr la c j = c := if_neg (by rw [onB_f h]; simp)
theorem one_in {j : Flt} {fr la c : Int} (hc : 0 ≤ c ∧ c ≤ 65535) : 0 ≤ one fr la c j ∧ one fr la c j ≤ 65535 := by
  unfold one
  split
  · exact cl_in _
  · exact hc
/-- What faults make of a count, one behind the other. -/
def go (fr la c : Int) (L : List Flt) : Int := L.foldl (one fr la) c
def ap (L : List Flt) (fr la n : Int) : Int := go fr la (cl n) L
theorem go_in {fr la : Int} (L : List Flt) {c : Int} (hc : 0 ≤ c ∧ c ≤ 65535) : 0 ≤ go fr la c L ∧ go fr la c L ≤ 65535 := by
  induction L generalizing c with
  | nil => exact hc
  | cons j L ih => exact ih (one_in hc)
theorem ap_in (L : List Flt) (fr la n : Int) : 0 ≤ ap L fr la n ∧ ap L fr la n ≤ 65535 := go_in L (cl_in n)
theorem go_app (fr la c : Int) (L M : List Flt) : go fr la c (L ++ M) = go fr la (go fr la c L) M := List.foldl_append
theorem ap_app (L M : List Flt) (fr la n : Int) : ap (L ++ M) fr la n = ap M fr la (ap L fr la n) := by
  unfold ap
  rw [go_app, cl_id (go_in (fr := fr) (la := la) L (cl_in n))]
theorem ap_cut (L : List Flt) (k : Nat) (fr la n : Int) : ap (L.drop k) fr la (ap (L.take k) fr la n) = ap L fr la n := by
  rw [← ap_app, List.take_append_drop]
theorem ap_snoc (L : List Flt) (j : Flt) (fr la n : Int) : ap (L ++ [j]) fr la n = one fr la (ap L fr la n) j := by
  unfold ap; rw [go_app]; rfl
theorem go_off {fr la : Int} (L : List Flt) {c : Int} (h : ∀ j ∈ L, ¬ On j fr) : go fr la c L = c := by
  induction L generalizing c with
  | nil => rfl
  | cons j L ih =>
    show go fr la (one fr la c j) L = c
    rw [one_off (h j (by simp)), ih (fun i hi => h i (by simp [hi]))]
theorem ap_off {fr la n : Int} (L : List Flt) (h : ∀ j ∈ L, ¬ On j fr) : ap L fr la n = cl n := go_off L h
def zero : Flt := ⟨0, 0, 0, 0⟩
theorem take_snoc {L : List Flt} {k : Nat} (h : k < L.length) : L.take (k + 1) = L.take k ++ [L.getD k zero] := by
  rw [List.take_add_one]; simp [List.getD, h]

/-- A fault that is there. -/
abbrev Sub (fr : Int) := { j : Flt // onB j fr = true }
/-- The faults that are there, in order. -/
def ons (fr : Int) (L : List Flt) : List (Sub fr) := L.filterMap fun j => if h : onB j fr = true then some ⟨j, h⟩ else none
theorem ons_app (fr : Int) (L M : List Flt) : ons fr (L ++ M) = ons fr L ++ ons fr M := by simp [ons]
theorem ons_on {fr : Int} {j : Flt} (h : onB j fr = true) : ons fr [j] = [⟨j, h⟩] := by simp [ons, h]
theorem ons_off {fr : Int} {j : Flt} (h : onB j fr = false) : ons fr [j] = [] := by simp [ons, h]
theorem ons_len (fr : Int) (L : List Flt) : (ons fr L).length ≤ L.length := List.length_filterMap_le _ _
/-- What faults that are there make of a count. -/
def gos (fr la c : Int) (Z : List (Sub fr)) : Int := Z.foldl (fun c j => cl (wh j.1 (fr - j.1.f) la c)) c
theorem gos_snoc (fr la c : Int) (Z : List (Sub fr)) (j : Sub fr) : gos fr la c (Z ++ [j]) = cl (wh j.1 (fr - j.1.f) la (gos fr la c Z)) := by simp [gos]
theorem gos_in {fr la : Int} (Z : List (Sub fr)) {c : Int} (hc : 0 ≤ c ∧ c ≤ 65535) : 0 ≤ gos fr la c Z ∧ gos fr la c Z ≤ 65535 := by
  induction Z generalizing c with
  | nil => exact hc
  | cons j Z ih => exact ih (cl_in _)
theorem gos_ons (fr la : Int) (L : List Flt) (c : Int) : gos fr la c (ons fr L) = go fr la c L := by
  induction L generalizing c with
  | nil => rfl
  | cons j L ih =>
    show _ = go fr la (one fr la c j) L
    cases h : onB j fr with
    | true =>
      rw [one_on (of_onB h), ← ih, ← List.singleton_append, ons_app, ons_on h]
      rfl
    | false =>
      rw [one, h, if_neg (by simp), ← ih, ← List.singleton_append, ons_app, ons_off h]
      rfl
end Nj
end Go.Proofs.Ytealfomdfnpmpaa
