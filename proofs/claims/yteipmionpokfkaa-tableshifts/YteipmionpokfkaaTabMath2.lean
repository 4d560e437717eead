/- Plain arithmetic of tables, continued: shifted tables; how steep a table is somewhere. No program is named here. -/
import Derived.Test.YteipmionpokfkaaTabMath
namespace Tb

/-! ### tables whose places and values are all greater by so much -/

def sh (l : List Int) (d : Int) : List Int := l.map (· + d)
theorem sh_length (l : List Int) (d : Int) : (sh l d).length = l.length := by simp [sh]
theorem sh_g {l : List Int} {d : Int} {k : Nat} (h : k < l.length) : g (sh l d) k = g l k + d := by simp [g, sh, h]
theorem seg_sh {xs ys : List Int} (far more : Int) {k : Nat} (hk : k + 1 < xs.length) (hs : ys.length = xs.length) (x : Int) : seg (sh xs far) (sh ys more) k (x + far) = seg xs ys k x + more := by
  unfold seg
  rw [sh_g (by omega), sh_g (by omega), sh_g (by omega), sh_g (by omega), show x + far - (g xs k + far) = x - g xs k from by omega, show g ys (k + 1) + more - (g ys k + more) = g ys (k + 1) - g ys k from by omega, show g xs (k + 1) + far - (g xs k + far) = g xs (k + 1) - g xs k from by omega]
  omega
theorem at_sh {xs ys : List Int} {far more : Int} (h : Ok xs ys) (h' : Ok (sh xs far) (sh ys more)) (x : Int) : atO (sh xs far) (sh ys more) (x + far) = atO xs ys x + more := by
  have h2 := h.two
  have hs := h.same
  rcases place h x with a | a | ⟨k, hk, a, b⟩
  · rw [at_lo h a, at_lo h' (by rw [sh_g (by omega)]; omega), sh_g (by omega)]
  · rw [at_hi h a, at_hi h' (by rw [sh_length, sh_g (by omega)]; omega), sh_length, sh_g (by omega)]
  · rw [at_seg h hk a (by omega), at_seg h' (k := k) (by rw [sh_length]; exact hk) (by rw [sh_g (by omega)]; omega) (by rw [sh_g hk]; omega), seg_sh far more hk hs]
theorem mx_sh {xs ys : List Int} {far more : Int} (h : Ok xs ys) (h' : Ok (sh xs far) (sh ys more)) : mx (sh ys more) = mx ys + more := by
  have hs := h.same
  obtain ⟨k, hk, e⟩ := mx_point h
  obtain ⟨j, hj, e'⟩ := mx_point h'
  rw [sh_length] at hj
  have a := y_le_mx h (k := j) hj
  have b := y_le_mx h' (k := k) (by rw [sh_length]; exact hk)
  rw [sh_g (by omega)] at b e'
  omega
theorem stp_sh {xs ys : List Int} (far more : Int) {k : Nat} (hk : k + 1 < xs.length) (hs : ys.length = xs.length) : stp (sh xs far) (sh ys more) k = stp xs ys k := by
  unfold stp
  rw [sh_g (by omega), sh_g (by omega), sh_g (by omega), sh_g (by omega), show g ys (k + 1) + more - (g ys k + more) = g ys (k + 1) - g ys k from by omega, show g ys k + more - (g ys (k + 1) + more) = g ys k - g ys (k + 1) from by omega, show g xs (k + 1) + far - (g xs k + far) = g xs (k + 1) - g xs k from by omega]
theorem stU_sh {xs ys : List Int} (far more : Int) (hs : ys.length = xs.length) : ∀ m, m + 1 ≤ xs.length → stU (sh xs far) (sh ys more) m = stU xs ys m
  | 0, _ => rfl
  | m + 1, h => by rw [stU_succ, stU_succ, stU_sh far more hs m (by omega), stp_sh far more (by omega) hs]
theorem sh_take (l : List Int) (d : Int) (k : Nat) (h : k < l.length) : sh (l.take (k + 1)) d = sh (l.take k) d ++ [g l k + d] := by
  have e : g l k = l[k] := by simp [g, h]
  rw [e, List.take_succ_eq_append_getElem h]
  unfold sh
  rw [List.map_append]
  rfl

/-! ### how steep a table is somewhere -/

/-- How much two numbers side by side differ. -/
def df (xs ys : List Int) (x : Int) : Int := max (atO xs ys x) (atO xs ys (x + 1)) - min (atO xs ys x) (atO xs ys (x + 1))
/-- The greatest difference of the first m places. -/
def dm (xs ys : List Int) (m : Nat) : Int := mx ((List.range m).map fun i => df xs ys (g xs 0 + (i : Nat)))
theorem dm_succ (xs ys : List Int) (m : Nat) : dm xs ys (m + 1) = max (dm xs ys m) (df xs ys (g xs 0 + (m : Nat))) := by simp [dm, mx, List.range_succ]
theorem df_le {xs ys : List Int} (h : Ok xs ys) (x : Int) : df xs ys x ≤ stU xs ys (xs.length - 1) := by
  have := at_step h x
  unfold df
  omega
theorem df_nonneg (xs ys : List Int) (x : Int) : 0 ≤ df xs ys x := by unfold df; omega
theorem df_ge {xs ys : List Int} {m : Nat} {x : Int} (h0 : g xs 0 ≤ x) (h1 : x < g xs 0 + (m : Nat)) : df xs ys x ≤ dm xs ys m := by
  refine mx_ge (List.mem_map.2 ⟨(x - g xs 0).toNat, List.mem_range.2 (by omega), ?_⟩)
  rw [show g xs 0 + (((x - g xs 0).toNat : Nat) : Int) = x from by omega]
/-- A step that rises, or falls, by so much a place at most rises, or falls, by no more than so much. -/
theorem walk_le {xs ys : List Int} (h : Ok xs ys) {k : Nat} (hk : k + 1 < xs.length) {c : Int} (hc : ∀ x, g xs k ≤ x → x < g xs (k + 1) → df xs ys x ≤ c) :
    ∀ m : Nat, g xs k + (m : Nat) ≤ g xs (k + 1) → atO xs ys (g xs k + (m : Nat)) - g ys k ≤ c * (m : Nat) ∧ g ys k - atO xs ys (g xs k + (m : Nat)) ≤ c * (m : Nat)
  | 0, _ => by
    have := at_point h (k := k) (by omega)
    simp only [Int.natCast_zero, Int.add_zero, Int.mul_zero]
    omega
  | m + 1, hm => by
    have ih := walk_le h hk hc m (by omega)
    have d := hc (g xs k + (m : Nat)) (by omega) (by omega)
    unfold df at d
    rw [show g xs k + ((m + 1 : Nat) : Int) = g xs k + (m : Nat) + 1 from by omega, show c * ((m + 1 : Nat) : Int) = c * (m : Nat) + c from by rw [Int.natCast_add, Int.mul_add]; simp]
    omega
theorem steep_met {xs ys : List Int} (h : Ok xs ys) {k : Nat} (hk : k + 1 < xs.length) : stp xs ys k ≤ 0 ∨ ∃ x, g xs k ≤ x ∧ x < g xs (k + 1) ∧ stp xs ys k ≤ df xs ys x := by
  have hu := h.up k hk
  by_cases c0 : stp xs ys k ≤ 0
  · exact .inl c0
  · right
    refine Classical.byContradiction fun hn => ?_
    have hc : ∀ x, g xs k ≤ x → x < g xs (k + 1) → df xs ys x ≤ stp xs ys k - 1 := fun x a b => by
      rcases Int.lt_or_le (df xs ys x) (stp xs ys k) with e | e
      · omega
      · exact absurd ⟨x, a, b, e⟩ hn
    have wl := walk_le h hk hc (g xs (k + 1) - g xs k).toNat (by omega)
    rw [show g xs k + (((g xs (k + 1) - g xs k).toNat : Nat) : Int) = g xs (k + 1) from by omega, at_point h hk, show (((g xs (k + 1) - g xs k).toNat : Nat) : Int) = g xs (k + 1) - g xs k from by omega] at wl
    have sp := cl_spec (d := max (g ys (k + 1) - g ys k) (g ys k - g ys (k + 1))) (w := g xs (k + 1) - g xs k) (by omega)
    change _ ≤ (g xs (k + 1) - g xs k) * stp xs ys k ∧ (g xs (k + 1) - g xs k) * stp xs ys k < _ at sp
    rw [Int.sub_mul, Int.one_mul, Int.mul_comm (stp xs ys k)] at wl
    omega
theorem dm_all {xs ys : List Int} (h : Ok xs ys) : dm xs ys (wid xs) = stU xs ys (xs.length - 1) := by
  have h2 := h.two
  have hw := wid_eq h
  have n1 := stU_nonneg xs ys (xs.length - 1)
  have n2 : 0 ≤ dm xs ys (wid xs) := mx_nonneg _
  have le : dm xs ys (wid xs) ≤ stU xs ys (xs.length - 1) := by
    rcases mx_is ((List.range (wid xs)).map fun i => df xs ys (g xs 0 + (i : Nat))) with e | e
    · exact Int.le_trans (Int.le_of_eq e) n1
    · obtain ⟨i, _, e⟩ := List.mem_map.1 e
      exact Int.le_trans (Int.le_of_eq e.symm) (df_le h _)
  have ge : stU xs ys (xs.length - 1) ≤ dm xs ys (wid xs) := by
    rcases stU_is xs ys (xs.length - 1) with e | ⟨k, hk, e⟩
    · omega
    · rw [← e]
      rcases steep_met h (k := k) (by omega) with s | ⟨x, a, b, s⟩
      · omega
      · have u0 := up_le h (j := 0) (k := k) (by omega) (by omega)
        have u1 := up_le h (j := k + 1) (k := xs.length - 1) (by omega) (by omega)
        exact Int.le_trans s (df_ge (by omega) (by omega))
  omega

end Tb
