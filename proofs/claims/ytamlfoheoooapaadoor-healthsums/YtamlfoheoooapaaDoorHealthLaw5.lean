/- The walk of HealthSums. Printed by gen_laws.py. -/
import Derived.Test.YtamlfoheoooapaaDoorHealthKit
import Derived.Test.YtamlfoheoooapaaDoorOrdKit
import Derived.Deep.DeepCutAuto
namespace Go.Proofs.YtamlfoheoooapaaDoor
namespace Qw
open Go.RowKit Lk

theorem ord_s11 : Lk.orderedB (Lk.opsOf Tryd.f7 11) [(0, false), (1, false), (3, false), (4, false), (7, false), (2, true), (5, true), (6, false), (8, false), (9, false)] = true := by kernel_rfl

theorem perm {w V : World} {L L' : List (Nat × Obj)} (h : Hv w V L) (hs : ∀ e ∈ L', e ∈ L) : Hv w V L' := ⟨fun e he => h.has e (hs e he), h.old⟩
abbrev LZ (X Y Z : Nat) (x y z : Nat → Bool) (t : TypeId) : List (Nat × Obj) := [(Z, go z), (Y, go y), (X, go x), RO t]
section
variable {w V : World} {X Y Z j : Nat} {x y z : Nat → Bool} {t : TypeId}
theorem putX (h : Hv w V (LZ X Y Z x y z t)) (hj : j < 5) (E : w.heap.size ≤ X ∧ 0 < X ∧ X < Y ∧ Y < Z) : Hv w (V.setCell ⟨X, j, none⟩ (.bool true)) (LZ X Y Z (Hh.put x j) y z t) :=
  perm (put_h (perm (L' := [(X, go x), (Z, go z), (Y, go y), RO t]) h (by simp)) hj (by simp; omega) E.1) (by simp)
theorem putY (h : Hv w V (LZ X Y Z x y z t)) (hj : j < 5) (E : w.heap.size ≤ X ∧ 0 < X ∧ X < Y ∧ Y < Z) : Hv w (V.setCell ⟨Y, j, none⟩ (.bool true)) (LZ X Y Z x (Hh.put y j) z t) :=
  perm (put_h (perm (L' := [(Y, go y), (Z, go z), (X, go x), RO t]) h (by simp)) hj (by simp; omega) (by omega)) (by simp)
theorem putZ (h : Hv w V (LZ X Y Z x y z t)) (hj : j < 5) (E : w.heap.size ≤ X ∧ 0 < X ∧ X < Y ∧ Y < Z) : Hv w (V.setCell ⟨Z, j, none⟩ (.bool true)) (LZ X Y Z x y (Hh.put z j) t) :=
  put_h h hj (by simp; omega) (by omega)
end
abbrev SXY (X Y : Nat) (x y : Nat → Bool) (V : World) : Prop := V.heap[X]? = some (go x) ∧ V.heap[Y]? = some (go y)

set_option maxRecDepth 100000 in
set_option maxHeartbeats 8000000 in
theorem HealthSums_walk (a : Nat) (ha : a < 256) (b : Nat) (hb : b < 256) (q : Nat) (hq : q < 256) (t : TypeId) (w : World) (hR : w.heap[0]? = some (.cells cc t (0, 0))) : Calls Tryd.prog 7 #[.int .u8 a, .int .u8 b, .int .u8 q] w fun r w' => r = .returned (.bool true) ∧ Below w.heap.size w w' := by
  have HV := Lib.hid ((Hv.nil w).add (RO t) hR)
  have AW := Lib.hid (fun W hR => awake_c t W hR)
  have H0 : Hid (0 < w.heap.size) := (Array.getElem?_eq_some_iff.1 hR).1
  have hi : a % 5 < 5 := Nat.mod_lt _ (by decide)
  have hj : b % 5 < 5 := Nat.mod_lt _ (by decide)
  have hp : q % 3 < 3 := Nat.mod_lt _ (by decide)
  have a0 : (0 : Int) ≤ (a : Int) := by omega
  have a1 : (a : Int) ≤ 255 := by omega
  have b0 : (0 : Int) ≤ (b : Int) := by omega
  have b1 : (b : Int) ≤ 255 := by omega
  have q0 : (0 : Int) ≤ (q : Int) := by omega
  have q1 : (q : Int) ≤ 255 := by omega
  clear hR
  go_enter Tryd.func7, Tryd.ntmps7
  go_upto_region 5 with (first | (go_at_call 8; (with_reducible refine (AW.out _ HV.out.head).mono ?_); rintro r W ⟨rfl, hb⟩; replace HV := Lib.hid (HV.out.grow hb); clear hb) | fail)
  clear AW
  have G1 := HV.out.old.size
  have H1 := H0.out
  replace HV := Lib.hid (((HV.out.made (go Hh.no)).made (go Hh.no)).made (go Hh.no))
  simp only [World.size_alloc] at HV
  obtain ⟨V, hV⟩ : ∃ V, ((W.alloc (gao false false false false false)).alloc (gao false false false false false)).alloc (gao false false false false false) = V := ⟨_, rfl⟩
  rw [hV]
  obtain ⟨X, hX⟩ : ∃ X, W.heap.size = X := ⟨_, rfl⟩
  obtain ⟨Y, hY⟩ : ∃ Y, X + 1 = Y := ⟨_, rfl⟩
  obtain ⟨Z, hZ⟩ : ∃ Z, Y + 1 = Z := ⟨_, rfl⟩
  have E : Hid (w.heap.size ≤ X ∧ 0 < X ∧ X < Y ∧ Y < Z) := by
    show _ ∧ _ ∧ _ ∧ _
    omega
  replace HV : Hid (Hv w V (LZ X Y Z Hh.no Hh.no Hh.no t)) := by
    subst hV
    rw [hX, hY, hZ] at HV
    exact HV.out
  simp only [hX, hY, hZ]
  clear hV hX hY hZ G1 H1 H0
  have c1 := cell_g HV.out.h3 hi
  have c2 := Joins.unfrozen_of_block HV.out.h3 (a % 5)
  replace HV := Lib.hid (putX HV.out hi E.out)
  go_upto_region 6 with fail
  clear c1 c2
  generalize V.setCell ⟨X, a % 5, none⟩ (.bool true) = V1 at *
  have c1 := cell_g HV.out.h2 hj
  have c2 := Joins.unfrozen_of_block HV.out.h2 (b % 5)
  replace HV := Lib.hid (putY HV.out hj E.out)
  go_upto_region 7 with fail
  clear c1 c2
  generalize V1.setCell ⟨Y, b % 5, none⟩ (.bool true) = V2 at *
  have c1 := cell_g HV.out.head hi
  have c2 := Joins.unfrozen_of_block HV.out.head (a % 5)
  replace HV := Lib.hid (putZ HV.out hi E.out)
  go_upto_region 8 with fail
  clear c1 c2
  generalize V2.setCell ⟨Z, a % 5, none⟩ (.bool true) = V3 at *
  have c1 := cell_g HV.out.head hj
  have c2 := Joins.unfrozen_of_block HV.out.head (b % 5)
  replace HV := Lib.hid (putZ HV.out hj E.out)
  go_upto_region 9 with fail
  clear c1 c2
  generalize V3.setCell ⟨Z, b % 5, none⟩ (.bool true) = V4 at *
  go_upto_region 10 with fail
  have pa : (0 : Int) ≤ (q : Int) % 3 := by omega
  have pb : (q : Int) % 3 < 3 := by omega
  generalize (q : Int) % 3 = p at *
  have eW := Hh.sc_no pa pb
  have eA := Hh.sc_in (Hh.put Hh.no (a % 5)) p
  have eB := Hh.sc_in (Hh.put Hh.no (b % 5)) p
  have eS : a % 5 ≠ b % 5 → Hh.sc (Hh.put (Hh.put Hh.no (a % 5)) (b % 5)) p = Hh.sc (Hh.put Hh.no (a % 5)) p + Hh.sc (Hh.put Hh.no (b % 5)) p - (255 - 20 * p) := fun h => by rw [← eW]; exact Hh.sc_sum hi hj h pa pb
  have eE : a % 5 = b % 5 → Hh.sc (Hh.put (Hh.put Hh.no (a % 5)) (b % 5)) p = Hh.sc (Hh.put Hh.no (a % 5)) p := fun h => by rw [← h, Hh.put_same]
  have C0 : Hid (∀ W : World, W.heap[0]? = some (.cells cc t (0, 0)) → Calls Tryd.prog 9 #[.agg (ga false false false false false), .int .i64 p] W fun r w' => r = .returned (.int .i64 (255 - 20 * p)) ∧ Below W.heap.size W w') := fun W h => score_v Hh.no p _ eW t W h
  have C1 := Lib.hid (fun W hR => score_c (Hh.put Hh.no (a % 5)) p t W hR)
  have C2 := Lib.hid (fun W hR => score_c (Hh.put Hh.no (b % 5)) p t W hR)
  have C3 := Lib.hid (fun W hR => score_c (Hh.put (Hh.put Hh.no (a % 5)) (b % 5)) p t W hR)
  clear eW
  generalize Hh.sc (Hh.put (Hh.put Hh.no (a % 5)) (b % 5)) p = c at *
  generalize Hh.put (Hh.put Hh.no (a % 5)) (b % 5) = z at *
  generalize Hh.sc (Hh.put Hh.no (a % 5)) p = A at *
  generalize Hh.put Hh.no (a % 5) = x at *
  generalize Hh.sc (Hh.put Hh.no (b % 5)) p = B at *
  generalize Hh.put Hh.no (b % 5) = y at *
  have A0 := eA.1
  have A1 := eA.2
  have B0 := eB.1
  have B1 := eB.2
  clear eA eB
  go_upto_region 11 with (first | (go_at_call 9; (with_reducible refine (C0.out _ HV.out.h4).mono ?_); rintro r W5 ⟨rfl, hb⟩; replace HV := Lib.hid (HV.out.grow hb); clear hb) | fail)
  refine wp_region_noPanic (Lk.wp_region_ordered ord_s11 (SXY X Y x y) (by kernel_rfl) (by kernel_rfl) (fun _ _ _ _ _ h => h) (by first | (with_reducible exact ⟨HV.out.h3, HV.out.h2⟩) | (with_reducible exact ⟨HV.out.drew.h3, HV.out.drew.h2⟩)) ?_)
  replace HV := Lib.hid HV.out.drew
  iterate 5 (refine Lk.ord_take ?_ rfl rfl ?_ ?_; rotate_left; (focus (intro w' hS; obtain ⟨s1, s2⟩ := hS; first | (refine (rG _ rfl _ rfl s1).trans ?_; with_reducible rfl) | (refine (rG _ rfl _ rfl s2).trans ?_; with_reducible rfl) | (go_simp; try with_reducible rfl))); simp only [Act.put, List.setIfInBounds_toArray, List.set_cons_zero, List.set_cons_succ])
  refine Lk.ord_step rfl rfl (fun K hK => ?_)
  go_simp
  (with_reducible refine (C1.out _ HV.out.h4).mono ?_)
  rintro r W ⟨rfl, hb⟩
  replace HV := Lib.hid (HV.out.grow hb)
  clear hb
  refine hK.out _ _ (by first | (with_reducible exact ⟨HV.out.h3, HV.out.h2⟩) | (with_reducible exact ⟨HV.out.drew.h3, HV.out.drew.h2⟩)) ?_
  clear hK K
  try simp only [Act.put, List.setIfInBounds_toArray, List.set_cons_zero, List.set_cons_succ]
  refine Lk.ord_step rfl rfl (fun K hK => ?_)
  go_simp
  (with_reducible refine (C2.out _ HV.out.h4).mono ?_)
  rintro r W ⟨rfl, hb⟩
  replace HV := Lib.hid (HV.out.grow hb)
  clear hb
  refine hK.out _ _ (by first | (with_reducible exact ⟨HV.out.h3, HV.out.h2⟩) | (with_reducible exact ⟨HV.out.drew.h3, HV.out.drew.h2⟩)) ?_
  clear hK K
  try simp only [Act.put, List.setIfInBounds_toArray, List.set_cons_zero, List.set_cons_succ]
  iterate 3 (refine Lk.ord_take ?_ rfl rfl ?_ ?_; rotate_left; (focus (intro w' hS; obtain ⟨s1, s2⟩ := hS; first | (refine (rG _ rfl _ rfl s1).trans ?_; with_reducible rfl) | (refine (rG _ rfl _ rfl s2).trans ?_; with_reducible rfl) | (go_simp; try with_reducible rfl))); simp only [Act.put, List.setIfInBounds_toArray, List.set_cons_zero, List.set_cons_succ])
  refine Lk.ord_nil (NoPanic.normal ?_)
  have w1 : IntKind.i64.wrap (A + B) = A + B := by simp [IntKind.wrap, IntKind.bits, IntKind.signed]; omega
  have w2 : IntKind.i64.wrap (A + B - (255 - 20 * p)) = A + B - (255 - 20 * p) := by simp [IntKind.wrap, IntKind.bits, IntKind.signed]; omega
  rw [w1]
  rw [w2]
  clear w1 w2
  by_cases hij : a % 5 = b % 5
  · obtain rfl : c = A := eE hij
    have k1 : ((a : Int) % 5 == (b : Int) % 5) = true := by simp; omega
    clear eE eS
    go_wp2_with (first
      | go_big_skip
      | (refine ldg rfl _ rfl _ _ rfl HV.out.h3 ?_)
      | (refine ldg rfl _ rfl _ _ rfl HV.out.head ?_)
      | (go_at_call 9; (first | (with_reducible refine (C1.out _ HV.out.h4).mono ?_) | (with_reducible refine (C3.out _ HV.out.h4).mono ?_)); rintro r W6 ⟨rfl, hb⟩; replace HV := Lib.hid (HV.out.grow hb); clear hb)
      | fail)
    go_ret
    exact ⟨rfl, HV.out.old⟩
  · obtain rfl : c = A + B - (255 - 20 * p) := eS hij
    have k1 : ((a : Int) % 5 == (b : Int) % 5) = false := by simp; omega
    clear eE eS
    go_wp2_with (first
      | go_big_skip
      | (refine ldg rfl _ rfl _ _ rfl HV.out.head ?_)
      | (go_at_call 9; (with_reducible refine (C3.out _ HV.out.h4).mono ?_); rintro r W6 ⟨rfl, hb⟩; replace HV := Lib.hid (HV.out.grow hb); clear hb)
      | fail)
    go_ret
    exact ⟨rfl, HV.out.old⟩
end Qw
end Go.Proofs.YtamlfoheoooapaaDoor
