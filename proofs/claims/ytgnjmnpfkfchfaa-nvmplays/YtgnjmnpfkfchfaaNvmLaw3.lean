/- The walk of NvmLast. -/
import Derived.Test.YtgnjmnpfkfchfaaNvmLaw2
namespace Go.Proofs.Ytgnjmnpfkfchfaa
namespace Nw
open Go.RowKit Nv

/-- An element that came in, in every world in which all that lay is as it was. -/
theorem ints_get {w : World} {A : Option Addr} {l : List Int} (h : Lk.IntsAt w .u32 A l) {k : Nat} (hk : k < l.length) :
    ∃ b o, A = some ⟨b, o, none⟩ ∧ Hid (∀ W, Below w.heap.size w W → W.cell? ⟨b, o + k, none⟩ = some (.int .u32 (l.getD k 0))) := by
  obtain ⟨b, o, rfl, hc⟩ := h k hk
  exact ⟨b, o, rfl, fun W hb => (hb.cell (World.block_lt_of_cell? _ _ hc)).trans hc⟩
/-- Behind k writes: the memory. -/
def lm (l : List Int) (k : Nat) : M := ⟨last 16 l k, false, -1, k⟩
theorem lm_err (l : List Int) (k : Nat) (q : Nat) (hq : q < 16) : werr (lm l k) q = 0 := by
  have : inB (lm l k) q = true := by simp [inB, lm, last_len]; omega
  simp only [werr, this]
  simp [lm]
theorem lm_put (l : List Int) (k : Nat) (hk : k < l.length) (q : Nat) (hq : q < 16) (hv : l.getD k 0 % 16 = q) : wput (lm l k) q (l.getD k 0) = lm l (k + 1) := by
  have : inB (lm l k) q = true := by simp [inB, lm, last_len]; omega
  simp only [wput, this]
  simp only [lm, last_succ 16 l k hk, hv]
  simp
theorem lm_few (l : List Int) (k : Nat) (hk : k ≤ 100) : Few (lm l k) := ⟨by simp [lm], by simp [lm], by simp only [lm]; omega⟩
/-- What the walk carries: the memory, the array beside it, all that lay. -/
structure Ls (w W : World) (b d g : Nat) (m : M) (r : List Int) : Prop where
  own : Own w W b d m
  row : W.rowIs g 45 16 (wf r)
  len : r.length = 16
  ne : g ≠ b
  ne' : g ≠ d
  le : w.heap.size ≤ g
namespace Ls
variable {w W W' : World} {b d g : Nat} {m m' : M} {r : List Int}
theorem step (h : Ls w W b d g m r) (hm : Mem W' b d m') (ho : Off2 b d W W') : Ls w W' b d g m' r := ⟨h.own.step hm ho, h.row.of_block (ho.block g h.ne h.ne'), h.len, h.ne, h.ne', h.le⟩
theorem put (h : Ls w W b d g m r) {k : Nat} (hk : k < 16) (v : Int) : Ls w (W.setCell ⟨g, k, none⟩ (.int .u32 v)) b d g m (r.set k v) := by
  refine ⟨⟨⟨h.own.mem.row.setOther (Ne.symm h.ne) _, h.own.mem.ws.setOther (Ne.symm h.ne') _, h.own.mem.ne⟩, h.own.old.setCell h.le _, h.own.le, h.own.le'⟩, ?_, by rw [List.length_set]; exact h.len, h.ne, h.ne', h.le⟩
  refine (h.row.set k _).congr fun i _ => ?_
  unfold wf
  rw [getD_set r k v (by rw [h.len]; exact hk) i]
  by_cases e : i = k
  · rw [if_pos e, if_pos e]
  · rw [if_neg e, if_neg e]
theorem zeros_cell (n i : Nat) (hi : i < n) : (List.replicate n (Value.int .u32 0)).toArray[i]? = some (wf (zeros n) i) := by
  simp [wf, zeros, hi, List.getD_eq_getElem?_getD]
theorem made (h : Own w W b d m) (cs : Array Value) (hc : cs = (List.replicate 16 (Value.int .u32 0)).toArray) : Ls w (W.alloc (.cells cs 45)) b d W.heap.size m (zeros 16) := by
  have h1 := h.mem.lt
  have h2 := h.mem.lt'
  refine ⟨h.grow ((Below.refl _ _).alloc (Nat.le_refl _) _), ?_, by decide, by omega, by omega, h.old.size⟩
  subst hc
  exact World.rowIs_alloc W _ 45 (wf (zeros 16)) fun i hi => zeros_cell 16 i (by simpa using hi)
end Ls

set_option maxRecDepth 100000 in
set_option maxHeartbeats 4000000 in
theorem NvmLast_walk (A : Option Addr) (l : List Int) (cp : Nat) (_hl : l.length ≤ 9223372036854775807) (hu : ∀ v ∈ l, 0 ≤ v ∧ v ≤ 4294967295) (w : World) (hA : Lk.IntsAt w .u32 A l) :
    Calls Try.prog 7 #[.slice A l.length cp] w fun e w' => e = .returned (.bool true) ∧ Below w.heap.size w w' := by
  have HA := Lib.hid hA
  have HU := Lib.hid hu
  clear hA hu
  go_enter Try.func7, Try.ntmps7
  go_wp2_with fail
  refine (awake_c w).mono ?_
  rintro e w1 ⟨rfl, h⟩
  have HB := Lib.hid h
  clear h
  go_wp2_with fail
  refine (new_v 16 rfl (by decide) HB.out).mono ?_
  rintro e w2 ⟨b, d, rfl, h⟩
  have HO : Hid (Own w w2 b d (new 16)) := h
  clear h HB
  go_wp2_with fail
  have HL : Hid (Ls w _ b d _ (lm l 0) (last 16 l 0)) := Ls.made HO.out _ rfl
  generalize w2.heap.size = g at *
  clear HO
  go_loopw [7, 8] (fun n i wr => ∃ k : Nat, k ≤ 100 ∧ k ≤ l.length ∧ n = .int .i64 k ∧ i = .int .i64 k ∧ Ls w wr b d g (lm l k) (last 16 l k)) (fun _ i _ => 100 - (intOf i).toNat)
  case atStart => exact ⟨0, by omega, Nat.zero_le _, rfl, rfl, HL.out⟩
  case round =>
    clear HL
    obtain ⟨k, hk, hkl, rfl, rfl, hL⟩ := hrel
    have HL := Lib.hid hL
    clear hL
    by_cases hlt : k < l.length ∧ k < 100
    · obtain ⟨hlt, h100⟩ := hlt
      obtain ⟨ab, ao, rfl, HG⟩ := ints_get HA.out hlt
      have hcell := HG.out _ HL.out.own.old
      have hv0 : 0 ≤ l.getD k 0 ∧ l.getD k 0 ≤ 4294967295 := HU.out _ (by
        have : l.getD k 0 = l[k] := by simp [hlt]
        rw [this]; exact List.getElem_mem _)
      obtain ⟨q, hq⟩ : ∃ q : Nat, l.getD k 0 % 16 = q := ⟨(l.getD k 0 % 16).toNat, by omega⟩
      have hq16 : q < 16 := by omega
      have hs := last_succ 16 l k hlt
      rw [hq, Int.toNat_natCast] at hs
      have HC := Lib.hid (write_c b d (lm l k) q (l.getD k 0))
      rw [lm_err l k q hq16, lm_put l k hlt q hq16 hq] at HC
      have HS := Lib.hid hs
      obtain ⟨v, hv⟩ : ∃ v, l.getD k 0 = v := ⟨_, rfl⟩
      rw [hv] at hcell HC HS hq hv0 HG
      have hq2 : v.tmod 16 = q := by rw [Int.tmod_eq_emod_of_nonneg hv0.1]; exact hq
      obtain ⟨hv0, hv1⟩ := hv0
      clear hv hs
      go_wp2_with fail
      refine (HC.out _ HL.out.own.mem (lm_few l k hk)).mono ?_
      rintro e w4 ⟨rfl, h1, h2⟩
      replace HL := Lib.hid (HL.out.step h1 h2)
      have hcell2 := HG.out _ HL.out.own.old
      have r1 := HL.out.row.cell hq16
      have r2 := HL.out.row.frozen q
      unfold wf at r1
      clear h1 h2 HC HG hcell
      go_wp2_with fail
      go_roundw
      case rel => exact ⟨k + 1, by omega, by omega, by go_num, by go_num, by rw [HS.out]; exact HL.out.put hq16 v⟩
      case measure => simp [intOf]; omega
    · by_cases hend : k < l.length
      · have h100 : 100 ≤ k := by omega
        clear hlt
        generalize hM : lm l k = M' at *
        have g1 : Hid (M'.gone = false) := by rw [← hM]; exact rfl
        have g2 : Hid (M'.ws.length = 16) := by rw [← hM]; exact last_len _ _ _
        have g3 : Hid (M'.ws = last 16 l k) := by rw [← hM]; exact rfl
        have g4 : Hid (M'.many = (k : Int)) := by rw [← hM]; exact rfl
        generalize last 16 l k = r at *
        clear hM
        go_wp2_with fail
        go_loopw [10] (fun i wr => ∃ j : Nat, j ≤ 16 ∧ i = .int .i64 j ∧ Ls w wr b d g M' r) (fun i _ => 16 - (intOf i).toNat)
        case atStart => exact ⟨0, Nat.zero_le _, rfl, HL.out⟩
        case round =>
          clear HL
          obtain ⟨j, hj, rfl, hL⟩ := hrel
          have HL := Lib.hid hL
          clear hL
          by_cases hlt2 : j < 16
          · have hr := read_c b d M' j
            rw [rval_in g1.out (by rw [g2.out]; exact hlt2), rerr_in g1.out (by rw [g2.out]; exact hlt2), g3.out] at hr
            have HR := Lib.hid hr
            clear hr
            have HQ : Hid (∀ W, Ls w W b d g M' r → W.cell? ⟨g, j, none⟩ = some (.int .u32 (r.getD j 0))) := fun W h => h.row.cell hlt2
            generalize r.getD j 0 = v at HR HQ
            go_wp2_with fail
            refine (HR.out _ HL.out.own.mem).mono ?_
            rintro e w5 ⟨rfl, h1, h2⟩
            replace HL := Lib.hid (HL.out.step h1 h2)
            have hcell := HQ.out _ HL.out
            clear h1 h2 HR HQ
            go_wp2_with fail
            go_roundw
            case rel => exact ⟨j + 1, by omega, by go_num, HL.out⟩
            case measure => simp [intOf]; omega
          · obtain rfl : j = 16 := by omega
            have HM := Lib.hid (many_v g4.out HL.out.own)
            have HD := Lib.hid (down_v g1.out HL.out.own)
            go_wp2_with fail
            refine HM.out.mono ?_
            rintro e w5 ⟨rfl, rfl⟩
            clear HM
            go_wp2_with fail
            refine HD.out.mono ?_
            rintro e w5 ⟨rfl, rfl⟩
            clear HD
            go_wp2_with fail
            go_ret
            exact ⟨rfl, HL.out.own.old⟩
      · clear hlt
        generalize hM : lm l k = M' at *
        have g1 : Hid (M'.gone = false) := by rw [← hM]; exact rfl
        have g2 : Hid (M'.ws.length = 16) := by rw [← hM]; exact last_len _ _ _
        have g3 : Hid (M'.ws = last 16 l k) := by rw [← hM]; exact rfl
        have g4 : Hid (M'.many = (k : Int)) := by rw [← hM]; exact rfl
        generalize last 16 l k = r at *
        clear hM
        go_wp2_with fail
        go_loopw [10] (fun i wr => ∃ j : Nat, j ≤ 16 ∧ i = .int .i64 j ∧ Ls w wr b d g M' r) (fun i _ => 16 - (intOf i).toNat)
        case atStart => exact ⟨0, Nat.zero_le _, rfl, HL.out⟩
        case round =>
          clear HL
          obtain ⟨j, hj, rfl, hL⟩ := hrel
          have HL := Lib.hid hL
          clear hL
          by_cases hlt2 : j < 16
          · have hr := read_c b d M' j
            rw [rval_in g1.out (by rw [g2.out]; exact hlt2), rerr_in g1.out (by rw [g2.out]; exact hlt2), g3.out] at hr
            have HR := Lib.hid hr
            clear hr
            have HQ : Hid (∀ W, Ls w W b d g M' r → W.cell? ⟨g, j, none⟩ = some (.int .u32 (r.getD j 0))) := fun W h => h.row.cell hlt2
            generalize r.getD j 0 = v at HR HQ
            go_wp2_with fail
            refine (HR.out _ HL.out.own.mem).mono ?_
            rintro e w5 ⟨rfl, h1, h2⟩
            replace HL := Lib.hid (HL.out.step h1 h2)
            have hcell := HQ.out _ HL.out
            clear h1 h2 HR HQ
            go_wp2_with fail
            go_roundw
            case rel => exact ⟨j + 1, by omega, by go_num, HL.out⟩
            case measure => simp [intOf]; omega
          · obtain rfl : j = 16 := by omega
            have HM := Lib.hid (many_v g4.out HL.out.own)
            have HD := Lib.hid (down_v g1.out HL.out.own)
            go_wp2_with fail
            refine HM.out.mono ?_
            rintro e w5 ⟨rfl, rfl⟩
            clear HM
            go_wp2_with fail
            refine HD.out.mono ?_
            rintro e w5 ⟨rfl, rfl⟩
            clear HD
            go_wp2_with fail
            go_ret
            exact ⟨rfl, HL.out.own.old⟩
end Nw
end Go.Proofs.Ytgnjmnpfkfchfaa
