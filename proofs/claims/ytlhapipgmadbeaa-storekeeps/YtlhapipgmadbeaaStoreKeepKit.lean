/- For the walk of StoreKeeps: the law's own count, a store and two slices of records, and lists element by element. -/
import Derived.Test.YtlhapipgmadbeaaStorePair
import Derived.BigQuiet
import Derived.Deep.QuietTactic
namespace Go.Proofs.Ytlhapipgmadbeaa
namespace Sq
open Go.RowKit Nv Nw Sp Lk

set_option maxHeartbeats 4000000 in
theorem latched_c (A : Option Addr) (L : List R) (n c : Nat) (hn : L.length = n) (hl : n ≤ 1000) (w : World) (hA : Rcs w A L) :
    Calls Try.prog 30 #[.slice A n c] w fun e w' => e = .returned (.int .i64 (L.countP fun x => x.lat)) ∧ w = w' := by
  have HA := Lib.hid hA
  clear hA
  go_enter Try.func30, Try.ntmps30
  go_wp2_with fail
  go_loopw [3, 4] (fun s i wr => ∃ k : Nat, k ≤ n ∧ i = .int .i64 k ∧ s = .int .i64 ((L.take k).countP fun x => x.lat) ∧ w = wr) (fun _ i _ => n - (intOf i).toNat)
  case atStart => exact ⟨0, Nat.zero_le _, rfl, by simp, rfl⟩
  case round =>
    obtain ⟨k, hk, rfl, rfl, rfl⟩ := hrel
    by_cases hlt : k < n
    · obtain ⟨r, hr⟩ : ∃ r, L[k]? = some r := ⟨L[k]'(by rw [hn]; exact hlt), List.getElem?_eq_getElem _⟩
      obtain ⟨ga, oa, rfl, _, h1⟩ := HA.out k r hr
      obtain ⟨a0, a1, a2⟩ := rc_cells h1
      have hkn : (k : Int) < n := by omega
      have ht : (L.take (k + 1)).countP (fun x => x.lat) = (L.take k).countP (fun x => x.lat) + (if r.lat = true then 1 else 0) := by rw [List.take_add_one, hr, List.countP_append]; simp [List.countP_cons]
      have hle : (L.take k).countP (fun x => x.lat) ≤ k := Nat.le_trans List.countP_le_length (by rw [List.length_take]; omega)
      have HK : Hid (∃ q, q = (L.take k).countP (fun x => x.lat)) := ⟨_, rfl⟩
      generalize (L.take k).countP (fun x => x.lat) = q at ht hle ⊢
      clear h1 hr HK
      cases hrl : r.lat with
      | true =>
        rw [hrl] at a2 ht
        go_wp2_with fail
        go_roundw
        case rel => exact ⟨k + 1, by omega, by go_num, by rw [ht]; go_num, by first | trivial | rfl⟩
        case measure => simp [intOf]; omega
      | false =>
        rw [hrl] at a2 ht
        go_wp2_with fail
        go_roundw
        case rel => exact ⟨k + 1, by omega, by go_num, by rw [ht]; go_num, by first | trivial | rfl⟩
        case measure => simp [intOf]; omega
    · obtain rfl : k = n := by omega
      go_wp2_with fail
      go_ret
      exact ⟨by rw [List.take_of_length_le (by omega)]; rfl, rfl⟩

/-- A store, and two slices of records beside it. -/
structure Kp (w W : World) (g b d : Nat) (m : M) (A1 : Option Addr) (T : List R) (A2 : Option Addr) (T2 : List R) : Prop where
  one : One w W g b d m
  was : Rcs W A1 T
  now : Rcs W A2 T2
theorem Kp.grow {w W W' : World} {g b d : Nat} {m : M} {A1 A2 : Option Addr} {T T2 : List R} (h : Kp w W g b d m A1 T A2 T2) (hb : Below W.heap.size W W') : Kp w W' g b d m A1 T A2 T2 := ⟨h.one.grow hb, h.was.below hb, h.now.below hb⟩
theorem take_mem {L : List R} {j : Nat} {z r : R} (h : L[j]? = some z) : decide (r ∈ L.take (j + 1)) = (decide (r ∈ L.take j) || decide (z = r)) := by
  rw [List.take_add_one, h]
  simp only [Option.toList_some, List.mem_append, List.mem_singleton, Bool.decide_or]
  congr 1
  exact decide_eq_decide.2 eq_comm
theorem take_all {L : List R} {j : Nat} {z : R} (h : L[j]? = some z) : (L.take (j + 1)).all (fun z => z.lat) = ((L.take j).all (fun z => z.lat) && z.lat) := by
  rw [List.take_add_one, h, List.all_append]
  simp
theorem take_any {L : List R} {j : Nat} {z : R} {p : R → Bool} (h : L[j]? = some z) : (L.take (j + 1)).any p = ((L.take j).any p || p z) := by
  rw [List.take_add_one, h, List.any_append]
  simp
theorem get_some {L : List R} {n j : Nat} (h : L.length = n) (hj : j < n) : ∃ z, L[j]? = some z := ⟨L[j]'(by rw [h]; exact hj), List.getElem?_eq_getElem _⟩
theorem rise_at {L : List R} {j : Nat} {a b : R} (h : L.Pairwise fun a b => a.code < b.code) (ha : L[j]? = some a) (hb : L[j + 1]? = some b) : a.code < b.code := by
  obtain ⟨h1, rfl⟩ := List.getElem?_eq_some_iff.1 ha
  obtain ⟨h2, rfl⟩ := List.getElem?_eq_some_iff.1 hb
  exact List.pairwise_iff_getElem.1 h j (j + 1) h1 h2 (by omega)
end Sq
end Go.Proofs.Ytlhapipgmadbeaa
