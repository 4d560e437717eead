/- The walk of LimitLadders. -/
import Derived.Test.YtjjconkelbjodaaLimitLaw2
import Derived.Test.YtjjconkelbjodaaZsKit
namespace Go.Proofs.Ytjjconkelbjodaa
namespace Lw5
open Go.RowKit FixC Lk Ew Hw Zk

theorem lad_z {w : World} {x y : Int} {v : Value} {base : Nat} {l : List Int} (hl : l.length ≤ 100) (h : Zs w base v l) (he : Lt.ladder x l = y) : Calls Try.prog 14 #[.int .i64 x, v] w fun e w' => e = .returned (.int .i64 y) ∧ w = w' := by
  obtain ⟨A, c, rfl, hA⟩ := h.form
  exact he ▸ ladder_c x A c l w (by omega) hA

set_option maxHeartbeats 4000000 in
theorem LimitLadders_walk (x : Int) (hx : -2147483648 ≤ x ∧ x ≤ 2147483647) (A : Option Addr) (rs : List Int) (c : Nat) (hlen : rs.length ≤ 9223372036854775807) (w : World) (hA : Lk.IntsAt w .i64 A rs) : Calls Try.prog 7 #[.int .i32 x, .slice A rs.length c] w fun e w' => e = .returned (.bool true) ∧ Below w.heap.size w w' := by
  by_cases h2 : 50 < rs.length
  · have d1 : decide ((50 : Int) < (rs.length : Int)) = true := decide_eq_true (by omega)
    clear hA
    go_enter Try.func7, Try.ntmps7
    go_wp2_with (first | (go_at_call 8; (with_reducible refine (awake_c _).mono ?_); rintro e W ⟨rfl, hb⟩; have HB := Lib.hid hb; clear hb) | fail)
    go_ret
    exact ⟨rfl, HB.out⟩
  have d1 : decide ((50 : Int) < (rs.length : Int)) = false := decide_eq_false (by omega)
  obtain ⟨z, ez⟩ : ∃ z, Lt.ladder x rs = z := ⟨_, rfl⟩
  have C3 := Lib.hid (fun W hb => ladder_v (c := c) hlen hA ez W hb)
  have HR : Hid (∀ y ∈ rs, x < z → z ≤ y) := fun y hy h => by rw [← ez] at h ⊢; exact Lt.ladder_rung hx hy h
  have hge : x ≤ z := by rw [← ez]; exact Lt.ladder_ge hx rs
  have d2 : decide (x ≤ z) = true := decide_eq_true hge
  have HZ : Hid (Lt.ladder x rs.reverse = z) := by show _ = _; rw [Lt.ladder_reverse, ez]
  have HA := Lib.hid hA
  clear ez hA
  go_enter Try.func7, Try.ntmps7
  go_wp2_with (first | (go_at_call 8; (with_reducible refine (awake_c _).mono ?_); rintro e W ⟨rfl, hb⟩; have HB := Lib.hid hb; clear hb) | (go_at_call 14; (with_reducible refine (C3.out _ HB.out).mono ?_); rintro e w' ⟨rfl, rfl⟩) | fail)
  go_loopw [7, 8] (fun v i wr => ∃ j : Nat, j ≤ rs.length ∧ i = .int .i64 ((j : Int) - 1) ∧ Zs wr w.heap.size v (rs.drop j).reverse ∧ Below w.heap.size w wr) (fun _ i _ => (intOf i + 1).toNat)
  case atStart => exact ⟨rs.length, Nat.le_refl _, rfl, by rw [List.drop_length]; exact Rw.nil _ _ _ _ _, HB.out⟩
  case round =>
    clear HB
    obtain ⟨j, hj, rfl, hz, hb⟩ := hrel
    have HZj := Lib.hid hz
    have HB := Lib.hid hb
    clear hz hb
    by_cases hj0 : j = 0
    · subst hj0
      rw [List.drop_zero] at HZj
      have hrl : rs.reverse.length ≤ 50 := by simp; omega
      have C5 := Lib.hid (lad_z (x := x) (by omega) HZj.out HZ.out)
      have e0 : ((0 : Nat) : Int) - 1 = -1 := rfl
      rw [e0]
      have HE : Hid (Lt.ladder x (rs.reverse ++ [x]) = x) := Lt.ladder_end hx _
      have hbs := HB.out.size
      go_wp2_with (first | (go_at_call 14; (with_reducible refine C5.out.mono ?_); rintro e w' ⟨rfl, rfl⟩) | (at_builtin; refine app_z rfl _ _ rfl w.heap.size _ rs.reverse rfl (HZj.out.alloc _) wr.heap.size 1 x rfl (range_z wr x) (by omega) (by simp; omega) ?_; intro v5 W5 h5 hb5; have C6 := Lib.hid (lad_z (x := x) (by simp; omega) h5 HE.out); replace HB := Lib.hid ((HB.out.alloc hbs (.cells #[.int .i64 x] 3)).trans hb5); clear h5 hb5) | (go_at_call 14; (with_reducible refine C6.out.mono ?_); rintro e w' ⟨rfl, rfl⟩) | fail)
      go_ret
      exact ⟨rfl, HB.out⟩
    · obtain ⟨j', rfl⟩ : ∃ j', j = j' + 1 := ⟨j - 1, by omega⟩
      have e0 : ((j' + 1 : Nat) : Int) - 1 = (j' : Int) := by omega
      rw [e0]
      obtain ⟨y, hy⟩ : ∃ y, rs[j']? = some y := ⟨rs[j']'(by omega), List.getElem?_eq_getElem _⟩
      obtain ⟨g, o, rfl, hc0⟩ := (HA.out.below HB.out) j' (by omega)
      have hy2 : rs.getD j' 0 = y := by rw [List.getD_eq_getElem?_getD, hy]; rfl
      rw [hy2] at hc0
      have hc1 : ∀ o', (wr.alloc o').cell? ⟨g, o + j', none⟩ = some (.int .i64 y) := fun o' => by rw [World.cell?_alloc_past _ _ _ (World.block_lt_of_cell? _ _ hc0)]; exact hc0
      have HS := Lib.hid (back_step hy)
      have hr := HR.out y (List.mem_of_getElem? hy)
      have hbl : (rs.drop (j' + 1)).reverse.length ≤ 1000 := by simp; omega
      have hbs := HB.out.size
      obtain ⟨b, hb⟩ : ∃ b, (rs.drop (j' + 1)).reverse = b := ⟨_, rfl⟩
      rw [hb] at HZj HS hbl
      have HC : Hid (∀ W', Below w.heap.size wr W' → W'.cell? ⟨g, o + j', none⟩ = some (.int .i64 y)) := fun W' hb' => by
        obtain ⟨g2, o2, e2, h2⟩ := (HA.out.below (HB.out.trans hb')) j' (by omega)
        injection e2 with e2
        injection e2 with e3 e4
        subst e3; subst e4
        rw [hy2] at h2
        exact h2
      clear hy hy2 hb hj0 e0 hc1
      by_cases hxz : x < z
      · have k1 : decide (x < z) = true := decide_eq_true hxz
        have k2 : decide (y < z) = false := decide_eq_false (by have := hr hxz; omega)
        go_wp2_with (first | (at_builtin; refine app_z rfl _ _ rfl w.heap.size _ b rfl (HZj.out.alloc _) wr.heap.size 1 y rfl (range_z wr y) (by omega) (by simp; omega) ?_; intro v5 W5 h5 hb5; have HZ5 := Lib.hid h5; have hc5 := HC.out W5 (((Below.refl _ wr).alloc hbs (.cells #[.int .i64 y] 3)).trans hb5); replace HB := Lib.hid ((HB.out.alloc hbs (.cells #[.int .i64 y] 3)).trans hb5); clear h5 hb5) | fail)
        go_roundw
        case rel => exact ⟨j', by omega, by go_num, by rw [HS.out]; exact HZ5.out, HB.out⟩
        case measure => (simp [intOf]; try omega)
      · have k1 : decide (x < z) = false := decide_eq_false hxz
        go_wp2_with (first | (at_builtin; refine app_z rfl _ _ rfl w.heap.size _ b rfl (HZj.out.alloc _) wr.heap.size 1 y rfl (range_z wr y) (by omega) (by simp; omega) ?_; intro v5 W5 h5 hb5; have HZ5 := Lib.hid h5; replace HB := Lib.hid ((HB.out.alloc hbs (.cells #[.int .i64 y] 3)).trans hb5); clear h5 hb5) | fail)
        go_roundw
        case rel => exact ⟨j', by omega, by go_num, by rw [HS.out]; exact HZ5.out, HB.out⟩
        case measure => (simp [intOf]; try omega)

end Lw5
end Go.Proofs.Ytjjconkelbjodaa
