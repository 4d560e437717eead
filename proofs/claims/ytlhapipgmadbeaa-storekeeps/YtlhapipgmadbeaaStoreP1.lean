/- The program's store as it lies; none, places, Room, Open, may; calls of none. -/
import Derived.Test.YtlhapipgmadbeaaStoreLie
namespace Go.Proofs.Ytlhapipgmadbeaa
namespace Sq
open Go.RowKit Nv Nw Sp Lk

/-- A store at block g: it holds its memory's address alone. -/
structure Sto (W : World) (g b d : Nat) (m : M) : Prop where
  row : W.rowIs g 72 1 (fun _ => .pointer (some ⟨b, 0, none⟩))
  mem : Mem W b d m
  nb : g ≠ b
  nd : g ≠ d
namespace Sto
variable {W W' : World} {g b d : Nat} {m m' : M}
theorem c0 (h : Sto W g b d m) : W.cell? ⟨g, 0, none⟩ = some (.pointer (some ⟨b, 0, none⟩)) := h.row.cell (by decide)
theorem lt (h : Sto W g b d m) : g < W.heap.size := h.row.lt
theorem turn (h : Sto W g b d m) (hm : Mem W' b d m') (ht : Turn b d W W') : Sto W' g b d m' := ⟨h.row.of_block (ht.block g h.lt h.nb h.nd), hm, h.nb, h.nd⟩
theorem grow (h : Sto W g b d m) (hb : Below W.heap.size W W') : Sto W' g b d m := ⟨h.row.of_block (hb.block g h.lt), h.mem.grow hb, h.nb, h.nd⟩
theorem same (h : Sto W g b d m) (hm : Mem W' b d m') (e : W'.heap[g]? = W.heap[g]?) : Sto W' g b d m' := ⟨h.row.of_block e, hm, h.nb, h.nd⟩
end Sto

theorem none_c {g b d : Nat} {m : M} {w : World} (h : Sto w g b d m) :
    Calls Try.prog 32 #[.pointer (some ⟨g, 0, none⟩)] w fun e w' => e = .returned (.bool false) ∧ w = w' := by
  have c0 := h.c0
  clear h
  go_enter Try.func32, Try.ntmps32
  go_wp2_with fail
  go_ret
  exact ⟨rfl, rfl⟩
theorem none_n (w : World) : Calls Try.prog 32 #[.pointer none] w fun e w' => e = .returned (.bool true) ∧ w = w' := by
  go_enter Try.func32, Try.ntmps32
  go_wp2_with fail
  go_ret
  exact ⟨rfl, rfl⟩
theorem places_c {g b d : Nat} {m : M} {w : World} (h : Sto w g b d m) (hl : m.ws.length ≤ 512) :
    Calls Try.prog 33 #[.pointer (some ⟨g, 0, none⟩)] w fun e w' => e = .returned (.int .i64 (rooms m)) ∧ w = w' := by
  have c0 := h.c0
  have HC := Lib.hid (words_c b d m w h.mem)
  have e : (m.ws.length : Int) / 4 = (rooms m : Int) := by unfold rooms; omega
  generalize rooms m = P at *
  generalize m.ws.length = n at *
  clear h
  go_enter Try.func33, Try.ntmps33
  go_wp2_with (first | (go_at_call 31; refine HC.out.mono ?_; rintro e W ⟨rfl, rfl⟩) | fail)
  go_ret
  exact ⟨ret_i (by omega), rfl⟩
theorem sroom_c {g b d : Nat} {m : M} {w : World} (h : Sto w g b d m) (hm : Good m) :
    Calls Try.prog 13 #[.pointer (some ⟨g, 0, none⟩)] w fun e w' => e = .returned (.int .i64 ((rooms m : Int) - 1)) ∧ w = w' := by
  have H1 := Lib.hid (none_c h)
  have H2 := Lib.hid (places_c h hm.most)
  have hP : (rooms m : Int) ≤ 128 := by have := hm.most; unfold rooms; omega
  generalize rooms m = P at *
  clear h hm
  go_enter Try.func13, Try.ntmps13
  go_wp2_with (first | (go_at_call 32; refine H1.out.mono ?_; rintro e W ⟨rfl, rfl⟩) | (go_at_call 33; refine H2.out.mono ?_; rintro e W ⟨rfl, rfl⟩) | fail)
  go_ret
  exact ⟨rfl, rfl⟩
theorem sroom_n (w : World) : Calls Try.prog 13 #[.pointer none] w fun e w' => e = .returned (.int .i64 0) ∧ w = w' := by
  have H1 := Lib.hid (none_n w)
  go_enter Try.func13, Try.ntmps13
  go_wp2_with (first | (go_at_call 32; refine H1.out.mono ?_; rintro e W ⟨rfl, rfl⟩) | fail)
  go_ret
  exact ⟨rfl, rfl⟩

theorem sopen_none (w : World) : Calls Try.prog 12 #[.pointer none] w fun e w' => e = .returned (.tuple #[.pointer none, .int .i64 1]) ∧ w = w' := by
  go_enter Try.func12, Try.ntmps12
  go_wp2_with fail
  go_ret2
  exact ⟨rfl, rfl⟩
theorem sopen_few {b d : Nat} {m : M} {w : World} (h : Mem w b d m) (hg : m.gone = false) (hl : m.ws.length < 8) :
    Calls Try.prog 12 #[.pointer (some ⟨b, 0, none⟩)] w fun e w' => e = .returned (.tuple #[.pointer none, .int .i64 121]) ∧ w = w' := by
  have H1 := Lib.hid (down_c b d m w h)
  have H2 := Lib.hid (words_c b d m w h)
  rw [hg] at H1
  have hl2 : (m.ws.length : Int) < 8 := by omega
  generalize m.ws.length = n at *
  clear h
  go_enter Try.func12, Try.ntmps12
  go_wp2_with (first | (go_at_call 28; refine H1.out.mono ?_; rintro e W ⟨rfl, rfl⟩) | (go_at_call 31; refine H2.out.mono ?_; rintro e W ⟨rfl, rfl⟩) | fail)
  go_ret2
  exact ⟨rfl, rfl⟩
theorem sto_made {b d : Nat} {m : M} {w : World} (h : Mem w b d m) : Sto (w.alloc (.cells #[.pointer (some ⟨b, 0, none⟩)] 72)) w.heap.size b d m := by
  refine ⟨World.rowIs_alloc w #[.pointer (some ⟨b, 0, none⟩)] 72 _ fun i hi => ?_, h.grow ((Below.refl _ _).alloc (Nat.le_refl _) _), by have := h.lt; omega, by have := h.lt'; omega⟩
  have : i = 0 := by simp at hi; omega
  subst this; rfl
theorem sopen_c {b d : Nat} {m : M} {w : World} (h : Mem w b d m) (hg : m.gone = false) (h8 : 8 ≤ m.ws.length) (hl : m.ws.length ≤ 512) :
    Calls Try.prog 12 #[.pointer (some ⟨b, 0, none⟩)] w fun e w' => ∃ g, e = .returned (.tuple #[.pointer (some ⟨g, 0, none⟩), .int .i64 0]) ∧ Sto w' g b d m ∧ w.heap.size ≤ g ∧ Below w.heap.size w w' := by
  have H1 := Lib.hid (down_c b d m w h)
  have H2 := Lib.hid (words_c b d m w h)
  have H3 := Lib.hid (sto_made h)
  rw [hg] at H1
  have hl2 : 8 ≤ (m.ws.length : Int) := by omega
  clear h
  generalize m.ws.length = n at *
  go_enter Try.func12, Try.ntmps12
  go_wp2_with (first | (go_at_call 28; refine H1.out.mono ?_; rintro e W ⟨rfl, rfl⟩) | (go_at_call 31; refine H2.out.mono ?_; rintro e W ⟨rfl, rfl⟩) | fail)
  go_ret2
  exact ⟨_, rfl, H3.out, Nat.le_refl _, (Below.refl _ _).alloc (Nat.le_refl _) _⟩

theorem may_c (r : R) (w : World) : Calls Try.prog 34 #[.agg (rcs r)] w fun e w' => e = .returned (.bool (okR r)) ∧ Below w.heap.size w w' := by
  obtain ⟨rk, rt, rl⟩ := r
  have HW : Hid (Below w.heap.size w (w.alloc (.cells (rcs ⟨rk, rt, rl⟩) 37))) := (Below.refl _ _).alloc (Nat.le_refl _) _
  have hcase : rk < 1 ∨ (1 ≤ rk ∧ 255 < rk) ∨ (1 ≤ rk ∧ rk ≤ 255 ∧ rt < 1) ∨ (1 ≤ rk ∧ rk ≤ 255 ∧ 1 ≤ rt ∧ 65535 < rt) ∨ (1 ≤ rk ∧ rk ≤ 255 ∧ 1 ≤ rt ∧ rt ≤ 65535) := by omega
  obtain ⟨x, hx⟩ : ∃ x, okR ⟨rk, rt, rl⟩ = x := ⟨_, rfl⟩
  have hx2 : decide (1 ≤ rk ∧ rk ≤ 255 ∧ 1 ≤ rt ∧ rt ≤ 65535) = x := hx
  rw [hx]
  clear hx
  rcases hcase with h1 | ⟨h1, h2⟩ | ⟨h1, h2, h3⟩ | ⟨h1, h2, h3, h4⟩ | ⟨h1, h2, h3, h4⟩
  · obtain rfl : x = false := by rw [← hx2]; exact decide_eq_false (by omega)
    clear hx2
    go_enter Try.func34, Try.ntmps34
    go_wp2_with fail
    go_ret
    exact ⟨rfl, HW.out⟩
  · obtain rfl : x = false := by rw [← hx2]; exact decide_eq_false (by omega)
    clear hx2
    go_enter Try.func34, Try.ntmps34
    go_wp2_with fail
    go_ret
    exact ⟨rfl, HW.out⟩
  · obtain rfl : x = false := by rw [← hx2]; exact decide_eq_false (by omega)
    clear hx2
    go_enter Try.func34, Try.ntmps34
    go_wp2_with fail
    go_ret
    exact ⟨rfl, HW.out⟩
  · obtain rfl : x = false := by rw [← hx2]; exact decide_eq_false (by omega)
    clear hx2
    have h5 : decide (rt ≤ 65535) = false := decide_eq_false (by omega)
    go_enter Try.func34, Try.ntmps34
    go_wp2_with fail
    go_ret
    exact ⟨rfl, HW.out⟩
  · obtain rfl : x = true := by rw [← hx2]; exact decide_eq_true ⟨h1, h2, h3, h4⟩
    clear hx2
    go_enter Try.func34, Try.ntmps34
    go_wp2_with fail
    go_ret
    exact ⟨rfl, HW.out⟩
end Sq
end Go.Proofs.Ytlhapipgmadbeaa
