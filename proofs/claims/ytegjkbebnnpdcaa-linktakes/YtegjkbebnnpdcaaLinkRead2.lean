/- link.read. -/
import Derived.Test.YtegjkbebnnpdcaaLinkGet
namespace Go.Proofs.Ytegjkbebnnpdcaa
namespace Lw
open Go.RowKit

/-- A packet's cells without its flags. -/
abbrev rcs (f n a b c d e m s : Int) : Array Value := #[.int .i64 f, .int .i64 n, .int .i64 a, .int .i64 b, .int .i64 c, .int .i64 d, .int .i64 e, .bool false, .bool false, .bool false, .bool false, .bool false, .int .i64 m, .int .i64 s]
/-- The state of the reading: the bytes' slice in block m, the result in m + 1, the place in m + 2, the packet in m + 3. -/
structure Rd (w W : World) (m : Nat) (A : Option Addr) (c i : Nat) (cs : Array Value) : Prop where
  old : Below m w W
  bx : W.heap[m]? = some (.cells #[.slice A 32 c] 27 (0, 0))
  res : W.heap[m + 1]? = some (.cells (rcs 0 0 0 0 0 0 0 0 0) 26 (0, 0))
  pl : W.heap[m + 1 + 1]? = some (.cells #[.int .i64 (i : Int)] 3 (0, 0))
  pk : W.heap[m + 1 + 1 + 1]? = some (.cells cs 26 (0, 0))
namespace Rd
variable {w W W' : World} {m c i : Nat} {A : Option Addr} {cs : Array Value}
theorem box (h : Rd w W m A c i cs) : W.cell? ⟨m, 0, none⟩ = some (.slice A 32 c) := by rw [Joins.cell_of_block h.bx]; rfl
theorem at_ (h : Rd w W m A c i cs) : W.cell? ⟨m + 1 + 1, 0, none⟩ = some (.int .i64 (i : Int)) := by rw [Joins.cell_of_block h.pl]; rfl
theorem atf (h : Rd w W m A c i cs) : W.frozen? ⟨m + 1 + 1, 0, none⟩ = false := Joins.unfrozen_of_block h.pl 0
theorem cell (h : Rd w W m A c i cs) (j : Nat) {v : Value} (hv : cs[j]? = some v) : W.cell? ⟨m + 1 + 1 + 1, j, none⟩ = some v := by rw [Joins.cell_of_block h.pk, hv]
theorem frozen (h : Rd w W m A c i cs) (j : Nat) : W.frozen? ⟨m + 1 + 1 + 1, j, none⟩ = false := Joins.unfrozen_of_block h.pk j
theorem rcell (h : Rd w W m A c i cs) (j : Nat) {v : Value} (hv : (rcs 0 0 0 0 0 0 0 0 0)[j]? = some v) : W.cell? ⟨m + 1, j, none⟩ = some v := by rw [Joins.cell_of_block h.res, hv]
theorem rfrozen (h : Rd w W m A c i cs) (j : Nat) : W.frozen? ⟨m + 1, j, none⟩ = false := Joins.unfrozen_of_block h.res j
theorem got (h : Rd w W m A c i cs) (i' : Nat) : Rd w (W.setCell ⟨m + 1 + 1, 0, none⟩ (.int .i64 (i' : Int))) m A c i' cs :=
  ⟨h.old.setCell (p := ⟨m + 1 + 1, 0, none⟩) (by show m ≤ m + 1 + 1; omega) _, by rw [Below.heap_setCell _ _ _ _ (by show m ≠ m + 1 + 1; omega)]; exact h.bx, by rw [Below.heap_setCell _ _ _ _ (by show m + 1 ≠ m + 1 + 1; omega)]; exact h.res, by rw [Joins.block_setCell h.pl]; rfl, by rw [Below.heap_setCell _ _ _ _ (by show m + 1 + 1 + 1 ≠ m + 1 + 1; omega)]; exact h.pk⟩
theorem put (h : Rd w W m A c i cs) (j : Nat) (v : Value) {cs' : Array Value} (e : cs.setIfInBounds j v = cs') : Rd w (W.setCell ⟨m + 1 + 1 + 1, j, none⟩ v) m A c i cs' :=
  ⟨h.old.setCell (p := ⟨m + 1 + 1 + 1, j, none⟩) (by show m ≤ m + 1 + 1 + 1; omega) _, by rw [Below.heap_setCell _ _ _ _ (by show m ≠ m + 1 + 1 + 1; omega)]; exact h.bx, by rw [Below.heap_setCell _ _ _ _ (by show m + 1 ≠ m + 1 + 1 + 1; omega)]; exact h.res, by rw [Below.heap_setCell _ _ _ _ (by show m + 1 + 1 ≠ m + 1 + 1 + 1; omega)]; exact h.pl, by rw [Joins.block_setCell h.pk, e]⟩
theorem lt (h : Rd w W m A c i cs) : m + 1 + 1 + 1 < W.heap.size := (Array.getElem?_eq_some_iff.1 h.pk).1
theorem below (h : Rd w W m A c i cs) (hb : Below W.heap.size W W') : Rd w W' m A c i cs := by
  have := h.lt
  exact ⟨h.old.trans (hb.mono (by omega)), (hb.block _ (by omega)).trans h.bx, (hb.block _ (by omega)).trans h.res, (hb.block _ (by omega)).trans h.pl, (hb.block _ (by omega)).trans h.pk⟩
theorem bytes {l : List Nat} (h : Rd w W m A c i cs) (hA : Crc.InB w A l) (hm : m = w.heap.size) : Crc.InB W A l := hA.below (hm ▸ h.old)
theorem start (w : World) (A : Option Addr) (c : Nat) : Rd w ((((w.alloc (.cells #[.slice A 32 c] 27)).alloc (.cells (rcs 0 0 0 0 0 0 0 0 0) 26)).alloc (.cells #[.int .i64 1] 3)).alloc (.cells (rcs 0 0 0 0 0 0 0 0 0) 26)) w.heap.size A c 1 (rcs 0 0 0 0 0 0 0 0 0) := by
  have e1 : (w.alloc (.cells #[.slice A 32 c] 27)).heap.size = w.heap.size + 1 := by simp
  have e2 : ((w.alloc (.cells #[.slice A 32 c] 27)).alloc (.cells (rcs 0 0 0 0 0 0 0 0 0) 26)).heap.size = w.heap.size + 1 + 1 := by simp
  have e3 : (((w.alloc (.cells #[.slice A 32 c] 27)).alloc (.cells (rcs 0 0 0 0 0 0 0 0 0) 26)).alloc (.cells #[.int .i64 1] 3)).heap.size = w.heap.size + 1 + 1 + 1 := by simp
  have b1 := (Below.refl w.heap.size w).alloc (Nat.le_refl _) (.cells #[.slice A 32 c] 27)
  have b2 := b1.alloc b1.size (.cells (rcs 0 0 0 0 0 0 0 0 0) 26)
  have b3 := b2.alloc b2.size (.cells #[.int .i64 1] 3)
  have b4 := b3.alloc b3.size (.cells (rcs 0 0 0 0 0 0 0 0 0) 26)
  refine ⟨b4, ?_, ?_, ?_, ?_⟩
  · rw [Below.heap_alloc _ _ _ (by omega), Below.heap_alloc _ _ _ (by omega), Below.heap_alloc _ _ _ (by omega)]
    exact heap_alloc_last w _
  · rw [Below.heap_alloc _ _ _ (by omega), Below.heap_alloc _ _ _ (by omega)]
    have := heap_alloc_last (w.alloc (.cells #[.slice A 32 c] 27)) (.cells (rcs 0 0 0 0 0 0 0 0 0) 26)
    rwa [e1] at this
  · rw [Below.heap_alloc _ _ _ (by omega)]
    have := heap_alloc_last ((w.alloc (.cells #[.slice A 32 c] 27)).alloc (.cells (rcs 0 0 0 0 0 0 0 0 0) 26)) (.cells #[.int .i64 1] 3)
    rwa [e2] at this
  · have := heap_alloc_last (((w.alloc (.cells #[.slice A 32 c] 27)).alloc (.cells (rcs 0 0 0 0 0 0 0 0 0) 26)).alloc (.cells #[.int .i64 1] 3)) (.cells (rcs 0 0 0 0 0 0 0 0 0) 26)
    rwa [e3] at this
end Rd
theorem s32_wrap {n : Nat} (h : n < 4294967296) : IntKind.i32.wrap (n : Int) = Ln.s32 n := by
  unfold Ln.s32
  rw [show IntKind.i32.wrap (n : Int) = (n + 2147483648) % 4294967296 - 2147483648 from by simp [IntKind.wrap, IntKind.bits, IntKind.signed]; try omega]
  split <;> omega
theorem num_lt {l : List Nat} (hb : Cr.Bytes l) {i : Nat} (h : i + 4 ≤ l.length) : Ln.num l i < 4294967296 := by
  have := nm_lt hb i 4 h
  rw [nm4] at this
  exact this
/-- The cells with the first k values read. -/
def rk (f n y0 y1 y2 y3 y4 m s : Int) : Nat → Array Value
  | 0 => rcs f n 0 0 0 0 0 m s
  | 1 => rcs f n y0 0 0 0 0 m s
  | 2 => rcs f n y0 y1 0 0 0 m s
  | 3 => rcs f n y0 y1 y2 0 0 m s
  | 4 => rcs f n y0 y1 y2 y3 0 m s
  | _ => rcs f n y0 y1 y2 y3 y4 m s

set_option maxRecDepth 100000 in
set_option maxHeartbeats 8000000 in
theorem read_c (l : List Nat) (hl : l.length = 32) (hb : Cr.Bytes l) (A : Option Addr) (c : Nat) (hc : 32 ≤ c) (w : World) (hA : Crc.InB w A l) :
    Calls Try.prog 28 #[.slice A 32 c] w fun e w' => e = .returned (.agg (pc (Ln.rd l))) ∧ Below w.heap.size w w' := by
  have HR := Lib.hid (Rd.start w A c)
  have hmf : ∀ (fn : Fn) (first cap : Array Value) (w : World), (Instr.makeFunc fn first cap).run Try.prog w = .ok (.func fn first cap) w := fun _ _ _ _ => rfl
  obtain ⟨f, hf⟩ : ∃ x, l.getD 1 0 = x := ⟨_, rfl⟩
  have Hf : Hid (nm l 1 1 = f) := by
    show nm l 1 1 = f
    rw [nm1, hf]
  obtain ⟨m, hm⟩ : ∃ x, l.getD 6 0 = x := ⟨_, rfl⟩
  have Hm : Hid (nm l 6 1 = m) := by
    show nm l 6 1 = m
    rw [nm1, hm]
  obtain ⟨s, hs⟩ : ∃ x, l.getD 7 0 = x := ⟨_, rfl⟩
  have Hs : Hid (nm l 7 1 = s) := by
    show nm l 7 1 = s
    rw [nm1, hs]
  obtain ⟨g, hg⟩ : ∃ x, l.getD 28 0 = x := ⟨_, rfl⟩
  have Hg : Hid (nm l 28 1 = g) := by
    show nm l 28 1 = g
    rw [nm1, hg]
  obtain ⟨n, hn⟩ : ∃ x, Ln.num l 2 = x := ⟨_, rfl⟩
  have Hn : Hid (nm l 2 4 = n) := by
    show nm l 2 4 = n
    rw [nm4, hn]
  have hg8 : g < 256 := by rw [← hg]; exact Crc.getD_byte hb (by omega)
  obtain ⟨x0, hx0⟩ : ∃ x, Ln.num l 8 = x := ⟨_, rfl⟩
  have Hx0 : Hid (nm l 8 4 = x0) := by
    show nm l 8 4 = x0
    rw [nm4, hx0]
  have hw0 := s32_wrap (num_lt hb (i := 8) (by omega))
  rw [hx0] at hw0
  obtain ⟨y0, hy0⟩ : ∃ y, Ln.s32 x0 = y := ⟨_, rfl⟩
  rw [hy0] at hw0
  have hv0 : wrap64 y0 = y0 := by
    have := num_lt hb (i := 8) (by omega)
    rw [hx0] at this
    rw [← hy0]
    unfold Ln.s32 wrap64
    split <;> omega
  obtain ⟨x1, hx1⟩ : ∃ x, Ln.num l 12 = x := ⟨_, rfl⟩
  have Hx1 : Hid (nm l 12 4 = x1) := by
    show nm l 12 4 = x1
    rw [nm4, hx1]
  have hw1 := s32_wrap (num_lt hb (i := 12) (by omega))
  rw [hx1] at hw1
  obtain ⟨y1, hy1⟩ : ∃ y, Ln.s32 x1 = y := ⟨_, rfl⟩
  rw [hy1] at hw1
  have hv1 : wrap64 y1 = y1 := by
    have := num_lt hb (i := 12) (by omega)
    rw [hx1] at this
    rw [← hy1]
    unfold Ln.s32 wrap64
    split <;> omega
  obtain ⟨x2, hx2⟩ : ∃ x, Ln.num l 16 = x := ⟨_, rfl⟩
  have Hx2 : Hid (nm l 16 4 = x2) := by
    show nm l 16 4 = x2
    rw [nm4, hx2]
  have hw2 := s32_wrap (num_lt hb (i := 16) (by omega))
  rw [hx2] at hw2
  obtain ⟨y2, hy2⟩ : ∃ y, Ln.s32 x2 = y := ⟨_, rfl⟩
  rw [hy2] at hw2
  have hv2 : wrap64 y2 = y2 := by
    have := num_lt hb (i := 16) (by omega)
    rw [hx2] at this
    rw [← hy2]
    unfold Ln.s32 wrap64
    split <;> omega
  obtain ⟨x3, hx3⟩ : ∃ x, Ln.num l 20 = x := ⟨_, rfl⟩
  have Hx3 : Hid (nm l 20 4 = x3) := by
    show nm l 20 4 = x3
    rw [nm4, hx3]
  have hw3 := s32_wrap (num_lt hb (i := 20) (by omega))
  rw [hx3] at hw3
  obtain ⟨y3, hy3⟩ : ∃ y, Ln.s32 x3 = y := ⟨_, rfl⟩
  rw [hy3] at hw3
  have hv3 : wrap64 y3 = y3 := by
    have := num_lt hb (i := 20) (by omega)
    rw [hx3] at this
    rw [← hy3]
    unfold Ln.s32 wrap64
    split <;> omega
  obtain ⟨x4, hx4⟩ : ∃ x, Ln.num l 24 = x := ⟨_, rfl⟩
  have Hx4 : Hid (nm l 24 4 = x4) := by
    show nm l 24 4 = x4
    rw [nm4, hx4]
  have hw4 := s32_wrap (num_lt hb (i := 24) (by omega))
  rw [hx4] at hw4
  obtain ⟨y4, hy4⟩ : ∃ y, Ln.s32 x4 = y := ⟨_, rfl⟩
  rw [hy4] at hw4
  have hv4 : wrap64 y4 = y4 := by
    have := num_lt hb (i := 24) (by omega)
    rw [hx4] at this
    rw [← hy4]
    unfold Ln.s32 wrap64
    split <;> omega
  have HP : Hid (pc (Ln.rd l) = #[.int .i64 f, .int .i64 n, .int .i64 y0, .int .i64 y1, .int .i64 y2, .int .i64 y3, .int .i64 y4, .bool (Ln.odd g 0), .bool (Ln.odd g 1), .bool (Ln.odd g 2), .bool (Ln.odd g 3), .bool (Ln.odd g 4), .int .i64 m, .int .i64 s]) := by
    show pc (Ln.rd l) = _
    unfold Ln.rd pc
    simp only [hf, hn, hm, hs, hg, hx0, hx1, hx2, hx3, hx4, hy0, hy1, hy2, hy3, hy4]
  have HA := Lib.hid hA
  have HB := Lib.hid hb
  clear hA hb hf hn hm hs hg hx0 hx1 hx2 hx3 hx4 hy0 hy1 hy2 hy3 hy4
  dsimp only [rcs] at *
  go_enter Try.func28, Try.ntmps28
  go_wp2_with fail
  refine (get_c 1 1 2 f (.inl rfl) l hl HB.out rfl (by decide) Hf.out A c _ _ hc _ (HR.out.bytes HA.out rfl) HR.out.box HR.out.at_ HR.out.atf).mono ?_
  rintro e W0 ⟨rfl, hw⟩
  have hq := HR.out.got 2
  rw [← hw] at hq
  replace HR := Lib.hid hq
  clear hw hq
  have c1 : W0.cell? ⟨w.heap.size + 1 + 1 + 1, 0, none⟩ = some (.int .i64 0) := HR.out.cell 0 rfl
  have c2 := HR.out.frozen 0
  go_wp2_with fail
  clear c1 c2
  replace HR := Lib.hid (HR.out.put 0 (.int .i64 (f : Int)) rfl)
  generalize World.setCell _ _ _ = V0 at *
  refine (get_c 4 2 6 n (.inr rfl) l hl HB.out rfl (by decide) Hn.out A c _ _ hc _ (HR.out.bytes HA.out rfl) HR.out.box HR.out.at_ HR.out.atf).mono ?_
  rintro e W1 ⟨rfl, hw⟩
  have hq := HR.out.got 6
  rw [← hw] at hq
  replace HR := Lib.hid hq
  clear hw hq
  have c1 : W1.cell? ⟨w.heap.size + 1 + 1 + 1, 1, none⟩ = some (.int .i64 0) := HR.out.cell 1 rfl
  have c2 := HR.out.frozen 1
  go_wp2_with fail
  clear c1 c2
  replace HR := Lib.hid (HR.out.put 1 (.int .i64 (n : Int)) rfl)
  generalize World.setCell _ _ _ = V1 at *
  refine (get_c 1 6 7 m (.inl rfl) l hl HB.out rfl (by decide) Hm.out A c _ _ hc _ (HR.out.bytes HA.out rfl) HR.out.box HR.out.at_ HR.out.atf).mono ?_
  rintro e W2 ⟨rfl, hw⟩
  have hq := HR.out.got 7
  rw [← hw] at hq
  replace HR := Lib.hid hq
  clear hw hq
  have c1 : W2.cell? ⟨w.heap.size + 1 + 1 + 1, 12, none⟩ = some (.int .i64 0) := HR.out.cell 12 rfl
  have c2 := HR.out.frozen 12
  go_wp2_with fail
  clear c1 c2
  replace HR := Lib.hid (HR.out.put 12 (.int .i64 (m : Int)) rfl)
  generalize World.setCell _ _ _ = V2 at *
  refine (get_c 1 7 8 s (.inl rfl) l hl HB.out rfl (by decide) Hs.out A c _ _ hc _ (HR.out.bytes HA.out rfl) HR.out.box HR.out.at_ HR.out.atf).mono ?_
  rintro e W3 ⟨rfl, hw⟩
  have hq := HR.out.got 8
  rw [← hw] at hq
  replace HR := Lib.hid hq
  clear hw hq
  have c1 : W3.cell? ⟨w.heap.size + 1 + 1 + 1, 13, none⟩ = some (.int .i64 0) := HR.out.cell 13 rfl
  have c2 := HR.out.frozen 13
  go_wp2_with fail
  clear c1 c2
  replace HR := Lib.hid (HR.out.put 13 (.int .i64 (s : Int)) rfl)
  generalize World.setCell _ _ _ = V3 at *
  replace HR : Hid (Rd w V3 w.heap.size A c (8 + 4 * 0) (rk f n y0 y1 y2 y3 y4 m s 0)) := HR
  go_loopw [20] (fun i wr => ∃ k : Nat, k ≤ 5 ∧ i = .int .i64 k ∧ Rd w wr w.heap.size A c (8 + 4 * k) (rk f n y0 y1 y2 y3 y4 m s k)) (fun i _ => 5 - (intOf i).toNat)
  case atStart => exact ⟨0, by decide, rfl, HR.out⟩
  case round =>
    obtain ⟨k, hk, rfl, hw⟩ := hrel
    clear HR
    have HR := Lib.hid hw
    clear hw
    by_cases hlt : k < 5
    · have hk5 : k = 0 ∨ k = 1 ∨ k = 2 ∨ k = 3 ∨ k = 4 := by omega
      rcases hk5 with rfl | rfl | rfl | rfl | rfl
      · replace HR : Hid (Rd w wr w.heap.size A c 8 (rk f n y0 y1 y2 y3 y4 m s 0)) := HR
        go_wp2_with fail
        refine (get_c 4 8 12 x0 (.inr rfl) l hl HB.out rfl (by decide) Hx0.out A c _ _ hc _ (HR.out.bytes HA.out rfl) HR.out.box HR.out.at_ HR.out.atf).mono ?_
        rintro e W1 ⟨rfl, hw⟩
        have hq := HR.out.got 12
        rw [← hw] at hq
        replace HR := Lib.hid hq
        clear hw hq
        have c1 : W1.cell? ⟨w.heap.size + 1 + 1 + 1, 2, none⟩ = some (.int .i64 0) := HR.out.cell 2 rfl
        have c2 := HR.out.frozen 2
        go_wp2_with fail
        go_roundw
        case rel => exact ⟨1, by decide, rfl, HR.out.put 2 (.int .i64 y0) rfl⟩
        case measure => simp [intOf]
      · replace HR : Hid (Rd w wr w.heap.size A c 12 (rk f n y0 y1 y2 y3 y4 m s 1)) := HR
        go_wp2_with fail
        refine (get_c 4 12 16 x1 (.inr rfl) l hl HB.out rfl (by decide) Hx1.out A c _ _ hc _ (HR.out.bytes HA.out rfl) HR.out.box HR.out.at_ HR.out.atf).mono ?_
        rintro e W1 ⟨rfl, hw⟩
        have hq := HR.out.got 16
        rw [← hw] at hq
        replace HR := Lib.hid hq
        clear hw hq
        have c1 : W1.cell? ⟨w.heap.size + 1 + 1 + 1, 3, none⟩ = some (.int .i64 0) := HR.out.cell 3 rfl
        have c2 := HR.out.frozen 3
        go_wp2_with fail
        go_roundw
        case rel => exact ⟨2, by decide, rfl, HR.out.put 3 (.int .i64 y1) rfl⟩
        case measure => simp [intOf]
      · replace HR : Hid (Rd w wr w.heap.size A c 16 (rk f n y0 y1 y2 y3 y4 m s 2)) := HR
        go_wp2_with fail
        refine (get_c 4 16 20 x2 (.inr rfl) l hl HB.out rfl (by decide) Hx2.out A c _ _ hc _ (HR.out.bytes HA.out rfl) HR.out.box HR.out.at_ HR.out.atf).mono ?_
        rintro e W1 ⟨rfl, hw⟩
        have hq := HR.out.got 20
        rw [← hw] at hq
        replace HR := Lib.hid hq
        clear hw hq
        have c1 : W1.cell? ⟨w.heap.size + 1 + 1 + 1, 4, none⟩ = some (.int .i64 0) := HR.out.cell 4 rfl
        have c2 := HR.out.frozen 4
        go_wp2_with fail
        go_roundw
        case rel => exact ⟨3, by decide, rfl, HR.out.put 4 (.int .i64 y2) rfl⟩
        case measure => simp [intOf]
      · replace HR : Hid (Rd w wr w.heap.size A c 20 (rk f n y0 y1 y2 y3 y4 m s 3)) := HR
        go_wp2_with fail
        refine (get_c 4 20 24 x3 (.inr rfl) l hl HB.out rfl (by decide) Hx3.out A c _ _ hc _ (HR.out.bytes HA.out rfl) HR.out.box HR.out.at_ HR.out.atf).mono ?_
        rintro e W1 ⟨rfl, hw⟩
        have hq := HR.out.got 24
        rw [← hw] at hq
        replace HR := Lib.hid hq
        clear hw hq
        have c1 : W1.cell? ⟨w.heap.size + 1 + 1 + 1, 5, none⟩ = some (.int .i64 0) := HR.out.cell 5 rfl
        have c2 := HR.out.frozen 5
        go_wp2_with fail
        go_roundw
        case rel => exact ⟨4, by decide, rfl, HR.out.put 5 (.int .i64 y3) rfl⟩
        case measure => simp [intOf]
      · replace HR : Hid (Rd w wr w.heap.size A c 24 (rk f n y0 y1 y2 y3 y4 m s 4)) := HR
        go_wp2_with fail
        refine (get_c 4 24 28 x4 (.inr rfl) l hl HB.out rfl (by decide) Hx4.out A c _ _ hc _ (HR.out.bytes HA.out rfl) HR.out.box HR.out.at_ HR.out.atf).mono ?_
        rintro e W1 ⟨rfl, hw⟩
        have hq := HR.out.got 28
        rw [← hw] at hq
        replace HR := Lib.hid hq
        clear hw hq
        have c1 : W1.cell? ⟨w.heap.size + 1 + 1 + 1, 6, none⟩ = some (.int .i64 0) := HR.out.cell 6 rfl
        have c2 := HR.out.frozen 6
        go_wp2_with fail
        go_roundw
        case rel => exact ⟨5, by decide, rfl, HR.out.put 6 (.int .i64 y4) rfl⟩
        case measure => simp [intOf]
    · obtain rfl : k = 5 := by omega
      replace HR : Hid (Rd w wr w.heap.size A c 28 (rk f n y0 y1 y2 y3 y4 m s 5)) := HR
      go_wp2_with fail
      refine (get_c 1 28 29 g (.inl rfl) l hl HB.out rfl (by decide) Hg.out A c _ _ hc _ (HR.out.bytes HA.out rfl) HR.out.box HR.out.at_ HR.out.atf).mono ?_
      rintro e W1 ⟨rfl, hw⟩
      have hq := HR.out.got 29
      rw [← hw] at hq
      replace HR := Lib.hid hq
      clear hw hq
      go_wp2_with fail
      refine (flags_c g hg8 _).mono ?_
      rintro e W2 ⟨rfl, ho⟩
      replace HR := Lib.hid (HR.out.below ho)
      clear ho
      have HP2 : Hid (Pkt W2 (w.heap.size + 1 + 1 + 1) ⟨f, n, y0, y1, y2, y3, y4, false, false, false, false, false, m, s⟩) := HR.out.pk
      have HQ2 : Hid (Pkt W2 (w.heap.size + 1) Ln.zero) := HR.out.res
      have HB2 : Hid (Below w.heap.size w W2) := HR.out.old
      clear HR HA HB Hf Hm Hs Hg Hn Hx0 Hx1 Hx2 Hx3 Hx4
      generalize hz : w.heap.size = M at *
      have HZ := Lib.hid hz
      clear hz
      go_wp2_with (first
        | (refine st_good rfl _ _ rfl rfl _ _ _ _ _ _ _ rfl rfl HP2.out ?_; intro W3 h1 h2; have HP3 := Lib.hid h1; have HQ3 : Hid (Pkt W3 (M + 1) Ln.zero) := (h2.block _ (by omega)).trans HQ2.out; have HB3 := Lib.hid (HB2.out.trans (h2.below (by omega))); clear h1 h2 HP2 HQ2 HB2)
        | (refine ld_pk rfl _ rfl _ _ rfl HP3.out ?_)
        | (refine st_pk rfl _ _ rfl rfl _ _ _ rfl rfl HQ3.out ?_; intro W4 h1 h2; have HP4 := Lib.hid h1; have HB4 := Lib.hid (HB3.out.trans (h2.below (by omega))); clear h1 h2 HQ3 HB3))
      refine bodyPost_ret (results_cell_row rfl _ _ (M + 1) 26 _ _ _ rfl HP4.out Try.underlying26 rfl info_pk) rfl ?_
      exact ⟨by rw [HP.out], by rw [HZ.out]; exact HB4.out⟩
end Lw
end Go.Proofs.Ytegjkbebnnpdcaa
