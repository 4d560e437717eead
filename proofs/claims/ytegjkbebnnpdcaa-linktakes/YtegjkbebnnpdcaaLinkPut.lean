/- The closure that puts a packet's bytes, one number at a time. -/
import Derived.Test.YtegjkbebnnpdcaaLinkMath
import Derived.Test.YtegjkbebnnpdcaaCrcAppend
import Derived.Deep.RegionLaw
import Derived.Deep.RegionHeld3
import Derived.Deep.AppendLies
import Derived.Deep.WholeRow
namespace Go.Proofs.Ytegjkbebnnpdcaa
namespace Lw
open Go.RowKit

/-- The bytes that are put so far, in block g, with room for thirty-two; their slice is kept in block B. -/
structure Put (W : World) (g B : Nat) (l : List Nat) : Prop where
  lt : g < B
  row : ∃ cur : Array Value, W.heap[g]? = some (.cells cur 5 (0, 0)) ∧ cur.size = 32 ∧ ∀ i, i < l.length → cur[i]? = some (.int .u8 (l.getD i 0 : Nat))
  box : W.heap[B]? = some (.cells #[.slice (some ⟨g, 0, none⟩) l.length 32] 27 (0, 0))
  le : l.length ≤ 32
namespace Put
variable {W : World} {g B : Nat} {l : List Nat}
theorem drew (h : Put W g B l) : Put W.drew g B l := ⟨h.lt, h.row, h.box, h.le⟩
theorem cell (h : Put W g B l) : W.cell? ⟨B, 0, none⟩ = some (.slice (some ⟨g, 0, none⟩) l.length 32) := by rw [Joins.cell_of_block h.box]; rfl
theorem frozen (h : Put W g B l) : W.frozen? ⟨B, 0, none⟩ = false := Joins.unfrozen_of_block h.box 0
theorem room (h : Put W g B l) (hl : l.length < 32) : (W.cell? ⟨g, l.length, none⟩).isSome = true ∧ W.frozen? ⟨g, l.length, none⟩ = false := by
  obtain ⟨cur, h1, h2, _⟩ := h.row
  refine ⟨?_, Joins.unfrozen_of_block h1 _⟩
  rw [Joins.cell_of_block h1, Array.getElem?_eq_getElem (by omega)]
  rfl
theorem B_lt (h : Put W g B l) : B < W.heap.size := (Array.getElem?_eq_some_iff.1 h.box).1
theorem alloc (h : Put W g B l) (o : Obj) : Put (W.alloc o) g B l := by
  have hB := h.B_lt
  have hg := h.lt
  obtain ⟨cur, h1, h2, h3⟩ := h.row
  exact ⟨h.lt, ⟨cur, (Below.heap_alloc W o g (by omega)).trans h1, h2, h3⟩, (Below.heap_alloc W o B hB).trans h.box, h.le⟩
/-- All blocks up to B as they were. -/
theorem keep {W' : World} (h : Put W g B l) (k : ∀ i, i ≤ B → W'.heap[i]? = W.heap[i]?) : Put W' g B l := by
  obtain ⟨cur, h1, h2, h3⟩ := h.row
  exact ⟨h.lt, ⟨cur, (k g (Nat.le_of_lt h.lt)).trans h1, h2, h3⟩, (k B (Nat.le_refl _)).trans h.box, h.le⟩
theorem push {N : Nat} (h : Put W g B l) (hl : l.length < 32) (x : Nat) (hN : N = l.length + 1) : Put ((W.setCells g l.length [.int .u8 (x : Int)]).setCell ⟨B, 0, none⟩ (.slice (some ⟨g, 0, none⟩) N 32)) g B (l ++ [x]) := by
  subst hN
  obtain ⟨cur, h1, h2, h3⟩ := h.row
  have hne : g ≠ B := Nat.ne_of_lt h.lt
  have e1 : (W.setCells g l.length [.int .u8 (x : Int)]) = W.setCell ⟨g, l.length, none⟩ (.int .u8 (x : Int)) := rfl
  rw [e1]
  refine ⟨h.lt, ⟨cur.setIfInBounds l.length (.int .u8 (x : Int)), ?_, by simpa using h2, fun i hi => ?_⟩, ?_, by simp; omega⟩
  · rw [Below.heap_setCell _ _ _ _ hne]
    exact Joins.block_setCell h1 _
  · rw [List.length_append, List.length_singleton] at hi
    by_cases e : l.length = i
    · subst e; simp [h2, hl]
    · rw [Array.getElem?_setIfInBounds_ne e, h3 i (by omega)]
      have : i < l.length := by omega
      simp [List.getElem?_append_left this]
  · have hb : (W.setCell ⟨g, l.length, none⟩ (.int .u8 (x : Int))).heap[B]? = some (.cells #[.slice (some ⟨g, 0, none⟩) l.length 32] 27 (0, 0)) := by rw [Below.heap_setCell _ _ _ _ (Ne.symm hne)]; exact h.box
    rw [Joins.block_setCell hb]
    simp
theorem push_below {m : Nat} {w : World} (h : Put W g B l) (hb : Below m w W) (hm : m ≤ g) (vs : List Value) (o : Nat) (v : Value) (hv : vs.length = 1) : Below m w ((W.setCells g o vs).setCell ⟨B, 0, none⟩ v) := by
  have := h.lt
  match vs, hv with
  | [x], _ => exact (hb.setCell (p := ⟨g, o, none⟩) hm x).setCell (p := ⟨B, 0, none⟩) (by show m ≤ B; omega) v
end Put

theorem info_u8 : (Try.prog.info? 5).map (·.size) = some 1 := by kernel_rfl
theorem byte0 (n : Int) : IntKind.u8.wrap n = (Ln.bt n 0 : Int) := by rw [Cb.wrap_u8, Ln.bt0]
theorem byte1 (n : Int) : IntKind.u8.wrap (n / 256) = (Ln.bt n 1 : Int) := by rw [Cb.wrap_u8, Ln.bt1]
theorem byte2 (n : Int) : IntKind.u8.wrap (n / 65536) = (Ln.bt n 2 : Int) := by rw [Cb.wrap_u8, Ln.bt2]
theorem byte3 (n : Int) : IntKind.u8.wrap (n / 16777216) = (Ln.bt n 3 : Int) := by rw [Cb.wrap_u8, Ln.bt3]
theorem one_cell {x : Nat} : ∀ u ∈ [Value.int .u8 (x : Int)], u.oneCell' = true := fun u hu => by
  rw [List.mem_singleton.1 hu]
  rfl
/-- The world behind the making of the one byte that is put. -/
abbrev laid (W : World) (x : Nat) : World := (W.alloc (.cells #[.int .u8 (x : Int)] 5)).drew
theorem new_news (W : World) (x : Nat) : ∀ j u, [Value.int .u8 (x : Int)][j]? = some u → (laid W x).cell? ((⟨W.heap.size, 0, none⟩ : Addr).add j) = some u :=
  World.news_of_block (w := laid W x) (cs := #[.int .u8 (x : Int)]) (t := 5) (fr := (0, 0)) (heap_alloc_last W _)
theorem spare {W : World} {g B : Nat} {l : List Nat} (x : Nat) (h : Put W g B l) (hl : l.length < 32) : ∀ j, j < [Value.int .u8 (x : Int)].length → ((laid W x).cell? ⟨g, 0 + l.length * 1 + j, none⟩).isSome = true ∧ (laid W x).frozen? ⟨g, 0 + l.length * 1 + j, none⟩ = false := fun j hj => by
  have : j = 0 := by simpa using hj
  subst this
  rw [show 0 + l.length * 1 + 0 = l.length from by omega]
  exact (h.alloc _).drew.room hl
theorem stored {W : World} {g B : Nat} {l : List Nat} {x : Nat} (h : Put W g B l) (hl : l.length < 32) :
    ((laid W x).setCells g (0 + l.length * 1) [.int .u8 (x : Int)]).cell? ⟨B, 0, none⟩ = some (.slice (some ⟨g, 0, none⟩) l.length 32) ∧ ((laid W x).setCells g (0 + l.length * 1) [.int .u8 (x : Int)]).frozen? ⟨B, 0, none⟩ = false ∧
    Put (((laid W x).setCells g (0 + l.length * 1) [.int .u8 (x : Int)]).setCell ⟨B, 0, none⟩ (.slice (some ⟨g, 0, none⟩) (l.length + 1) 32)) g B (l ++ [x]) := by
  have h1 : Put (laid W x) g B l := (h.alloc _).drew
  rw [show 0 + l.length * 1 = l.length from by omega]
  refine ⟨?_, ?_, h1.push hl x rfl⟩
  · rw [World.cell?_setCells_out _ _ _ _ _ (fun e _ => by have := h.lt; have : B = g := e; omega)]
    exact h1.cell
  · rw [World.frozen?_setCells]
    exact h1.frozen
theorem stored_below {W w : World} {g B : Nat} {l : List Nat} {x : Nat} (h : Put W g B l) (hb : Below g w W) : Below g w (((laid W x).setCells g (0 + l.length * 1) [.int .u8 (x : Int)]).setCell ⟨B, 0, none⟩ (.slice (some ⟨g, 0, none⟩) (l.length + 1) 32)) :=
  ((h.alloc _).drew).push_below ((hb.alloc (by have := h.B_lt; have := h.lt; omega) _).drew) (Nat.le_refl _) _ _ _ rfl

set_option maxRecDepth 100000 in
set_option maxHeartbeats 1600000 in
theorem put_c (n : Int) (k g B : Nat) (l : List Nat) (W : World) (hk : k ≤ 4) (h : Put W g B l) (hl : l.length + k ≤ 32) :
    Calls Try.prog 25 #[.int .i64 n, .int .i64 k, .pointer (some ⟨B, 0, none⟩)] W fun e W' => e = .returned (.tuple #[]) ∧ Put W' g B (l ++ Ln.be k n) ∧ Below g W W' := by
  obtain ⟨i, hi, hsz⟩ := Option.map_eq_some_iff.1 info_u8
  have H := Lib.hid h
  have HI := Lib.hid hi
  have HS := Lib.hid hsz
  have hk1 : wrap64 ((k : Int) - 1) = (k : Int) - 1 := by unfold wrap64; omega
  clear h hi hsz
  go_enter Try.func25, Try.ntmps25
  go_wp2_with fail
  clear hk1
  go_loopw [5] (fun c wr => ∃ (j : Nat) (L : List Nat), j ≤ k ∧ c = .int .i64 ((j : Int) - 1) ∧ L ++ Ln.be j n = l ++ Ln.be k n ∧ L.length + j ≤ 32 ∧ Put wr g B L ∧ Below g W wr) (fun c _ => (intOf c + 1).toNat)
  case atStart => exact ⟨k, l, Nat.le_refl _, rfl, rfl, hl, H.out, Below.refl _ _⟩
  case round =>
    obtain ⟨j, L, hj, rfl, hL, hLj, hp, hb⟩ := hrel
    have HP := Lib.hid hp
    have HB := Lib.hid hb
    have HL := Lib.hid hL
    clear H hp hb hL
    cases j with
    | zero =>
      go_wp2_with fail
      go_end0
      exact ⟨rfl, by have := HL.out; simp only [Ln.be, List.append_nil] at this; rw [← this]; exact HP.out, HB.out⟩
    | succ t =>
      have hx0 := byte0 n
      have hx1 := byte1 n
      have hx2 := byte2 n
      have hx3 := byte3 n
      have hLl : L.length < 32 := by omega
      have c1 := HP.out.cell
      have c3 : (wr.alloc (.cells #[.int .u8 (Ln.bt n t : Int)] 5)).cell? ⟨B, 0, none⟩ = _ := (HP.out.alloc _).cell
      have ht : t = 0 ∨ t = 1 ∨ t = 2 ∨ t = 3 := by omega
      have w0 : IntKind.i64.wrap 0 = 0 := rfl
      have w1 : IntKind.i64.wrap 8 = 8 := rfl
      have w2 : IntKind.i64.wrap 16 = 16 := rfl
      have w3 : IntKind.i64.wrap 24 = 24 := rfl
      have HE : Hid (Ln.be (t + 1) n = Ln.bt n t :: Ln.be t n) := rfl
      have HN := Lib.hid (new_news wr (Ln.bt n t))
      have HR := Lib.hid (spare (Ln.bt n t) HP.out hLl)
      have HD := Lib.hid (stored (x := Ln.bt n t) HP.out hLl)
      have HF := Lib.hid (stored_below (x := Ln.bt n t) HP.out HB.out)
      have hmt : L.length + 1 + t ≤ 32 := by omega
      clear HP HB
      rcases ht with rfl | rfl | rfl | rfl
      all_goals
        go_wp2_with fail
        go_region_law (first | (refine step_append_room rfl (.tmp 12) (.tmp 18) 27 rfl 5 i 1 Try.underlying27 HI.out HS.out g 0 L.length 32 (by simp [Act.eval]) ⟨wr.heap.size, 0, none⟩ 1 1 [.int .u8 (Ln.bt n _ : Int)] (by simp [Act.eval]) rfl HN.out one_cell (by omega) HR.out ?_; have d1 := HD.out.1; have d2 := HD.out.2.1; replace HD := Lib.hid HD.out.2.2; clear HN HR; generalize World.setCells _ _ _ _ = V2 at *))
        all_goals
          go_wp2_with fail
          go_roundw
          case rel => first | exact ⟨0, L ++ [Ln.bt n 0], by omega, by go_num, by rw [← HL.out, HE.out, List.append_assoc, List.singleton_append], by rw [List.length_append, List.length_singleton]; omega, HD.out, HF.out⟩ | exact ⟨1, L ++ [Ln.bt n 1], by omega, by go_num, by rw [← HL.out, HE.out, List.append_assoc, List.singleton_append], by rw [List.length_append, List.length_singleton]; omega, HD.out, HF.out⟩ | exact ⟨2, L ++ [Ln.bt n 2], by omega, by go_num, by rw [← HL.out, HE.out, List.append_assoc, List.singleton_append], by rw [List.length_append, List.length_singleton]; omega, HD.out, HF.out⟩ | exact ⟨3, L ++ [Ln.bt n 3], by omega, by go_num, by rw [← HL.out, HE.out, List.append_assoc, List.singleton_append], by rw [List.length_append, List.length_singleton]; omega, HD.out, HF.out⟩
          case measure => simp [intOf]
end Lw
end Go.Proofs.Ytegjkbebnnpdcaa
