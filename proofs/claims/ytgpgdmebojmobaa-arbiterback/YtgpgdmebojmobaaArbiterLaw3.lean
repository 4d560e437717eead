/- The walk of ArbiterBack. -/
import Derived.Test.YtgpgdmebojmobaaArbiterAwake
import Derived.BigQuiet
import Derived.Deep.DeepCutAuto
import Derived.OwnWalk
import Derived.Laws.MakeOwn
namespace Go.Proofs.Ytgpgdmebojmobaa
namespace Aw
open Go.RowKit Lk Zk

theorem info_p2 : (Try.prog.info? 30).map (fun i => (i.zero, i.size, i.bytes)) = some (some (.agg #[.bool false, .bool false]), 2, 2) := by kernel_rfl
theorem info_b1 : (Try.prog.info? 4).map (fun i => (i.zero, i.size, i.bytes)) = some (some (.bool false), 1, 1) := by kernel_rfl

section
variable {ops : Array Oper} {rest : List Oper} {op : Oper} {u : Act} {w : World} {Q : Exit → Act → World → Prop}
/-- Frames that are made; bools that are made. -/
theorem make_p (hgd : op.guard = none) (x y : Operand) (ho : op.op = .makeSlice 26 x y) (m : Nat) (C : Int) (hC : C = (m : Int)) (hm : m ≤ 1000) (hx : u.eval x = .int .i64 C) (hy : u.eval y = .int .i64 C)
    (c : ∀ W, W.rowIs w.heap.size 30 (2 * m) (fun _ => .bool false) → Below w.heap.size w W → wpList Try.prog ops Q rest (u.put op.dst (.slice (some ⟨w.heap.size, 0, none⟩) m m)) W) : wpList Try.prog ops Q (op :: rest) u w := by
  subst hC
  obtain ⟨i, hi, hz0, hz1, hz2⟩ := info_parts info_p2
  refine wpList_plain hgd fun K hK => ?_
  have hrun := run_make (P := Try.prog) w 26 30 i _ Try.underlying26 hi hz0 .i64 .i64 m m (by omega) (Int.le_refl _) (by rw [hz2]; omega) (by omega)
  simp only [Int.toNat_natCast, hz1] at hrun
  unfold Oper.wp
  simp only [execOp, ho, hx, hy, hrun, Sem.run_bind, Result.andThen, Sem.run_pure]
  refine hK _ _ (c _ ?_ ((Below.refl _ _).alloc (Nat.le_refl _) _))
  have := World.rowIs_alloc w (madeCells (Value.cells (.agg #[.bool false, .bool false])) (m * 2)) 30 (fun _ => .bool false) (fun i hi => by
    rw [size_madeCells] at hi
    have h2 : i % 2 = 0 ∨ i % 2 = 1 := by omega
    rcases h2 with h2 | h2 <;> simp [madeCells, hi, Value.cells, h2])
  rw [size_madeCells, Nat.mul_comm] at this
  rw [Nat.mul_comm m 2]
  exact this
theorem make_b (hgd : op.guard = none) (x y : Operand) (ho : op.op = .makeSlice 27 x y) (m : Nat) (hm : m ≤ 1000) (hx : u.eval x = .int .i64 m) (hy : u.eval y = .int .i64 m)
    (c : ∀ W, W.rowIs w.heap.size 4 m (fun _ => .bool false) → Below w.heap.size w W → wpList Try.prog ops Q rest (u.put op.dst (.slice (some ⟨w.heap.size, 0, none⟩) m m)) W) : wpList Try.prog ops Q (op :: rest) u w := by
  obtain ⟨i, hi, hz0, hz1, hz2⟩ := info_parts info_b1
  exact wpList_make_row w hgd x y 27 ho 4 i _ Try.underlying27 hi hz0 hz1 rfl .i64 .i64 m hx hy (by rw [hz2]; omega) (by omega) (c _ (World.rowIs_made w _ m _) ((Below.refl _ _).alloc (Nat.le_refl _) _))
/-- A frame stored into the midst of a row. -/
theorem stp (hgd : op.guard = none) (x y : Operand) (ho : op.op = .store 30 x y) (hd : op.dst = none) (g o m : Nat) (p : Bool × Bool) (f : Nat → Value) (hx : u.eval x = .pointer (some ⟨g, o, none⟩)) (hy : u.eval y = .agg (wc p)) (hP : w.rowIs g 30 m f) (hm : o + 2 ≤ m)
    (c : ∀ W, W.rowIs g 30 m (fun j => if j = o + 1 then .bool p.2 else if j = o then .bool p.1 else f j) → Off g w W → wpList Try.prog ops Q rest u W) : wpList Try.prog ops Q (op :: rest) u w := by
  have h2 := c ((w.setCell ⟨g, o, none⟩ (.bool p.1)).setCell ⟨g, o + 1, none⟩ (.bool p.2)) ((hP.set o (.bool p.1)).set (o + 1) (.bool p.2)) (((Off.refl g w).set o _).set (o + 1) _)
  refine wpList_store_mid hgd 30 x y ho g o (wc p) hx hy (fun j hj => ⟨?_, hP.frozen _⟩) info_p (by simp [Value.oneCell']) ?_
  · have hj2 : j < 2 := hj
    rw [hP.cell (by omega)]
    rfl
  · rw [hd]
    exact h2
end

/-- The cells of frames of which the first k are laid; of reversions. -/
def fw (a b : Bool) (k j : Nat) : Value := .bool (decide (j < 2 * k) && (if j % 2 = 0 then a else b))
def fr (k j : Nat) : Value := .bool (decide (j < k))
theorem fw_step {a b : Bool} {k j : Nat} : (if j = 2 * k + 1 then Value.bool b else if j = 2 * k then .bool a else fw a b k j) = fw a b (k + 1) j := by
  unfold fw
  by_cases h1 : j = 2 * k + 1
  · subst h1
    rw [if_pos rfl, show decide (2 * k + 1 < 2 * (k + 1)) = true from decide_eq_true (by omega), if_neg (by omega)]
    rfl
  rw [if_neg h1]
  by_cases h2 : j = 2 * k
  · subst h2
    rw [if_pos rfl, show decide (2 * k < 2 * (k + 1)) = true from decide_eq_true (by omega), if_pos (by omega)]
    rfl
  rw [if_neg h2, show decide (j < 2 * (k + 1)) = decide (j < 2 * k) from decide_eq_decide.2 (by omega)]
theorem fr_step {k j : Nat} : (if j = k then Value.bool true else fr k j) = fr (k + 1) j := by
  unfold fr
  by_cases h1 : j = k
  · subst h1
    rw [if_pos rfl, show decide (j < j + 1) = true from decide_eq_true (by omega)]
  rw [if_neg h1, show decide (j < k + 1) = decide (j < k) from decide_eq_decide.2 (by omega)]
/-- What the loop lays: the frames, the reversions. -/
structure Lay (w W : World) (g1 g2 n : Nat) (a b : Bool) (k m : Nat) : Prop where
  old : Below w.heap.size w W
  l1 : w.heap.size ≤ g1
  l2 : w.heap.size ≤ g2
  ne : g1 ≠ g2
  ws : W.rowIs g1 30 (2 * (n + 1)) (fw a b k)
  rs : W.rowIs g2 4 n (fr m)
theorem Lay.put {w W W' : World} {g1 g2 n : Nat} {a b : Bool} {k m : Nat} (h : Lay w W g1 g2 n a b k m) (hr : W'.rowIs g1 30 (2 * (n + 1)) (fun j => if j = k * 2 + 1 then .bool b else if j = k * 2 then .bool a else fw a b k j)) (ho : Off g1 W W') : Lay w W' g1 g2 n a b (k + 1) m :=
  ⟨h.old.trans (ho.below h.l1), h.l1, h.l2, h.ne, hr.congr fun _ _ => by rw [Nat.mul_comm k 2]; exact fw_step, h.rs.of_block (ho.block g2 (fun e => h.ne e.symm))⟩
theorem Lay.say {w W : World} {g1 g2 n : Nat} {a b : Bool} {k m : Nat} (h : Lay w W g1 g2 n a b k m) : Lay w (W.setCell ⟨g2, m, none⟩ (.bool true)) g1 g2 n a b k (m + 1) :=
  ⟨h.old.setCell (p := ⟨g2, m, none⟩) h.l2 _, h.l1, h.l2, h.ne, h.ws.setOther (a := ⟨g2, m, none⟩) h.ne _, (h.rs.set m (.bool true)).congr fun _ _ => fr_step⟩
theorem Lay.prs {w W : World} {g1 g2 n : Nat} {a b : Bool} {m : Nat} (h : Lay w W g1 g2 n a b (n + 1) m) : Prs W (some ⟨g1, 0, none⟩) (List.replicate (n + 1) (a, b)) := by
  intro i p hi
  have hin : i < n + 1 := by simpa using (List.getElem?_eq_some_iff.1 hi).1
  obtain rfl : (a, b) = p := by simpa [List.getElem?_replicate, hin] using hi
  refine ⟨g1, 0, rfl, h.ws.lt, fun j v hv => ?_⟩
  have hj : j < 2 := (List.getElem?_eq_some_iff.1 hv).1
  rw [h.ws.cell (by omega)]
  obtain rfl | rfl : j = 0 ∨ j = 1 := by omega
  · obtain rfl : Value.bool a = v := by simpa using hv
    unfold fw
    rw [show decide (0 + i * 2 + 0 < 2 * (n + 1)) = true from decide_eq_true (by omega), if_pos (by omega)]
    rfl
  · obtain rfl : Value.bool b = v := by simpa using hv
    unfold fw
    rw [show decide (0 + i * 2 + 1 < 2 * (n + 1)) = true from decide_eq_true (by omega), if_neg (by omega)]
    rfl
theorem Lay.bls {w W : World} {g1 g2 n : Nat} {a b : Bool} {k : Nat} (h : Lay w W g1 g2 n a b k n) : Bls W (some ⟨g2, 0, none⟩) (List.replicate n true) := by
  intro i v hi
  have hin : i < n := by simpa using (List.getElem?_eq_some_iff.1 hi).1
  obtain rfl : true = v := by simpa [List.getElem?_replicate, hin] using hi
  refine ⟨g2, 0, rfl, h.rs.lt, ?_⟩
  rw [Nat.zero_add, h.rs.cell hin]
  unfold fr
  rw [show decide (i < n) = true from decide_eq_true hin]
/-- Who holds it behind a reversion, and behind the frame that follows it. -/
theorem hold_in {h : Int} {a b : Bool} {n : Nat} : ∀ {m : Nat}, 1 ≤ m → m ≤ n → Av.hold h (List.replicate (n + 1) (a, b)) (List.replicate n true) m = 2
  | 0, h1, _ => by omega
  | m + 1, _, h2 => by
    rw [Av.hold, List.getD_eq_getElem?_getD (l := List.replicate n true), List.getElem?_replicate, if_pos (by omega)]
    rfl
def want (a b : Bool) : Int := if a then 0 else if b then 1 else 2
theorem hold_end {h : Int} {a b : Bool} {n : Nat} (h1 : 1 ≤ n) : Av.hold h (List.replicate (n + 1) (a, b)) (List.replicate n true) (n + 1) = want a b := by
  rw [Av.hold, hold_in h1 (Nat.le_refl _), List.getD_eq_getElem?_getD (l := List.replicate n true), List.getElem?_replicate, if_neg (by omega), List.getD_eq_getElem?_getD, List.getElem?_replicate, if_pos (by omega)]
  cases a <;> cases b <;> rfl
theorem nx_want {h : Int} {a b : Bool} (hab : a ≠ b) : Av.nx h a b false = want a b := by
  cases a <;> cases b
  · exact absurd rfl hab
  · by_cases e : h = 1 <;> simp [Av.nx, want, e]
  · by_cases e : h = 0 <;> simp [Av.nx, want, e]
  · exact absurd rfl hab
theorem wy_back {w W W2 : World} (hW : Below w.heap.size w W) {v : Value} {h : Int} {L : List (Bool × Bool)} {R : List Bool} {n : Nat} (hz : Zs W2 W.heap.size v (Av.way h L R n)) (hb : Below W.heap.size W W2) (hn : 0 < n) :
    ∃ g c, v = .slice (some ⟨g, 0, none⟩) n c ∧ Below w.heap.size w W2 ∧ g < W2.heap.size ∧ ∀ m, m < n → W2.cell? ⟨g, m, none⟩ = some (.int .i64 (Av.hold h L R (m + 1))) := by
  obtain ⟨G, c, e, _, hel⟩ := Rw.form (f := fz) (sz := 1) fz_len hz
  rw [Av.way_len] at e
  obtain ⟨g, rfl, _, hg, _⟩ := hel 0 _ (Av.way_at h L R hn)
  refine ⟨g, c, e, hW.trans (hb.mono hW.size), hg, fun m hm => ?_⟩
  obtain ⟨g', e2, _, _, h3⟩ := hel m _ (Av.way_at h L R hm)
  cases e2
  have := h3 0 _ rfl
  simpa using this

set_option maxRecDepth 100000 in
set_option maxHeartbeats 8000000 in
theorem back_go (h : Int) (s n : Nat) (hs : s < 256) (hn : s % 100 + 1 = n) (a b : Bool) (w : World) : Calls Try.prog 6 #[.int .i64 h, .int .u8 s, .bool a, .bool b] w fun e w' => e = .returned (.bool true) ∧ Below w.heap.size w w' := by
  have AW := Lib.hid (fun W => awake_c W)
  have HB := Lib.hid (Below.refl w.heap.size w)
  have hn1 : 1 ≤ n := by omega
  have hn2 : n ≤ 100 := by omega
  have e1 : (s : Int) % 100 + 1 = n := by omega
  have e0 : s % 100 < 100 := by omega
  go_enter Try.func6, Try.ntmps6
  go_wp2_with (first
    | (go_at_call 7; (with_reducible refine (AW.out _).mono ?_); rintro e W ⟨rfl, hb⟩; replace HB := Lib.hid (HB.out.trans (hb.mono HB.out.size)); clear hb)
    | (refine make_p rfl _ _ rfl (n + 1) ((n : Int) + 1) (by omega) (by omega) rfl rfl ?_; intro W1 hr1 hb1; have H1 := Lib.hid hr1; have HB1 := Lib.hid hb1; clear hr1 hb1)
    | (refine make_b rfl _ _ rfl n (by omega) rfl rfl ?_; intro W2 hr2 hb2; have H2 := Lib.hid hr2; have HB2 := Lib.hid hb2; clear hr2 hb2)
    | fail)
  have HL : Hid (Lay w W2 W.heap.size W1.heap.size n a b 0 0) := Lib.hid ⟨(HB.out.trans (HB1.out.mono HB.out.size)).trans (HB2.out.mono (Nat.le_trans HB.out.size HB1.out.size)), HB.out.size, Nat.le_trans HB.out.size HB1.out.size, Nat.ne_of_lt H1.out.lt,
    (H1.out.of_block (HB2.out.block _ H1.out.lt)).congr (fun j _ => by simp [fw]), H2.out.congr (fun j _ => by simp [fr])⟩
  generalize W.heap.size = g1 at *
  generalize W1.heap.size = g2 at *
  clear HB HB1 HB2 H1 H2 AW e0 e1
  go_loopw [13] (fun i wr => ∃ k : Nat, k ≤ n ∧ i = .int .i64 k ∧ Lay w wr g1 g2 n a b k k) (fun i _ => n - (intOf i).toNat)
  case atStart => exact ⟨0, Nat.zero_le _, rfl, HL.out⟩
  case round =>
    clear HL
    obtain ⟨k, hk, rfl, hl⟩ := hrel
    have HL := Lib.hid hl
    clear hl
    by_cases hlt : k < n
    · have hlt2 : (k : Int) < n := by omega
      have hlt3 : (k : Int) < n + 1 := by omega
      go_wp2_with (first
        | (refine stp rfl _ _ rfl rfl g1 (k * 2) _ (a, b) _ rfl rfl HL.out.ws (by omega) ?_; intro W3 hr ho; replace HL := Lib.hid (HL.out.put hr ho); clear hr ho; have c2 := HL.out.rs.cell hlt; have c3 := HL.out.rs.frozen k)
        | fail)
      go_roundw
      case rel => exact ⟨k + 1, by omega, by go_num, HL.out.say⟩
      case measure => simp only [intOf, Int.toNat_natCast]; omega
    · obtain rfl : k = n := by omega
      have k3 : (k : Int) < k + 1 := by omega
      have CW : Hid (∀ W, Lay w W g1 g2 k a b (k + 1) k → Calls Try.prog 11 #[.int .i64 h, .slice (some ⟨g1, 0, none⟩) (k + 1) (k + 1), .slice (some ⟨g2, 0, none⟩) k k] W fun e w' => ∃ v, e = .returned v ∧ Zs w' W.heap.size v (Av.way h (List.replicate (k + 1) (a, b)) (List.replicate k true) (k + 1)) ∧ Below W.heap.size W w') := Lib.hid (fun W hW => way_c h _ _ _ _ _ _ _ _ (by simp) (by simp) (by omega) W hW.prs hW.bls)
      go_wp2_with (first
        | (refine stp rfl _ _ rfl rfl g1 (k * 2) _ (a, b) _ rfl rfl HL.out.ws (by omega) ?_; intro W3 hr ho; replace HL := Lib.hid (HL.out.put hr ho); clear hr ho)
        | fail)
      refine (CW.out _ HL.out).mono ?_
      rintro e W4 ⟨v, rfl, hz, hb⟩
      obtain ⟨g, c, rfl, hB, hg, hc⟩ := wy_back HL.out.old hz hb (Nat.succ_pos k)
      have cA := hc (k - 1) (by omega)
      have cB := hc k (by omega)
      rw [hold_in (by omega) (by omega)] at cA
      rw [hold_end hn1] at cB
      have f1 : (k : Int) - 1 < (k : Int) + 1 := by omega
      have f2 : 0 ≤ (k : Int) - 1 := by omega
      have f3 : ((k : Int) - 1).toNat = k - 1 := by omega
      have HB := Lib.hid hB
      clear hz hb hc hB HL CW hg
      cases a <;> cases b
      · replace cB : W4.cell? ⟨g, k, none⟩ = some (.int .i64 2) := cB
        go_wp2_with (first | go_big_skip | fail)
        go_ret
        exact ⟨rfl, HB.out⟩
      · replace cB : W4.cell? ⟨g, k, none⟩ = some (.int .i64 1) := cB
        have CN : Hid (∀ W, Calls Try.prog 9 #[.int .i64 h, .bool false, .bool true, .bool false] W fun e w' => e = .returned (.int .i64 1) ∧ Below W.heap.size W w') := Lib.hid (fun W => next_v (nx_want (by decide)) W)
        go_wp2_with (first
          | go_big_skip
          | (go_at_call 9; (with_reducible refine (CN.out _).mono ?_); rintro e W ⟨rfl, hb⟩; replace HB := Lib.hid (HB.out.trans (hb.mono HB.out.size)); clear hb)
          | fail)
        go_ret
        exact ⟨rfl, HB.out⟩
      · replace cB : W4.cell? ⟨g, k, none⟩ = some (.int .i64 0) := cB
        have CN : Hid (∀ W, Calls Try.prog 9 #[.int .i64 h, .bool true, .bool false, .bool false] W fun e w' => e = .returned (.int .i64 0) ∧ Below W.heap.size W w') := Lib.hid (fun W => next_v (nx_want (by decide)) W)
        go_wp2_with (first
          | go_big_skip
          | (go_at_call 9; (with_reducible refine (CN.out _).mono ?_); rintro e W ⟨rfl, hb⟩; replace HB := Lib.hid (HB.out.trans (hb.mono HB.out.size)); clear hb)
          | fail)
        go_ret
        exact ⟨rfl, HB.out⟩
      · replace cB : W4.cell? ⟨g, k, none⟩ = some (.int .i64 0) := cB
        go_wp2_with (first | go_big_skip | fail)
        go_ret
        exact ⟨rfl, HB.out⟩

theorem ArbiterBack_walk (h : Int) (s : Nat) (hs : s < 256) (a b : Bool) (w : World) : Calls Try.prog 6 #[.int .i64 h, .int .u8 s, .bool a, .bool b] w fun e w' => e = .returned (.bool true) ∧ Below w.heap.size w w' := back_go h s _ hs rfl a b w
end Aw
end Go.Proofs.Ytgpgdmebojmobaa
