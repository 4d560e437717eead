/- The program's store: a place that is read. -/
import Derived.Test.YtlhapipgmadbeaaStoreP1
import Derived.Laws.StructEq
namespace Go.Proofs.Ytlhapipgmadbeaa
namespace Sq
open Go.RowKit Nv Nw Sp Lk

/-- A place's cells, as the program has them: where it stands, its number, its record. -/
abbrev pcs (i : Int) (p : Pl) : Array Value := #[.int .i64 i, .int .u32 p.num, .int .i64 p.code, .int .i64 p.cnt, .bool p.lat]
abbrev pob (i : Int) (p : Pl) : Obj := .cells (pcs i p) 94
theorem info_pp : (Try.prog.info? 94).map (·.size) = some 5 := by kernel_rfl
/-- Whether a place is told to be good, and what is told of it. -/
def gd (m : M) (k : Nat) : Bool := !m.gone && (pl m.ws k).good
def rv (m : M) (k : Nat) : Value := if gd m k = true then .agg (pcs k (pl m.ws k)) else .agg (pcs 0 zero)

theorem res_pp {fn : Func} {p u : Tmp} (h : fn.results = #[.cell p 94, .tmp u]) (tmps : Array Value) (w : World) (g : Nat) (i : Int) (q : Pl) (hp : tmps.getD p undef = .pointer (some ⟨g, 0, none⟩)) (hP : w.heap[g]? = some (pob i q)) :
    (results fn tmps).run Try.prog w = .ok (.tuple #[.agg (pcs i q), tmps.getD u undef]) w := by
  rw [results_cell_tmp h, hp]
  simp [asAddr, run_loadVar_row (P := Try.prog) w g 94 94 (pcs i q) (0, 0) _ hP Try.underlying94 rfl info_pp]

/-- What the walk of read carries: the store, the four words that are read, the answer's block. -/
structure Rd (w W : World) (g b d p q : Nat) (m : M) (r : List Int) : Prop where
  sto : Sto W g b d m
  row : W.rowIs q 110 4 (wf r)
  len : r.length = 4
  out : W.heap[p]? = some (pob 0 zero)
  old : Below w.heap.size w W
  lp : w.heap.size ≤ p
  lq : w.heap.size ≤ q
  npq : p ≠ q
  plt : p < W.heap.size
  lb : b < w.heap.size
  ld : d < w.heap.size
  lg : g < w.heap.size
namespace Rd
variable {w W W' : World} {g b d p q : Nat} {m : M} {r : List Int}
theorem start (h : Sto w g b d m) : Rd w ((w.alloc (.cells #[.int .i64 0, .int .u32 0, .int .i64 0, .int .i64 0, .bool false] 94)).alloc (.cells #[.int .u32 0, .int .u32 0, .int .u32 0, .int .u32 0] 110)) g b d w.heap.size (w.heap.size + 1) m (zeros 4) := by
  have hb : Below w.heap.size w ((w.alloc (pob 0 zero)).alloc (.cells #[.int .u32 0, .int .u32 0, .int .u32 0, .int .u32 0] 110)) := below_two w _ _
  refine ⟨h.grow hb, ?_, by decide, (heap_two w _ _).trans (heap_alloc_last w _), hb, Nat.le_refl _, by omega, by omega, by simp; omega, h.mem.lt, h.mem.lt', h.lt⟩
  have := World.rowIs_alloc (w.alloc (pob 0 zero)) #[.int .u32 0, .int .u32 0, .int .u32 0, .int .u32 0] 110 (wf (zeros 4)) fun i hi => by
    have h4 : i = 0 ∨ i = 1 ∨ i = 2 ∨ i = 3 := by simp at hi; omega
    rcases h4 with rfl | rfl | rfl | rfl <;> rfl
  rw [World.size_alloc] at this
  exact this
theorem put (h : Rd w W g b d p q m r) {k : Nat} (hk : k < 4) (v : Int) : Rd w (W.setCell ⟨q, k, none⟩ (.int .u32 v)) g b d p q m (r.set k v) := by
  have hb : Below w.heap.size W (W.setCell ⟨q, k, none⟩ (.int .u32 v)) := (Below.refl _ _).setCell h.lq _
  have hblk : ∀ i, i < w.heap.size → (W.setCell ⟨q, k, none⟩ (.int .u32 v)).heap[i]? = W.heap[i]? := hb.block
  refine ⟨h.sto.same ⟨h.sto.mem.row.of_block (hblk b h.lb), h.sto.mem.ws.of_block (hblk d h.ld), h.sto.mem.ne⟩ (hblk g h.lg), ?_, by rw [List.length_set]; exact h.len, (Below.heap_setCell _ _ _ _ h.npq).trans h.out, h.old.trans hb, h.lp, h.lq, h.npq, Nat.lt_of_lt_of_le h.plt hb.size, h.lb, h.ld, h.lg⟩
  refine (h.row.set k _).congr fun i _ => ?_
  unfold wf
  rw [Nw.getD_set r k v (by rw [h.len]; exact hk) i]
  by_cases e : i = k
  · rw [if_pos e, if_pos e]
  · rw [if_neg e, if_neg e]
theorem grow (h : Rd w W g b d p q m r) (hb : Below W.heap.size W W') : Rd w W' g b d p q m r :=
  ⟨h.sto.grow hb, h.row.of_block (hb.block q h.row.lt), h.len, (hb.block p h.plt).trans h.out, h.old.trans (hb.mono h.old.size), h.lp, h.lq, h.npq, Nat.lt_of_lt_of_le h.plt hb.size, h.lb, h.ld, h.lg⟩
end Rd

theorem Turn.off_new {b d p : Nat} {w W W' : World} (h : Turn b d w W) (ho : Off p W W') (hp : w.heap.size ≤ p) : Turn b d w W' :=
  ⟨ho.os.trans h.os, ho.tape.trans h.tape, ho.output.trans h.output, by rw [ho.size]; exact h.size, fun i hi h1 h2 => (ho.block i (by omega)).trans (h.block i hi h1 h2)⟩
section
variable {ops : Array Oper} {rest : List Oper} {op : Oper} {a : Act} {w : World} {Q : Exit → Act → World → Prop}
theorem pcs_one (i : Int) (p : Pl) : (pcs i p).all (·.oneCell') = true := by simp [pcs, Value.oneCell']
/-- A place stored as a whole into a block of its own, and loaded. -/
theorem stp (hgd : op.guard = none) (x y : Operand) (ho : op.op = .store 94 x y) (hd : op.dst = none)
    (g : Nat) (i j : Int) (q p : Pl) (hx : a.eval x = .pointer (some ⟨g, 0, none⟩)) (hy : a.eval y = .agg (pcs j p)) (hP : w.heap[g]? = some (pob i q))
    (h : ∀ w', w'.heap[g]? = some (pob j p) → Off g w w' → wpList Try.prog ops Q rest a w') : wpList Try.prog ops Q (op :: rest) a w := by
  refine wpList_plain hgd fun _ hK => wp_store_row 94 x y ho g (pcs j p) hx hy 94 (pcs i q) hP info_pp rfl (pcs_one j p) (hK _ _ ?_)
  rw [hd]
  exact h _ (setRow_heap w g (pcs i q) (pcs j p) 94 (0, 0) hP) (Off.row w g _)
theorem ldp (hw : Region.wanted op (yielded ops a.tmps) = true) (x : Operand) (ho : op.op = .load 94 x)
    (g : Nat) (i : Int) (q : Pl) (hx : a.eval x = .pointer (some ⟨g, 0, none⟩)) (hP : w.heap[g]? = some (pob i q))
    (c : wpList Try.prog ops Q rest (a.put op.dst (.agg (pcs i q))) w) : wpList Try.prog ops Q (op :: rest) a w :=
  Lk.wanted hw fun _ hK => wp_load_row 94 x ho g hx 94 (pcs i q) (0, 0) _ hP Try.underlying94 rfl info_pp (hK _ _ c)
end
theorem info_rr : (Try.prog.info? 37).map (·.size) = some 3 := by kernel_rfl
/-- A record loaded as a whole, out of a block of its own. -/
theorem ldR {ops : Array Oper} {rest : List Oper} {op : Oper} {a : Act} {w : World} {Q : Exit → Act → World → Prop} (hw : Region.wanted op (yielded ops a.tmps) = true) (x : Operand) (ho : op.op = .load 37 x)
    (b : Nat) (r : R) (hx : a.eval x = .pointer (some ⟨b, 0, none⟩)) (hP : w.heap[b]? = some (.cells (rcs r) 37 (0, 0)))
    (c : wpList Try.prog ops Q rest (a.put op.dst (.agg (rcs r))) w) : wpList Try.prog ops Q (op :: rest) a w :=
  Lk.wanted hw fun _ hK => wp_load_row 37 x ho b hx 37 (rcs r) (0, 0) _ hP Try.underlying37 rfl info_rr (hK _ _ c)
/-- Behind a store into the answer's block. -/
theorem Rd.done {w W W' : World} {g b d p q : Nat} {m : M} {r : List Int} (h : Rd w W g b d p q m r) (ho : Off p W W') : Mem W' b d m ∧ Below w.heap.size w W' := by
  have hb : Below w.heap.size W W' := ho.below h.lp
  exact ⟨⟨h.sto.mem.row.of_block (hb.block b h.lb), h.sto.mem.ws.of_block (hb.block d h.ld), h.sto.mem.ne⟩, h.old.trans hb⟩

set_option maxHeartbeats 4000000 in
/-- Of a memory without power no place is good. -/
theorem read_gone {g b d : Nat} {m : M} {w : World} (h : Sto w g b d m) (hm : Good m) (hg : m.gone = true) (k : Nat) (hk : k < rooms m) :
    Calls Try.prog 48 #[.pointer (some ⟨g, 0, none⟩), .int .i64 k] w fun e w' => e = .returned (.tuple #[.agg (pcs 0 zero), .bool false]) ∧ Mem w' b d m ∧ Turn b d w w' := by
  have hP : k ≤ 128 := by have := hm.most; unfold rooms at hk; omega
  have HR := Lib.hid (Rd.start h)
  have c0 := HR.out.sto.c0
  clear h hk hm
  have HC := Lib.hid (fun W i h => read_c b d m i W h)
  have e1 : ∀ i, rval m i = 0 := fun i => by unfold rval; rw [if_pos hg]
  have e2 : ∀ i, rerr m i = 110 := fun i => by unfold rerr; rw [if_pos hg]
  simp only [e1, e2] at HC
  clear e1 e2 hg
  go_enter Try.func48, Try.ntmps48
  go_wp2_with fail
  generalize hW1 : (w.alloc (.cells #[.int .i64 0, .int .u32 0, .int .i64 0, .int .i64 0, .bool false] 94)).alloc (.cells #[.int .u32 0, .int .u32 0, .int .u32 0, .int .u32 0] 110) = W1 at *
  have HD := Lib.hid (Turn.grow (b := b) (d := d) HR.out.old)
  clear hW1
  go_loopw [11] (fun i wr => i = .int .i64 0 ∧ W1 = wr) (fun _ _ => 0)
  case atStart => exact ⟨rfl, rfl⟩
  case round =>
    obtain ⟨rfl, rfl⟩ := hrel
    go_wp2_with (first
      | (go_at_call 29; (with_reducible refine (HC.out _ _ HR.out.sto.mem).mono ?_); rintro e W2 ⟨rfl, h1, h2⟩; have HO : Hid (W2.heap[w.heap.size]? = some (pob 0 zero)) := (h2.block _ (by have := HR.out.lb; omega) (by have := HR.out.ld; omega)).trans HR.out.out; have HM : Hid (Mem W2 b d m ∧ Turn b d w W2 ∧ b < w.heap.size ∧ d < w.heap.size) := ⟨h1, HD.out.trans (Turn.off h2), HR.out.lb, HR.out.ld⟩; clear h1 h2 HR HC HD)
      | (refine stp rfl _ _ rfl rfl w.heap.size 0 0 zero zero rfl rfl HO.out ?_; intro W3 hp ho; have HE := Lib.hid (And.intro hp ho); clear hp ho HO)
      | fail)
    refine bodyPost_ret (res_pp rfl _ _ _ 0 zero rfl HE.out.1) rfl ?_
    obtain ⟨h1, h2, h3, h4⟩ := HM.out
    have hb := HE.out.2.below (Nat.le_refl _)
    exact ⟨rfl, ⟨h1.row.of_block (hb.block b h3), h1.ws.of_block (hb.block d h4), h1.ne⟩, h2.off_new HE.out.2 (Nat.le_refl _)⟩

/-- A place by its four words. -/
theorem gd_four {m : M} {k : Nat} {a b c d : Int} (hg : m.gone = false) (ha : m.ws.getD (4 * k) 0 = a) (hb : m.ws.getD (4 * k + 1) 0 = b) (hc : m.ws.getD (4 * k + 2) 0 = c) (hd : m.ws.getD (4 * k + 3) 0 = d) :
    gd m k = (four a b c d).good ∧ rv m k = if (four a b c d).good = true then .agg (pcs k (four a b c d)) else .agg (pcs 0 zero) := by
  have e : pl m.ws k = four a b c d := by unfold pl; rw [ha, hb, hc, hd]
  have e2 : gd m k = (four a b c d).good := by unfold gd; rw [hg, e]; rfl
  refine ⟨e2, ?_⟩
  unfold rv
  rw [e2, e]
theorem four_bad {a b c d : Int} (h : a ≠ d ∨ a < 1 ∨ 2147483648 < a ∨ 512 ≤ b ∨ okR ⟨b % 256, c, decide (256 ≤ b)⟩ = false) : (four a b c d).good = false := by
  cases e : (four a b c d).good with
  | false => rfl
  | true =>
    have h' := four_good e
    rcases h with h | h | h | h | h
    · omega
    · omega
    · omega
    · omega
    · have := of_decide_eq_false h
      simp only at this
      omega
theorem four_fine {a b c d : Int} (h1 : a = d) (h2 : 1 ≤ a) (h3 : a ≤ 2147483648) (h4 : b < 512) (h5 : okR ⟨b % 256, c, decide (256 ≤ b)⟩ = true) : (four a b c d).good = true := by
  have := of_decide_eq_true h5
  simp only at this
  simp [four]
  omega

set_option maxHeartbeats 4000000 in
theorem read_fine {g b d : Nat} {m : M} {w : World} (h : Sto w g b d m) (hm : Good m) (hg : m.gone = false) (k : Nat) (hk : k < rooms m) :
    Calls Try.prog 48 #[.pointer (some ⟨g, 0, none⟩), .int .i64 k] w fun e w' => e = .returned (.tuple #[rv m k, .bool (gd m k)]) ∧ Below w.heap.size w w' := by
  have hP : k ≤ 128 := by have := hm.most; unfold rooms at hk; omega
  have HR := Lib.hid (Rd.start h)
  have HG := Lib.hid (fun a b c d => @gd_four m k a b c d hg)
  have HC := Lib.hid (fun (j : Nat) (W : World) (i : Int) (hj : j < 4) (hi : i = 4 * (k : Int) + j) (h : Mem W b d m) => (by
    have := read_ok b d m (4 * k + j) W h hg (by unfold rooms at hk; omega)
    rw [show ((4 * k + j : Nat) : Int) = i by omega] at this
    exact this : Calls Try.prog 29 #[.pointer (some ⟨b, 0, none⟩), .int .i64 i] W fun e w' => e = .returned (.tuple #[.int .u32 (m.ws.getD (4 * k + j) 0), .int .i64 0]) ∧ W = w'))
  have hu0 := hm.u32 (4 * k)
  have hu1 := hm.u32 (4 * k + 1)
  have hu2 := hm.u32 (4 * k + 2)
  have hu3 := hm.u32 (4 * k + 3)
  have HU := Lib.hid (And.intro hu0 (And.intro hu1 (And.intro hu2 hu3)))
  clear h hk hm hg hu0 hu1 hu2 hu3
  go_enter Try.func48, Try.ntmps48
  go_wp2_with fail
  generalize hW1 : (w.alloc (.cells #[.int .i64 0, .int .u32 0, .int .i64 0, .int .i64 0, .bool false] 94)).alloc (.cells #[.int .u32 0, .int .u32 0, .int .u32 0, .int .u32 0] 110) = W1 at *
  clear hW1
  obtain ⟨p, hp⟩ : ∃ p, w.heap.size = p := ⟨_, rfl⟩
  obtain ⟨q, hq⟩ : ∃ q, w.heap.size + 1 = q := ⟨_, rfl⟩
  have HQ := Lib.hid hp
  rw [hq, hp] at HR
  rw [hq, hp]
  clear hp hq
  go_loopw [11] (fun i wr => ∃ (j : Nat) (r : List Int), j ≤ 4 ∧ i = .int .i64 j ∧ Rd w wr g b d p q m r ∧ ∀ x, x < j → r.getD x 0 = m.ws.getD (4 * k + x) 0) (fun i _ => 4 - (intOf i).toNat)
  case atStart => exact ⟨0, zeros 4, by omega, rfl, HR.out, fun x hx => by omega⟩
  case round =>
    clear HR
    obtain ⟨j, r, hj, rfl, hR, hr⟩ := hrel
    have HR := Lib.hid hR
    have HX := Lib.hid hr
    clear hR hr
    have c0 := HR.out.sto.c0
    by_cases hlt : j < 4
    · have f0 := HR.out.row.frozen j
      have c1 := HR.out.row.cell hlt
      have HC2 := Lib.hid (fun W i hi hM => HC.out j W i hlt hi hM)
      obtain ⟨v, hv⟩ : ∃ v, m.ws.getD (4 * k + j) 0 = v := ⟨_, rfl⟩
      have HV := Lib.hid hv
      rw [hv] at HC2
      clear hv HC
      go_wp2_with (first
        | (go_at_call 29; (with_reducible refine (HC2.out _ _ (by omega) HR.out.sto.mem).mono ?_); rintro e W2 ⟨rfl, rfl⟩)
        | fail)
      go_roundw
      case rel => exact ⟨j + 1, r.set j v, by omega, by go_num, HR.out.put hlt v, fun x hx => by
        rw [Nw.getD_set r j v (by rw [HR.out.len]; exact hlt) x]
        split
        · rename_i e; subst e; exact HV.out.symm
        · exact HX.out x (by omega)⟩
      case measure => simp [intOf]; omega
    · obtain rfl : j = 4 := by omega
      have w0 := HR.out.row.cell (i := 0) (by decide)
      have w1 := HR.out.row.cell (i := 1) (by decide)
      have w2 := HR.out.row.cell (i := 2) (by decide)
      have w3 := HR.out.row.cell (i := 3) (by decide)
      unfold wf at w0 w1 w2 w3
      obtain ⟨u0, u1, u2, u3⟩ := HU.out
      have HY := HG.out _ _ _ _ (HX.out 0 (by omega)).symm (HX.out 1 (by omega)).symm (HX.out 2 (by omega)).symm (HX.out 3 (by omega)).symm
      rw [show m.ws.getD (4 * k) 0 = r.getD 0 0 from (HX.out 0 (by omega)).symm] at u0
      rw [show m.ws.getD (4 * k + 1) 0 = r.getD 1 0 from (HX.out 1 (by omega)).symm] at u1
      rw [show m.ws.getD (4 * k + 2) 0 = r.getD 2 0 from (HX.out 2 (by omega)).symm] at u2
      rw [show m.ws.getD (4 * k + 3) 0 = r.getD 3 0 from (HX.out 3 (by omega)).symm] at u3
      replace HY := Lib.hid HY
      clear HU HX HG HC
      obtain ⟨x0, X0⟩ : ∃ x, r.getD 0 0 = x := ⟨_, rfl⟩
      obtain ⟨x1, X1⟩ : ∃ x, r.getD 1 0 = x := ⟨_, rfl⟩
      obtain ⟨x2, X2⟩ : ∃ x, r.getD 2 0 = x := ⟨_, rfl⟩
      obtain ⟨x3, X3⟩ : ∃ x, r.getD 3 0 = x := ⟨_, rfl⟩
      rw [X0] at w0 u0
      rw [X1] at w1 u1
      rw [X2] at w2 u2
      rw [X3] at w3 u3
      rw [X0, X1, X2, X3] at HY
      clear X2
      have hmo : x1.tmod 256 = x1 % 256 := Int.tmod_eq_emod_of_nonneg u1.1
      have HR2 := Lib.hid (HR.out.grow ((Below.refl _ _).alloc (Nat.le_refl _) (.cells #[.int .i64 (x1 % 256), .int .i64 x2, .bool (decide (256 ≤ x1))] 37)))
      have HK := Lib.hid (heap_alloc_last wr (.cells #[.int .i64 (x1 % 256), .int .i64 x2, .bool (decide (256 ≤ x1))] 37))
      have v0 := HR2.out.row.cell (i := 0) (by decide)
      have v1 := HR2.out.row.cell (i := 1) (by decide)
      have v3 := HR2.out.row.cell (i := 3) (by decide)
      unfold wf at v0 v1 v3
      rw [X0] at v0
      rw [X1] at v1
      rw [X3] at v3
      have HV := Lib.hid (fun W (h : Rd w W g b d p q m r) => (show W.cell? ⟨q, 0, none⟩ = some (.int .u32 x0) from by
        have := h.row.cell (i := 0) (by decide)
        unfold wf at this
        rwa [X0] at this))
      clear HR X0 X1 X3
      have CM := Lib.hid (fun W => may_c ⟨x1 % 256, x2, decide (256 ≤ x1)⟩ W)
      have hcase : (x0 ≠ x3 ∨ x0 < 1 ∨ 2147483648 < x0 ∨ 512 ≤ x1) ∨ (x0 = x3 ∧ 1 ≤ x0 ∧ x0 ≤ 2147483648 ∧ x1 < 512) := by omega
      rcases hcase with hbad | ⟨h1, h2, h3, h4⟩
      · have HZ : Hid (gd m k = false ∧ rv m k = .agg (pcs 0 zero)) := by
          have := HY.out
          rw [four_bad (by rcases hbad with h | h | h | h <;> simp [h])] at this
          exact this
        clear HY
        have hbad2 : ¬ x0 = x3 ∨ (x0 = x3 ∧ x0 < 1) ∨ (x0 = x3 ∧ 1 ≤ x0 ∧ 2147483648 < x0) ∨ (x0 = x3 ∧ 1 ≤ x0 ∧ x0 ≤ 2147483648 ∧ 512 ≤ x1) := by
          by_cases e : x0 = x3
          · right; omega
          · left; exact e
        clear hbad
        rcases hbad2 with h1 | ⟨rfl, h2⟩ | ⟨rfl, h2, h3⟩ | ⟨rfl, h2, h3, h4⟩
        · have hne : (x0 == x3) = false := by simpa using h1
          go_wp2_with (first | (refine stp rfl _ _ rfl rfl _ 0 0 zero zero rfl rfl HR2.out.out ?_; intro W3 hp ho; have HE := Lib.hid (And.intro hp ho); clear hp ho) | fail)
          refine bodyPost_ret (res_pp rfl _ _ _ 0 zero rfl HE.out.1) rfl ?_
          rw [HZ.out.1, HZ.out.2]
          exact ⟨rfl, (HR2.out.done HE.out.2).2⟩
        · go_wp2_with (first | (refine stp rfl _ _ rfl rfl _ 0 0 zero zero rfl rfl HR2.out.out ?_; intro W3 hp ho; have HE := Lib.hid (And.intro hp ho); clear hp ho) | fail)
          refine bodyPost_ret (res_pp rfl _ _ _ 0 zero rfl HE.out.1) rfl ?_
          rw [HZ.out.1, HZ.out.2]
          exact ⟨rfl, (HR2.out.done HE.out.2).2⟩
        · go_wp2_with (first | (refine stp rfl _ _ rfl rfl _ 0 0 zero zero rfl rfl HR2.out.out ?_; intro W3 hp ho; have HE := Lib.hid (And.intro hp ho); clear hp ho) | fail)
          refine bodyPost_ret (res_pp rfl _ _ _ 0 zero rfl HE.out.1) rfl ?_
          rw [HZ.out.1, HZ.out.2]
          exact ⟨rfl, (HR2.out.done HE.out.2).2⟩
        · go_wp2_with (first | (refine stp rfl _ _ rfl rfl _ 0 0 zero zero rfl rfl HR2.out.out ?_; intro W3 hp ho; have HE := Lib.hid (And.intro hp ho); clear hp ho) | fail)
          refine bodyPost_ret (res_pp rfl _ _ _ 0 zero rfl HE.out.1) rfl ?_
          rw [HZ.out.1, HZ.out.2]
          exact ⟨rfl, (HR2.out.done HE.out.2).2⟩
      · subst h1
        obtain ⟨x, hx⟩ : ∃ x, okR ⟨x1 % 256, x2, decide (256 ≤ x1)⟩ = x := ⟨_, rfl⟩
        rw [hx] at CM
        have HXX := Lib.hid hx
        clear hx
        cases x with
        | false =>
          have HZ : Hid (gd m k = false ∧ rv m k = .agg (pcs 0 zero)) := by
            have := HY.out
            rw [four_bad (.inr (.inr (.inr (.inr HXX.out))))] at this
            exact this
          clear HY
          go_wp2_with (first
            | (go_at_call 34; refine (CM.out _).mono ?_; rintro e W4 ⟨rfl, hb⟩; replace HR2 := Lib.hid (HR2.out.grow hb); clear hb)
            | (refine stp rfl _ _ rfl rfl _ 0 0 zero zero rfl rfl HR2.out.out ?_; intro W3 hp ho; have HE := Lib.hid (And.intro hp ho); clear hp ho)
            | fail)
          refine bodyPost_ret (res_pp rfl _ _ _ 0 zero rfl HE.out.1) rfl ?_
          rw [HZ.out.1, HZ.out.2]
          exact ⟨rfl, (HR2.out.done HE.out.2).2⟩
        | true =>
          have HZ : Hid (gd m k = true ∧ rv m k = .agg (pcs k ⟨x0, x1 % 256, x2, decide (256 ≤ x1), true⟩)) := by
            have := HY.out
            rw [four_fine rfl h2 h3 h4 HXX.out] at this
            exact this
          clear HY
          go_wp2_with (first
            | (go_at_call 34; refine (CM.out _).mono ?_; rintro e W4 ⟨rfl, hb⟩; replace HR2 := Lib.hid (HR2.out.grow hb); replace HK := Lib.hid ((hb.block _ (by simp)).trans HK.out); have v0' := HV.out _ HR2.out; clear hb)
            | (refine ldR rfl _ rfl _ ⟨x1 % 256, x2, decide (256 ≤ x1)⟩ rfl HK.out ?_)
            | (refine stp rfl _ _ rfl rfl _ 0 k zero ⟨x0, x1 % 256, x2, decide (256 ≤ x1), true⟩ rfl rfl HR2.out.out ?_; intro W3 hp ho; have HE := Lib.hid (And.intro hp ho); clear hp ho)
            | fail)
          refine bodyPost_ret (res_pp rfl _ _ _ k ⟨x0, x1 % 256, x2, decide (256 ≤ x1), true⟩ rfl HE.out.1) rfl ?_
          rw [HZ.out.1, HZ.out.2]
          exact ⟨rfl, (HR2.out.done HE.out.2).2⟩

/-- A place that is read: what is told of it. -/
theorem sread_c {g b d : Nat} {m : M} {w : World} (h : Sto w g b d m) (hm : Good m) (k : Nat) (hk : k < rooms m) :
    Calls Try.prog 48 #[.pointer (some ⟨g, 0, none⟩), .int .i64 k] w fun e w' => e = .returned (.tuple #[rv m k, .bool (gd m k)]) ∧ Mem w' b d m ∧ Turn b d w w' := by
  cases hg : m.gone with
  | true =>
    have e : gd m k = false := by unfold gd; rw [hg]; rfl
    have e2 : rv m k = .agg (pcs 0 zero) := by unfold rv; rw [e]; rfl
    rw [e, e2]
    exact read_gone h hm hg k hk
  | false =>
    refine (read_fine h hm hg k hk).mono ?_
    rintro e w' ⟨rfl, hb⟩
    exact ⟨rfl, h.mem.grow hb, Turn.grow hb⟩
end Sq
end Go.Proofs.Ytlhapipgmadbeaa
