/- An engine that came in, and its box, held through calls; arrays of five. -/
import Derived.Test.YtioiffhbbhlgeaaTabHeld
import Derived.Test.YtioiffhbbhlgeaaSynthMath
import Derived.Test.YtioiffhbbhlgeaaObjKit
import Derived.Deep.DeepCutAuto
namespace Go.Proofs.Ytioiffhbbhlgeaa
namespace Ew
open Go.RowKit TabC Lk

/-- A table as it lies in two cells. -/
structure Tv where
  A : Option Addr
  B : Option Addr
  ca : Nat
  cb : Nat
  xs : List Int
  ys : List Int
abbrev tc (t : Tv) : Array Value := #[.slice t.A t.xs.length t.ca, .slice t.B t.ys.length t.cb]

/-- An engine as it lies: four tables and eight numbers. -/
structure Eg where
  f : Tv
  p : Tv
  q : Tv
  h : Tv
  lag2 : Int
  lag1 : Int
  lagE : Int
  slew : Int
  starter : Int
  light : Int
  lean : Int
  disturb : Int
def en (e : Eg) : Em.En := ⟨e.f.xs, e.f.ys, e.p.xs, e.p.ys, e.q.xs, e.q.ys, e.h.xs, e.h.ys, e.lag2, e.lag1, e.lagE, e.slew, e.starter, e.light, e.lean, e.disturb⟩

abbrev ec (e : Eg) : Array Value := #[.slice e.f.A e.f.xs.length e.f.ca, .slice e.f.B e.f.ys.length e.f.cb, .slice e.p.A e.p.xs.length e.p.ca, .slice e.p.B e.p.ys.length e.p.cb, .slice e.q.A e.q.xs.length e.q.ca, .slice e.q.B e.q.ys.length e.q.cb, .slice e.h.A e.h.xs.length e.h.ca, .slice e.h.B e.h.ys.length e.h.cb, .int .i64 e.lag2, .int .i64 e.lag1, .int .i64 e.lagE, .int .i64 e.slew, .int .i64 e.starter, .int .i64 e.light, .int .i64 e.lean, .int .i64 e.disturb]
abbrev eo (e : Eg) : Obj := .cells (ec e) 26 (0, 0)
abbrev so (e : Eg) : Obj := .cells (ec e) 68 (0, 0)
theorem info_e : (Try.prog.info? 26).map (·.size) = some 16 := by kernel_rfl
theorem ec_one (e : Eg) : (ec e).all (·.oneCell') = true := by simp [ec, Value.oneCell']

/-- The tables of an engine can be read. -/
structure EngIn (W : World) (e : Eg) : Prop where
  f : TabIn W e.f.A e.f.B e.f.xs e.f.ys
  p : TabIn W e.p.A e.p.B e.p.xs e.p.ys
  q : TabIn W e.q.A e.q.B e.q.xs e.q.ys
  h : TabIn W e.h.A e.h.B e.h.xs e.h.ys
theorem EngIn.below {W W' : World} {e : Eg} (h : EngIn W e) (hb : Below W.heap.size W W') : EngIn W' e := ⟨h.f.below hb, h.p.below hb, h.q.below hb, h.h.below hb⟩
theorem EngIn.alloc {W : World} {e : Eg} (h : EngIn W e) (o : Obj) : EngIn (W.alloc o) e := h.below ((Below.refl _ _).alloc (Nat.le_refl _) _)
theorem EngIn.old {w W : World} {e : Eg} {L : List (Nat × Obj)} (h : EngIn w e) (hv : Hv w W L) : EngIn W e := h.below hv.old

section
variable {ops : Array Oper} {rest : List Oper} {op : Oper} {a : Act} {w : World} {Q : Exit → Act → World → Prop}
/-- An engine, loaded and stored as a whole. -/
theorem lde (hw : Region.wanted op (yielded ops a.tmps) = true) (x : Operand) (ho : op.op = .load 26 x)
    (b : Nat) (e : Eg) (hx : a.eval x = .pointer (some ⟨b, 0, none⟩)) (hP : w.heap[b]? = some (eo e))
    (c : wpList Try.prog ops Q rest (a.put op.dst (.agg (ec e))) w) : wpList Try.prog ops Q (op :: rest) a w :=
  Lk.wanted hw fun _ hK => wp_load_row 26 x ho b hx 26 (ec e) (0, 0) _ hP Try.underlying26 rfl info_e (hK _ _ c)
theorem ste (hgd : op.guard = none) (x y : Operand) (ho : op.op = .store 26 x y) (hd : op.dst = none)
    (g : Nat) (q p : Eg) (hx : a.eval x = .pointer (some ⟨g, 0, none⟩)) (hy : a.eval y = .agg (ec p)) (hP : w.heap[g]? = some (eo q))
    (h : ∀ w', w'.heap[g]? = some (eo p) → Off g w w' → wpList Try.prog ops Q rest a w') : wpList Try.prog ops Q (op :: rest) a w := by
  refine wpList_plain hgd fun _ hK => wp_store_row 26 x y ho g (ec p) hx hy 26 (ec q) hP info_e rfl (ec_one p) (hK _ _ ?_)
  rw [hd]
  exact h _ (setRow_heap w g (ec q) (ec p) 26 (0, 0) hP) (Off.row w g _)
end

end Ew
end Go.Proofs.Ytioiffhbbhlgeaa
