/- An engine that came in, and its box, held through calls; arrays of five. -/
import Derived.Test.YtjjconkelbjodaaTabHeld
import Derived.Test.YtjjconkelbjodaaSynthMath
import Derived.Test.YtjjconkelbjodaaObjKit
import Derived.Deep.DeepCutAuto
namespace Go.Proofs.Ytjjconkelbjodaa
namespace Ew
open Go.RowKit TabC Lk

/-- A table as it lies in two cells. -/
structure Tv where
  A : Option Addr
  B : Option Addr
  ca : Nat
  cb : Nat
  xs : List Int
  ys : List Int
abbrev tc (t : Tv) : Array Value := #[.slice t.A t.xs.length t.ca, .slice t.B t.ys.length t.cb]

/-- An engine as it lies: four tables and eight numbers. -/
structure Eg where
  f : Tv
  p : Tv
  q : Tv
  h : Tv
  lag2 : Int
  lag1 : Int
  lagE : Int
  slew : Int
  starter : Int
  light : Int
  lean : Int
  disturb : Int
def en (e : Eg) : Em.En := ⟨e.f.xs, e.f.ys, e.p.xs, e.p.ys, e.q.xs, e.q.ys, e.h.xs, e.h.ys, e.lag2, e.lag1, e.lagE, e.slew, e.starter, e.light, e.lean, e.disturb⟩

/-- The tables of an engine can be read. -/
structure EngIn (W : World) (e : Eg) : Prop where
  f : TabIn W e.f.A e.f.B e.f.xs e.f.ys
  p : TabIn W e.p.A e.p.B e.p.xs e.p.ys
  q : TabIn W e.q.A e.q.B e.q.xs e.q.ys
  h : TabIn W e.h.A e.h.B e.h.xs e.h.ys
theorem EngIn.below {W W' : World} {e : Eg} (h : EngIn W e) (hb : Below W.heap.size W W') : EngIn W' e := ⟨h.f.below hb, h.p.below hb, h.q.below hb, h.h.below hb⟩
theorem EngIn.alloc {W : World} {e : Eg} (h : EngIn W e) (o : Obj) : EngIn (W.alloc o) e := h.below ((Below.refl _ _).alloc (Nat.le_refl _) _)
theorem EngIn.old {w W : World} {e : Eg} {L : List (Nat × Obj)} (h : EngIn w e) (hv : Hv w W L) : EngIn W e := h.below hv.old

end Ew
end Go.Proofs.Ytjjconkelbjodaa
