/-
  No cell of these rows narrows 'for every input' (looked for: loops, veiled, ifaces, maps, wideKeys, modest, calm, conditions, laid).
  DERIVED. THE GIVEN ROWS OF THIS SEAT. 5 by the template 'for every input the law returns true; each argument reads behind the call as it read before'; 0 by the template 'total and deterministic' (their statements: YtjjconkelbjodaaTotals.lean).
  GIVEN WITH THE SEED: the statements are not yours to turn. If you find one false, say at which input.
  Laid BY PROGRAM, IN A SANDBOX (cutbox-rows.mjs): the forced cells as the released guide's own fill.sh prints them over the translation 5206387e36869ba9… (all of the seat's roots in one cut). By AI agents, Wed Nov 11 2026. No macro, syntax, notation, axiom, sorry.
-/
import Derived.Test.YtjjconkelbjodaaChecked
import GoSem.Claim
import GoSem.ClaimJoined
import GoSem.ClaimMapViews
import Derived.JoinedTies
import Derived.KernelRfl
namespace Go.Proofs.Ytjjconkelbjodaa
/- THE CELL 'sum', in the pinned program and in every row, IS THE sha256 OF THE DUMP (.gsa) THAT YtjjconkelbjodaaProg.lean LOADS. Nothing in Lean hashes anything: it is a label: what it is worth is what the hold of that sum in a sandbox is worth. -/
noncomputable def Try.pinned : Pinned := { name := "ytjjconkelbjodaa", sum := "5206387e36869ba9ee65befd07b064b527213f9e44f64597fe4d069aeb77d20c", checked := Try.checked }
namespace Rows
def none {H : Type} : Left H := { results := [], args := [] }

/-- 'turbojetlaw15.LimitTells': WHATEVER THE INPUT: true; the input reads as it did. -/
def limitTellsSpec : ChangeSpec := { name := "limitTells", fn := fun _ => fun
  | [d1, d2, d3, d4, d5] => { results := [.lit (.bool true)], args := [d1, d2, d3, d4, d5] }
  | _ => none }
def limitTellsRow : OpenClaim := { program := "ytjjconkelbjodaa", sum := "5206387e36869ba9ee65befd07b064b527213f9e44f64597fe4d069aeb77d20c", func := "turbojet/turbojetlaw15.LimitTells", spec := "limitTells", unfollowed := true, recurses := true, apart := false }
def LimitTellsSaid : Prop := limitTellsRow.holds Try.pinned (OpenSpec.ofChange limitTellsSpec)

/-- ITS FALSE NEIGHBOUR: 'it returns false'. Refute it at one input. -/
def limitTellsWrong : ChangeSpec := { name := "limitTells", fn := fun _ => fun
  | [d1, d2, d3, d4, d5] => { results := [.lit (.bool false)], args := [d1, d2, d3, d4, d5] }
  | _ => none }
def LimitTellsWrongFalsely : Prop := limitTellsRow.holds Try.pinned (OpenSpec.ofChange limitTellsWrong)

/-- 'turbojetlaw15.LimitLeast': WHATEVER THE INPUT: true; the input reads as it did. -/
def limitLeastSpec : ChangeSpec := { name := "limitLeast", fn := fun _ => fun
  | [d1, d2, d3, d4, d5, d6] => { results := [.lit (.bool true)], args := [d1, d2, d3, d4, d5, d6] }
  | _ => none }
def limitLeastRow : OpenClaim := { program := "ytjjconkelbjodaa", sum := "5206387e36869ba9ee65befd07b064b527213f9e44f64597fe4d069aeb77d20c", func := "turbojet/turbojetlaw15.LimitLeast", spec := "limitLeast", unfollowed := true, recurses := true, apart := false }
def LimitLeastSaid : Prop := limitLeastRow.holds Try.pinned (OpenSpec.ofChange limitLeastSpec)

/-- ITS FALSE NEIGHBOUR: 'it returns false'. Refute it at one input. -/
def limitLeastWrong : ChangeSpec := { name := "limitLeast", fn := fun _ => fun
  | [d1, d2, d3, d4, d5, d6] => { results := [.lit (.bool false)], args := [d1, d2, d3, d4, d5, d6] }
  | _ => none }
def LimitLeastWrongFalsely : Prop := limitLeastRow.holds Try.pinned (OpenSpec.ofChange limitLeastWrong)

/-- 'turbojetlaw15.LimitRises': WHATEVER THE INPUT: true; the input reads as it did. -/
def limitRisesSpec : ChangeSpec := { name := "limitRises", fn := fun _ => fun
  | [d1, d2, d3, d4, d5, d6, d7] => { results := [.lit (.bool true)], args := [d1, d2, d3, d4, d5, d6, d7] }
  | _ => none }
def limitRisesRow : OpenClaim := { program := "ytjjconkelbjodaa", sum := "5206387e36869ba9ee65befd07b064b527213f9e44f64597fe4d069aeb77d20c", func := "turbojet/turbojetlaw15.LimitRises", spec := "limitRises", unfollowed := true, recurses := true, apart := false }
def LimitRisesSaid : Prop := limitRisesRow.holds Try.pinned (OpenSpec.ofChange limitRisesSpec)

/-- ITS FALSE NEIGHBOUR: 'it returns false'. Refute it at one input. -/
def limitRisesWrong : ChangeSpec := { name := "limitRises", fn := fun _ => fun
  | [d1, d2, d3, d4, d5, d6, d7] => { results := [.lit (.bool false)], args := [d1, d2, d3, d4, d5, d6, d7] }
  | _ => none }
def LimitRisesWrongFalsely : Prop := limitRisesRow.holds Try.pinned (OpenSpec.ofChange limitRisesWrong)

/-- 'turbojetlaw15.LimitHolds': WHATEVER THE INPUT: true; the input reads as it did. -/
def limitHoldsSpec : ChangeSpec := { name := "limitHolds", fn := fun _ => fun
  | [d1, d2, d3, d4] => { results := [.lit (.bool true)], args := [d1, d2, d3, d4] }
  | _ => none }
def limitHoldsRow : OpenClaim := { program := "ytjjconkelbjodaa", sum := "5206387e36869ba9ee65befd07b064b527213f9e44f64597fe4d069aeb77d20c", func := "turbojet/turbojetlaw15.LimitHolds", spec := "limitHolds", unfollowed := true, recurses := true, apart := false }
def LimitHoldsSaid : Prop := limitHoldsRow.holds Try.pinned (OpenSpec.ofChange limitHoldsSpec)

/-- ITS FALSE NEIGHBOUR: 'it returns false'. Refute it at one input. -/
def limitHoldsWrong : ChangeSpec := { name := "limitHolds", fn := fun _ => fun
  | [d1, d2, d3, d4] => { results := [.lit (.bool false)], args := [d1, d2, d3, d4] }
  | _ => none }
def LimitHoldsWrongFalsely : Prop := limitHoldsRow.holds Try.pinned (OpenSpec.ofChange limitHoldsWrong)

/-- 'turbojetlaw15.LimitLadders': WHATEVER THE INPUT: true; the input reads as it did. -/
def limitLaddersSpec : ChangeSpec := { name := "limitLadders", fn := fun _ => fun
  | [d1, d2] => { results := [.lit (.bool true)], args := [d1, d2] }
  | _ => none }
def limitLaddersRow : OpenClaim := { program := "ytjjconkelbjodaa", sum := "5206387e36869ba9ee65befd07b064b527213f9e44f64597fe4d069aeb77d20c", func := "turbojet/turbojetlaw15.LimitLadders", spec := "limitLadders", unfollowed := true, recurses := true, apart := false }
def LimitLaddersSaid : Prop := limitLaddersRow.holds Try.pinned (OpenSpec.ofChange limitLaddersSpec)

/-- ITS FALSE NEIGHBOUR: 'it returns false'. Refute it at one input. -/
def limitLaddersWrong : ChangeSpec := { name := "limitLadders", fn := fun _ => fun
  | [d1, d2] => { results := [.lit (.bool false)], args := [d1, d2] }
  | _ => none }
def LimitLaddersWrongFalsely : Prop := limitLaddersRow.holds Try.pinned (OpenSpec.ofChange limitLaddersWrong)

/- THE SECOND FORM. 'bulk': how many values and letters a reading holds, each counted each time it is reached (what is shared counts as often as it is met; a slice's spare places count too). A statement '..UptoSaid' is the law's where the arguments, and the package variables that the reading takes, are together of bulk at most 1048576: NARROWER than '..Said'. Prove '..Said' where nothing that the law and all that it calls make is longer than what came in: it says more and counts as full. Else prove '..UptoSaid'. A law counts once. -/
mutual
def uptoBulk {H : Type} : DataW H → Nat
  | .lit (.string bytes) => bytes.length + 1
  | .lit _ => 1
  | .nil => 1
  | .ptr d => uptoBulk d + 1
  | .slice elems spare => uptoBulkAll elems + uptoBulkAll spare + 1
  | .agg parts => uptoBulkAll parts + 1
  | .iface _ d => uptoBulk d + 1
  | .map entries => uptoBulkEntries entries + 1
  | .held _ => 1
def uptoBulkAll {H : Type} : List (DataW H) → Nat
  | [] => 0
  | d :: r => uptoBulk d + uptoBulkAll r
def uptoBulkEntries {H : Type} : List (Lit × DataW H) → Nat
  | [] => 0
  | x :: r => uptoBulkEntry x + uptoBulkEntries r
def uptoBulkEntry {H : Type} : Lit × DataW H → Nat
  | (.string bytes, d) => bytes.length + uptoBulk d + 1
  | (_, d) => uptoBulk d + 1
 end
def uptoSmall : (H : Type) → List (DataW H) → Bool := fun _ ds => decide (uptoBulkAll ds ≤ 1048576)
def OpenSpec.upto (s : _root_.Go.ChangeSpec) : _root_.Go.OpenSpec := { _root_.Go.OpenSpec.ofChange s with cond := some uptoSmall }

/-- 'turbojetlaw15.LimitTells', WHERE WHAT IT READS IS OF BULK AT MOST 1048576: true; the input reads as it did. -/
def limitTellsUptoRow : OpenClaim := { program := "ytjjconkelbjodaa", sum := "5206387e36869ba9ee65befd07b064b527213f9e44f64597fe4d069aeb77d20c", func := "turbojet/turbojetlaw15.LimitTells", spec := "limitTells", unfollowed := true, recurses := true, apart := false, narrowed := true }
def LimitTellsUptoSaid : Prop := limitTellsUptoRow.holds Try.pinned (OpenSpec.upto limitTellsSpec)

/-- 'turbojetlaw15.LimitLeast', WHERE WHAT IT READS IS OF BULK AT MOST 1048576: true; the input reads as it did. -/
def limitLeastUptoRow : OpenClaim := { program := "ytjjconkelbjodaa", sum := "5206387e36869ba9ee65befd07b064b527213f9e44f64597fe4d069aeb77d20c", func := "turbojet/turbojetlaw15.LimitLeast", spec := "limitLeast", unfollowed := true, recurses := true, apart := false, narrowed := true }
def LimitLeastUptoSaid : Prop := limitLeastUptoRow.holds Try.pinned (OpenSpec.upto limitLeastSpec)

/-- 'turbojetlaw15.LimitRises', WHERE WHAT IT READS IS OF BULK AT MOST 1048576: true; the input reads as it did. -/
def limitRisesUptoRow : OpenClaim := { program := "ytjjconkelbjodaa", sum := "5206387e36869ba9ee65befd07b064b527213f9e44f64597fe4d069aeb77d20c", func := "turbojet/turbojetlaw15.LimitRises", spec := "limitRises", unfollowed := true, recurses := true, apart := false, narrowed := true }
def LimitRisesUptoSaid : Prop := limitRisesUptoRow.holds Try.pinned (OpenSpec.upto limitRisesSpec)

/-- 'turbojetlaw15.LimitHolds', WHERE WHAT IT READS IS OF BULK AT MOST 1048576: true; the input reads as it did. -/
def limitHoldsUptoRow : OpenClaim := { program := "ytjjconkelbjodaa", sum := "5206387e36869ba9ee65befd07b064b527213f9e44f64597fe4d069aeb77d20c", func := "turbojet/turbojetlaw15.LimitHolds", spec := "limitHolds", unfollowed := true, recurses := true, apart := false, narrowed := true }
def LimitHoldsUptoSaid : Prop := limitHoldsUptoRow.holds Try.pinned (OpenSpec.upto limitHoldsSpec)

/-- 'turbojetlaw15.LimitLadders', WHERE WHAT IT READS IS OF BULK AT MOST 1048576: true; the input reads as it did. -/
def limitLaddersUptoRow : OpenClaim := { program := "ytjjconkelbjodaa", sum := "5206387e36869ba9ee65befd07b064b527213f9e44f64597fe4d069aeb77d20c", func := "turbojet/turbojetlaw15.LimitLadders", spec := "limitLadders", unfollowed := true, recurses := true, apart := false, narrowed := true }
def LimitLaddersUptoSaid : Prop := limitLaddersUptoRow.holds Try.pinned (OpenSpec.upto limitLaddersSpec)

end Rows
end Go.Proofs.Ytjjconkelbjodaa
