/-
  No cell of these rows narrows 'for every input' (looked for: loops, veiled, ifaces, maps, wideKeys, modest, calm, conditions, laid).
  DERIVED. THE GIVEN ROWS OF THIS SEAT. 5 by the template 'for every input the law returns true; each argument reads behind the call as it read before'; 0 by the template 'total and deterministic' (their statements: YtdfihcbmojggoaaTotals.lean).
  GIVEN WITH THE SEED: the statements are not yours to turn. If you find one false, say at which input.
  Laid BY PROGRAM, IN A SANDBOX (cutbox-rows.mjs): the forced cells as the released guide's own fill.sh prints them over the translation 089810e4b287eba7… (all of the seat's roots in one cut). By AI agents, Wed Nov 11 2026. No macro, syntax, notation, axiom, sorry.
-/
import Derived.Test.YtdfihcbmojggoaaChecked
import GoSem.Claim
import GoSem.ClaimJoined
import GoSem.ClaimMapViews
import Derived.JoinedTies
import Derived.KernelRfl
namespace Go.Proofs.Ytdfihcbmojggoaa
/- THE CELL 'sum', in the pinned program and in every row, IS THE sha256 OF THE DUMP (.gsa) THAT YtdfihcbmojggoaaProg.lean LOADS. Nothing in Lean hashes anything: it is a label: what it is worth is what the hold of that sum in a sandbox is worth. -/
noncomputable def Try.pinned : Pinned := { name := "ytdfihcbmojggoaa", sum := "089810e4b287eba71fee86dd4e2a9626d8f3c544f9b87ee1bf4c598372dee174", checked := Try.checked }
namespace Rows
def none {H : Type} : Left H := { results := [], args := [] }

/-- 'turbojetlaw20.CutoffRuns': WHATEVER THE INPUT: true; the input reads as it did. -/
def cutoffRunsSpec : ChangeSpec := { name := "cutoffRuns", fn := fun _ => fun
  | [d1, d2, d3, d4] => { results := [.lit (.bool true)], args := [d1, d2, d3, d4] }
  | _ => none }
def cutoffRunsRow : OpenClaim := { program := "ytdfihcbmojggoaa", sum := "089810e4b287eba71fee86dd4e2a9626d8f3c544f9b87ee1bf4c598372dee174", func := "turbojet/turbojetlaw20.CutoffRuns", spec := "cutoffRuns", unfollowed := true, recurses := true, apart := false }
def CutoffRunsSaid : Prop := cutoffRunsRow.holds Try.pinned (OpenSpec.ofChange cutoffRunsSpec)

/-- ITS FALSE NEIGHBOUR: 'it returns false'. Refute it at one input. -/
def cutoffRunsWrong : ChangeSpec := { name := "cutoffRuns", fn := fun _ => fun
  | [d1, d2, d3, d4] => { results := [.lit (.bool false)], args := [d1, d2, d3, d4] }
  | _ => none }
def CutoffRunsWrongFalsely : Prop := cutoffRunsRow.holds Try.pinned (OpenSpec.ofChange cutoffRunsWrong)

/-- 'turbojetlaw20.CutoffLatches': WHATEVER THE INPUT: true; the input reads as it did. -/
def cutoffLatchesSpec : ChangeSpec := { name := "cutoffLatches", fn := fun _ => fun
  | [d1, d2, d3, d4] => { results := [.lit (.bool true)], args := [d1, d2, d3, d4] }
  | _ => none }
def cutoffLatchesRow : OpenClaim := { program := "ytdfihcbmojggoaa", sum := "089810e4b287eba71fee86dd4e2a9626d8f3c544f9b87ee1bf4c598372dee174", func := "turbojet/turbojetlaw20.CutoffLatches", spec := "cutoffLatches", unfollowed := true, recurses := true, apart := false }
def CutoffLatchesSaid : Prop := cutoffLatchesRow.holds Try.pinned (OpenSpec.ofChange cutoffLatchesSpec)

/-- ITS FALSE NEIGHBOUR: 'it returns false'. Refute it at one input. -/
def cutoffLatchesWrong : ChangeSpec := { name := "cutoffLatches", fn := fun _ => fun
  | [d1, d2, d3, d4] => { results := [.lit (.bool false)], args := [d1, d2, d3, d4] }
  | _ => none }
def CutoffLatchesWrongFalsely : Prop := cutoffLatchesRow.holds Try.pinned (OpenSpec.ofChange cutoffLatchesWrong)

/-- 'turbojetlaw20.CutoffBound': WHATEVER THE INPUT: true; the input reads as it did. -/
def cutoffBoundSpec : ChangeSpec := { name := "cutoffBound", fn := fun _ => fun
  | [d1, d2, d3, d4, d5, d6] => { results := [.lit (.bool true)], args := [d1, d2, d3, d4, d5, d6] }
  | _ => none }
def cutoffBoundRow : OpenClaim := { program := "ytdfihcbmojggoaa", sum := "089810e4b287eba71fee86dd4e2a9626d8f3c544f9b87ee1bf4c598372dee174", func := "turbojet/turbojetlaw20.CutoffBound", spec := "cutoffBound", unfollowed := true, recurses := true, apart := false }
def CutoffBoundSaid : Prop := cutoffBoundRow.holds Try.pinned (OpenSpec.ofChange cutoffBoundSpec)

/-- ITS FALSE NEIGHBOUR: 'it returns false'. Refute it at one input. -/
def cutoffBoundWrong : ChangeSpec := { name := "cutoffBound", fn := fun _ => fun
  | [d1, d2, d3, d4, d5, d6] => { results := [.lit (.bool false)], args := [d1, d2, d3, d4, d5, d6] }
  | _ => none }
def CutoffBoundWrongFalsely : Prop := cutoffBoundRow.holds Try.pinned (OpenSpec.ofChange cutoffBoundWrong)

/-- 'turbojetlaw20.CutoffTurns': WHATEVER THE INPUT: true; the input reads as it did. -/
def cutoffTurnsSpec : ChangeSpec := { name := "cutoffTurns", fn := fun _ => fun
  | [d1, d2, d3, d4] => { results := [.lit (.bool true)], args := [d1, d2, d3, d4] }
  | _ => none }
def cutoffTurnsRow : OpenClaim := { program := "ytdfihcbmojggoaa", sum := "089810e4b287eba71fee86dd4e2a9626d8f3c544f9b87ee1bf4c598372dee174", func := "turbojet/turbojetlaw20.CutoffTurns", spec := "cutoffTurns", unfollowed := true, recurses := true, apart := false }
def CutoffTurnsSaid : Prop := cutoffTurnsRow.holds Try.pinned (OpenSpec.ofChange cutoffTurnsSpec)

/-- ITS FALSE NEIGHBOUR: 'it returns false'. Refute it at one input. -/
def cutoffTurnsWrong : ChangeSpec := { name := "cutoffTurns", fn := fun _ => fun
  | [d1, d2, d3, d4] => { results := [.lit (.bool false)], args := [d1, d2, d3, d4] }
  | _ => none }
def CutoffTurnsWrongFalsely : Prop := cutoffTurnsRow.holds Try.pinned (OpenSpec.ofChange cutoffTurnsWrong)

/-- 'turbojetlaw20.CutoffMost': WHATEVER THE INPUT: true; the input reads as it did. -/
def cutoffMostSpec : ChangeSpec := { name := "cutoffMost", fn := fun _ => fun
  | [d1, d2, d3, d4] => { results := [.lit (.bool true)], args := [d1, d2, d3, d4] }
  | _ => none }
def cutoffMostRow : OpenClaim := { program := "ytdfihcbmojggoaa", sum := "089810e4b287eba71fee86dd4e2a9626d8f3c544f9b87ee1bf4c598372dee174", func := "turbojet/turbojetlaw20.CutoffMost", spec := "cutoffMost", unfollowed := true, recurses := true, apart := false }
def CutoffMostSaid : Prop := cutoffMostRow.holds Try.pinned (OpenSpec.ofChange cutoffMostSpec)

/-- ITS FALSE NEIGHBOUR: 'it returns false'. Refute it at one input. -/
def cutoffMostWrong : ChangeSpec := { name := "cutoffMost", fn := fun _ => fun
  | [d1, d2, d3, d4] => { results := [.lit (.bool false)], args := [d1, d2, d3, d4] }
  | _ => none }
def CutoffMostWrongFalsely : Prop := cutoffMostRow.holds Try.pinned (OpenSpec.ofChange cutoffMostWrong)

/- THE SECOND FORM. 'bulk': how many values and letters a reading holds, each counted each time it is reached (what is shared counts as often as it is met; a slice's spare places count too). A statement '..UptoSaid' is the law's where the arguments, and the package variables that the reading takes, are together of bulk at most 1048576: NARROWER than '..Said'. Prove '..Said' where nothing that the law and all that it calls make is longer than what came in: it says more and counts as full. Else prove '..UptoSaid'. A law counts once. -/
mutual
def uptoBulk {H : Type} : DataW H → Nat
  | .lit (.string bytes) => bytes.length + 1
  | .lit _ => 1
  | .nil => 1
  | .ptr d => uptoBulk d + 1
  | .slice elems spare => uptoBulkAll elems + uptoBulkAll spare + 1
  | .agg parts => uptoBulkAll parts + 1
  | .iface _ d => uptoBulk d + 1
  | .map entries => uptoBulkEntries entries + 1
  | .held _ => 1
def uptoBulkAll {H : Type} : List (DataW H) → Nat
  | [] => 0
  | d :: r => uptoBulk d + uptoBulkAll r
def uptoBulkEntries {H : Type} : List (Lit × DataW H) → Nat
  | [] => 0
  | x :: r => uptoBulkEntry x + uptoBulkEntries r
def uptoBulkEntry {H : Type} : Lit × DataW H → Nat
  | (.string bytes, d) => bytes.length + uptoBulk d + 1
  | (_, d) => uptoBulk d + 1
 end
def uptoSmall : (H : Type) → List (DataW H) → Bool := fun _ ds => decide (uptoBulkAll ds ≤ 1048576)
def OpenSpec.upto (s : _root_.Go.ChangeSpec) : _root_.Go.OpenSpec := { _root_.Go.OpenSpec.ofChange s with cond := some uptoSmall }

/-- 'turbojetlaw20.CutoffRuns', WHERE WHAT IT READS IS OF BULK AT MOST 1048576: true; the input reads as it did. -/
def cutoffRunsUptoRow : OpenClaim := { program := "ytdfihcbmojggoaa", sum := "089810e4b287eba71fee86dd4e2a9626d8f3c544f9b87ee1bf4c598372dee174", func := "turbojet/turbojetlaw20.CutoffRuns", spec := "cutoffRuns", unfollowed := true, recurses := true, apart := false, narrowed := true }
def CutoffRunsUptoSaid : Prop := cutoffRunsUptoRow.holds Try.pinned (OpenSpec.upto cutoffRunsSpec)

/-- 'turbojetlaw20.CutoffLatches', WHERE WHAT IT READS IS OF BULK AT MOST 1048576: true; the input reads as it did. -/
def cutoffLatchesUptoRow : OpenClaim := { program := "ytdfihcbmojggoaa", sum := "089810e4b287eba71fee86dd4e2a9626d8f3c544f9b87ee1bf4c598372dee174", func := "turbojet/turbojetlaw20.CutoffLatches", spec := "cutoffLatches", unfollowed := true, recurses := true, apart := false, narrowed := true }
def CutoffLatchesUptoSaid : Prop := cutoffLatchesUptoRow.holds Try.pinned (OpenSpec.upto cutoffLatchesSpec)

/-- 'turbojetlaw20.CutoffBound', WHERE WHAT IT READS IS OF BULK AT MOST 1048576: true; the input reads as it did. -/
def cutoffBoundUptoRow : OpenClaim := { program := "ytdfihcbmojggoaa", sum := "089810e4b287eba71fee86dd4e2a9626d8f3c544f9b87ee1bf4c598372dee174", func := "turbojet/turbojetlaw20.CutoffBound", spec := "cutoffBound", unfollowed := true, recurses := true, apart := false, narrowed := true }
def CutoffBoundUptoSaid : Prop := cutoffBoundUptoRow.holds Try.pinned (OpenSpec.upto cutoffBoundSpec)

/-- 'turbojetlaw20.CutoffTurns', WHERE WHAT IT READS IS OF BULK AT MOST 1048576: true; the input reads as it did. -/
def cutoffTurnsUptoRow : OpenClaim := { program := "ytdfihcbmojggoaa", sum := "089810e4b287eba71fee86dd4e2a9626d8f3c544f9b87ee1bf4c598372dee174", func := "turbojet/turbojetlaw20.CutoffTurns", spec := "cutoffTurns", unfollowed := true, recurses := true, apart := false, narrowed := true }
def CutoffTurnsUptoSaid : Prop := cutoffTurnsUptoRow.holds Try.pinned (OpenSpec.upto cutoffTurnsSpec)

/-- 'turbojetlaw20.CutoffMost', WHERE WHAT IT READS IS OF BULK AT MOST 1048576: true; the input reads as it did. -/
def cutoffMostUptoRow : OpenClaim := { program := "ytdfihcbmojggoaa", sum := "089810e4b287eba71fee86dd4e2a9626d8f3c544f9b87ee1bf4c598372dee174", func := "turbojet/turbojetlaw20.CutoffMost", spec := "cutoffMost", unfollowed := true, recurses := true, apart := false, narrowed := true }
def CutoffMostUptoSaid : Prop := cutoffMostUptoRow.holds Try.pinned (OpenSpec.upto cutoffMostSpec)

end Rows
end Go.Proofs.Ytdfihcbmojggoaa
