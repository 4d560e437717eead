/-
  No cell of these rows narrows 'for every input' (looked for: loops, veiled, ifaces, maps, wideKeys, modest, calm, conditions, laid).
  DERIVED. THE GIVEN ROWS OF THIS SEAT. 4 by the template 'for every input the law returns true; each argument reads behind the call as it read before'; 0 by the template 'total and deterministic' (their statements: YtjhgcbkdghcgmaaTotals.lean).
  GIVEN WITH THE SEED: the statements are not yours to turn. If you find one false, say at which input.
  Laid BY PROGRAM, IN A SANDBOX (cutbox-rows.mjs): the forced cells as the released guide's own fill.sh prints them over the translation 3def8a24a0d47fa3… (all of the seat's roots in one cut). By AI agents, Wed Nov 11 2026. No macro, syntax, notation, axiom, sorry.
-/
import Derived.Test.YtjhgcbkdghcgmaaChecked
import GoSem.Claim
import GoSem.ClaimJoined
import GoSem.ClaimMapViews
import Derived.JoinedTies
import Derived.KernelRfl
namespace Go.Proofs.Ytjhgcbkdghcgmaa
/- THE CELL 'sum', in the pinned program and in every row, IS THE sha256 OF THE DUMP (.gsa) THAT YtjhgcbkdghcgmaaProg.lean LOADS. Nothing in Lean hashes anything: it is a label: what it is worth is what the hold of that sum in a sandbox is worth. -/
noncomputable def Try.pinned : Pinned := { name := "ytjhgcbkdghcgmaa", sum := "3def8a24a0d47fa323d2523d030aff18ba07a97a5ef3fb9fa1727fecc734fff0", checked := Try.checked }
namespace Rows
def none {H : Type} : Left H := { results := [], args := [] }

/-- 'turbojetlaw16.StartTells': WHATEVER THE INPUT: true; the input reads as it did. -/
def startTellsSpec : ChangeSpec := { name := "startTells", fn := fun _ => fun
  | [d1, d2, d3, d4] => { results := [.lit (.bool true)], args := [d1, d2, d3, d4] }
  | _ => none }
def startTellsRow : OpenClaim := { program := "ytjhgcbkdghcgmaa", sum := "3def8a24a0d47fa323d2523d030aff18ba07a97a5ef3fb9fa1727fecc734fff0", func := "turbojet/turbojetlaw16.StartTells", spec := "startTells", unfollowed := true, recurses := true, apart := false }
def StartTellsSaid : Prop := startTellsRow.holds Try.pinned (OpenSpec.ofChange startTellsSpec)

/-- ITS FALSE NEIGHBOUR: 'it returns false'. Refute it at one input. -/
def startTellsWrong : ChangeSpec := { name := "startTells", fn := fun _ => fun
  | [d1, d2, d3, d4] => { results := [.lit (.bool false)], args := [d1, d2, d3, d4] }
  | _ => none }
def StartTellsWrongFalsely : Prop := startTellsRow.holds Try.pinned (OpenSpec.ofChange startTellsWrong)

/-- 'turbojetlaw16.StartBurns': WHATEVER THE INPUT: true; the input reads as it did. -/
def startBurnsSpec : ChangeSpec := { name := "startBurns", fn := fun _ => fun
  | [d1, d2, d3, d4] => { results := [.lit (.bool true)], args := [d1, d2, d3, d4] }
  | _ => none }
def startBurnsRow : OpenClaim := { program := "ytjhgcbkdghcgmaa", sum := "3def8a24a0d47fa323d2523d030aff18ba07a97a5ef3fb9fa1727fecc734fff0", func := "turbojet/turbojetlaw16.StartBurns", spec := "startBurns", unfollowed := true, recurses := true, apart := false }
def StartBurnsSaid : Prop := startBurnsRow.holds Try.pinned (OpenSpec.ofChange startBurnsSpec)

/-- ITS FALSE NEIGHBOUR: 'it returns false'. Refute it at one input. -/
def startBurnsWrong : ChangeSpec := { name := "startBurns", fn := fun _ => fun
  | [d1, d2, d3, d4] => { results := [.lit (.bool false)], args := [d1, d2, d3, d4] }
  | _ => none }
def StartBurnsWrongFalsely : Prop := startBurnsRow.holds Try.pinned (OpenSpec.ofChange startBurnsWrong)

/-- 'turbojetlaw16.StartStays': WHATEVER THE INPUT: true; the input reads as it did. -/
def startStaysSpec : ChangeSpec := { name := "startStays", fn := fun _ => fun
  | [d1, d2, d3, d4] => { results := [.lit (.bool true)], args := [d1, d2, d3, d4] }
  | _ => none }
def startStaysRow : OpenClaim := { program := "ytjhgcbkdghcgmaa", sum := "3def8a24a0d47fa323d2523d030aff18ba07a97a5ef3fb9fa1727fecc734fff0", func := "turbojet/turbojetlaw16.StartStays", spec := "startStays", unfollowed := true, recurses := true, apart := false }
def StartStaysSaid : Prop := startStaysRow.holds Try.pinned (OpenSpec.ofChange startStaysSpec)

/-- ITS FALSE NEIGHBOUR: 'it returns false'. Refute it at one input. -/
def startStaysWrong : ChangeSpec := { name := "startStays", fn := fun _ => fun
  | [d1, d2, d3, d4] => { results := [.lit (.bool false)], args := [d1, d2, d3, d4] }
  | _ => none }
def StartStaysWrongFalsely : Prop := startStaysRow.holds Try.pinned (OpenSpec.ofChange startStaysWrong)

/-- 'turbojetlaw16.StartEdges': WHATEVER THE INPUT: true; the input reads as it did. -/
def startEdgesSpec : ChangeSpec := { name := "startEdges", fn := fun _ => fun
  | [d1, d2] => { results := [.lit (.bool true)], args := [d1, d2] }
  | _ => none }
def startEdgesRow : OpenClaim := { program := "ytjhgcbkdghcgmaa", sum := "3def8a24a0d47fa323d2523d030aff18ba07a97a5ef3fb9fa1727fecc734fff0", func := "turbojet/turbojetlaw16.StartEdges", spec := "startEdges", unfollowed := true, recurses := true, apart := false }
def StartEdgesSaid : Prop := startEdgesRow.holds Try.pinned (OpenSpec.ofChange startEdgesSpec)

/-- ITS FALSE NEIGHBOUR: 'it returns false'. Refute it at one input. -/
def startEdgesWrong : ChangeSpec := { name := "startEdges", fn := fun _ => fun
  | [d1, d2] => { results := [.lit (.bool false)], args := [d1, d2] }
  | _ => none }
def StartEdgesWrongFalsely : Prop := startEdgesRow.holds Try.pinned (OpenSpec.ofChange startEdgesWrong)

/- THE SECOND FORM. 'bulk': how many values and letters a reading holds, each counted each time it is reached (what is shared counts as often as it is met; a slice's spare places count too). A statement '..UptoSaid' is the law's where the arguments, and the package variables that the reading takes, are together of bulk at most 1048576: NARROWER than '..Said'. Prove '..Said' where nothing that the law and all that it calls make is longer than what came in: it says more and counts as full. Else prove '..UptoSaid'. A law counts once. -/
mutual
def uptoBulk {H : Type} : DataW H → Nat
  | .lit (.string bytes) => bytes.length + 1
  | .lit _ => 1
  | .nil => 1
  | .ptr d => uptoBulk d + 1
  | .slice elems spare => uptoBulkAll elems + uptoBulkAll spare + 1
  | .agg parts => uptoBulkAll parts + 1
  | .iface _ d => uptoBulk d + 1
  | .map entries => uptoBulkEntries entries + 1
  | .held _ => 1
def uptoBulkAll {H : Type} : List (DataW H) → Nat
  | [] => 0
  | d :: r => uptoBulk d + uptoBulkAll r
def uptoBulkEntries {H : Type} : List (Lit × DataW H) → Nat
  | [] => 0
  | x :: r => uptoBulkEntry x + uptoBulkEntries r
def uptoBulkEntry {H : Type} : Lit × DataW H → Nat
  | (.string bytes, d) => bytes.length + uptoBulk d + 1
  | (_, d) => uptoBulk d + 1
 end
def uptoSmall : (H : Type) → List (DataW H) → Bool := fun _ ds => decide (uptoBulkAll ds ≤ 1048576)
def OpenSpec.upto (s : _root_.Go.ChangeSpec) : _root_.Go.OpenSpec := { _root_.Go.OpenSpec.ofChange s with cond := some uptoSmall }

/-- 'turbojetlaw16.StartTells', WHERE WHAT IT READS IS OF BULK AT MOST 1048576: true; the input reads as it did. -/
def startTellsUptoRow : OpenClaim := { program := "ytjhgcbkdghcgmaa", sum := "3def8a24a0d47fa323d2523d030aff18ba07a97a5ef3fb9fa1727fecc734fff0", func := "turbojet/turbojetlaw16.StartTells", spec := "startTells", unfollowed := true, recurses := true, apart := false, narrowed := true }
def StartTellsUptoSaid : Prop := startTellsUptoRow.holds Try.pinned (OpenSpec.upto startTellsSpec)

/-- 'turbojetlaw16.StartBurns', WHERE WHAT IT READS IS OF BULK AT MOST 1048576: true; the input reads as it did. -/
def startBurnsUptoRow : OpenClaim := { program := "ytjhgcbkdghcgmaa", sum := "3def8a24a0d47fa323d2523d030aff18ba07a97a5ef3fb9fa1727fecc734fff0", func := "turbojet/turbojetlaw16.StartBurns", spec := "startBurns", unfollowed := true, recurses := true, apart := false, narrowed := true }
def StartBurnsUptoSaid : Prop := startBurnsUptoRow.holds Try.pinned (OpenSpec.upto startBurnsSpec)

/-- 'turbojetlaw16.StartStays', WHERE WHAT IT READS IS OF BULK AT MOST 1048576: true; the input reads as it did. -/
def startStaysUptoRow : OpenClaim := { program := "ytjhgcbkdghcgmaa", sum := "3def8a24a0d47fa323d2523d030aff18ba07a97a5ef3fb9fa1727fecc734fff0", func := "turbojet/turbojetlaw16.StartStays", spec := "startStays", unfollowed := true, recurses := true, apart := false, narrowed := true }
def StartStaysUptoSaid : Prop := startStaysUptoRow.holds Try.pinned (OpenSpec.upto startStaysSpec)

/-- 'turbojetlaw16.StartEdges', WHERE WHAT IT READS IS OF BULK AT MOST 1048576: true; the input reads as it did. -/
def startEdgesUptoRow : OpenClaim := { program := "ytjhgcbkdghcgmaa", sum := "3def8a24a0d47fa323d2523d030aff18ba07a97a5ef3fb9fa1727fecc734fff0", func := "turbojet/turbojetlaw16.StartEdges", spec := "startEdges", unfollowed := true, recurses := true, apart := false, narrowed := true }
def StartEdgesUptoSaid : Prop := startEdgesUptoRow.holds Try.pinned (OpenSpec.upto startEdgesSpec)

end Rows
end Go.Proofs.Ytjhgcbkdghcgmaa
