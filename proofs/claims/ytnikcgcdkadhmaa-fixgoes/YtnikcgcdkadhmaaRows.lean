/-
  No cell of these rows narrows 'for every input' (looked for: loops, veiled, ifaces, maps, wideKeys, modest, calm, conditions, laid).
  DERIVED. THE GIVEN ROWS OF THIS SEAT. 7 by the template 'for every input the law returns true; each argument reads behind the call as it read before'; 0 by the template 'total and deterministic' (their statements: YtnikcgcdkadhmaaTotals.lean).
  GIVEN WITH THE SEED: the statements are not yours to turn. If you find one false, say at which input.
  Laid BY PROGRAM, IN A SANDBOX (cutbox-rows.mjs): the forced cells as the released guide's own fill.sh prints them over the translation cfaa6263d0f2db14… (all of the seat's roots in one cut). By AI agents, Wed Nov 11 2026. No macro, syntax, notation, axiom, sorry.
-/
import Derived.Test.YtnikcgcdkadhmaaChecked
import GoSem.Claim
import GoSem.ClaimJoined
import GoSem.ClaimMapViews
import Derived.JoinedTies
import Derived.KernelRfl
namespace Go.Proofs.Ytnikcgcdkadhmaa
/- THE CELL 'sum', in the pinned program and in every row, IS THE sha256 OF THE DUMP (.gsa) THAT YtnikcgcdkadhmaaProg.lean LOADS. Nothing in Lean hashes anything: it is a label: what it is worth is what the hold of that sum in a sandbox is worth. -/
noncomputable def Try.pinned : Pinned := { name := "ytnikcgcdkadhmaa", sum := "cfaa6263d0f2db148038931874f945a317abc3c332fa0a7ff7358ee00f67a341", checked := Try.checked }
namespace Rows
def none {H : Type} : Left H := { results := [], args := [] }

/-- 'turbojetlaw01.FixNames': WHATEVER THE INPUT: true; the input reads as it did. -/
def fixNamesSpec : ChangeSpec := { name := "fixNames", fn := fun _ => fun
  | [] => { results := [.lit (.bool true)], args := [] }
  | _ => none }
def fixNamesRow : OpenClaim := { program := "ytnikcgcdkadhmaa", sum := "cfaa6263d0f2db148038931874f945a317abc3c332fa0a7ff7358ee00f67a341", func := "turbojet/turbojetlaw01.FixNames", spec := "fixNames", apart := false }
def FixNamesSaid : Prop := fixNamesRow.holds Try.pinned (OpenSpec.ofChange fixNamesSpec)

/-- ITS FALSE NEIGHBOUR: 'it returns false'. Refute it at one input. -/
def fixNamesWrong : ChangeSpec := { name := "fixNames", fn := fun _ => fun
  | [] => { results := [.lit (.bool false)], args := [] }
  | _ => none }
def FixNamesWrongFalsely : Prop := fixNamesRow.holds Try.pinned (OpenSpec.ofChange fixNamesWrong)

/-- 'turbojetlaw01.FixReckons': WHATEVER THE INPUT: true; the input reads as it did. -/
def fixReckonsSpec : ChangeSpec := { name := "fixReckons", fn := fun _ => fun
  | [d1, d2, d3] => { results := [.lit (.bool true)], args := [d1, d2, d3] }
  | _ => none }
def fixReckonsRow : OpenClaim := { program := "ytnikcgcdkadhmaa", sum := "cfaa6263d0f2db148038931874f945a317abc3c332fa0a7ff7358ee00f67a341", func := "turbojet/turbojetlaw01.FixReckons", spec := "fixReckons", apart := false }
def FixReckonsSaid : Prop := fixReckonsRow.holds Try.pinned (OpenSpec.ofChange fixReckonsSpec)

/-- ITS FALSE NEIGHBOUR: 'it returns false'. Refute it at one input. -/
def fixReckonsWrong : ChangeSpec := { name := "fixReckons", fn := fun _ => fun
  | [d1, d2, d3] => { results := [.lit (.bool false)], args := [d1, d2, d3] }
  | _ => none }
def FixReckonsWrongFalsely : Prop := fixReckonsRow.holds Try.pinned (OpenSpec.ofChange fixReckonsWrong)

/-- 'turbojetlaw01.FixGoes': WHATEVER THE INPUT: true; the input reads as it did. -/
def fixGoesSpec : ChangeSpec := { name := "fixGoes", fn := fun _ => fun
  | [d1, d2, d3, d4] => { results := [.lit (.bool true)], args := [d1, d2, d3, d4] }
  | _ => none }
def fixGoesRow : OpenClaim := { program := "ytnikcgcdkadhmaa", sum := "cfaa6263d0f2db148038931874f945a317abc3c332fa0a7ff7358ee00f67a341", func := "turbojet/turbojetlaw01.FixGoes", spec := "fixGoes", apart := false }
def FixGoesSaid : Prop := fixGoesRow.holds Try.pinned (OpenSpec.ofChange fixGoesSpec)

/-- ITS FALSE NEIGHBOUR: 'it returns false'. Refute it at one input. -/
def fixGoesWrong : ChangeSpec := { name := "fixGoes", fn := fun _ => fun
  | [d1, d2, d3, d4] => { results := [.lit (.bool false)], args := [d1, d2, d3, d4] }
  | _ => none }
def FixGoesWrongFalsely : Prop := fixGoesRow.holds Try.pinned (OpenSpec.ofChange fixGoesWrong)

/-- 'turbojetlaw01.FixStays': WHATEVER THE INPUT: true; the input reads as it did. -/
def fixStaysSpec : ChangeSpec := { name := "fixStays", fn := fun _ => fun
  | [d1, d2, d3] => { results := [.lit (.bool true)], args := [d1, d2, d3] }
  | _ => none }
def fixStaysRow : OpenClaim := { program := "ytnikcgcdkadhmaa", sum := "cfaa6263d0f2db148038931874f945a317abc3c332fa0a7ff7358ee00f67a341", func := "turbojet/turbojetlaw01.FixStays", spec := "fixStays", apart := false }
def FixStaysSaid : Prop := fixStaysRow.holds Try.pinned (OpenSpec.ofChange fixStaysSpec)

/-- ITS FALSE NEIGHBOUR: 'it returns false'. Refute it at one input. -/
def fixStaysWrong : ChangeSpec := { name := "fixStays", fn := fun _ => fun
  | [d1, d2, d3] => { results := [.lit (.bool false)], args := [d1, d2, d3] }
  | _ => none }
def FixStaysWrongFalsely : Prop := fixStaysRow.holds Try.pinned (OpenSpec.ofChange fixStaysWrong)

/-- 'turbojetlaw01.FixOrder': WHATEVER THE INPUT: true; the input reads as it did. -/
def fixOrderSpec : ChangeSpec := { name := "fixOrder", fn := fun _ => fun
  | [d1, d2, d3] => { results := [.lit (.bool true)], args := [d1, d2, d3] }
  | _ => none }
def fixOrderRow : OpenClaim := { program := "ytnikcgcdkadhmaa", sum := "cfaa6263d0f2db148038931874f945a317abc3c332fa0a7ff7358ee00f67a341", func := "turbojet/turbojetlaw01.FixOrder", spec := "fixOrder", apart := false }
def FixOrderSaid : Prop := fixOrderRow.holds Try.pinned (OpenSpec.ofChange fixOrderSpec)

/-- ITS FALSE NEIGHBOUR: 'it returns false'. Refute it at one input. -/
def fixOrderWrong : ChangeSpec := { name := "fixOrder", fn := fun _ => fun
  | [d1, d2, d3] => { results := [.lit (.bool false)], args := [d1, d2, d3] }
  | _ => none }
def FixOrderWrongFalsely : Prop := fixOrderRow.holds Try.pinned (OpenSpec.ofChange fixOrderWrong)

/-- 'turbojetlaw01.FixSlews': WHATEVER THE INPUT: true; the input reads as it did. -/
def fixSlewsSpec : ChangeSpec := { name := "fixSlews", fn := fun _ => fun
  | [d1, d2, d3] => { results := [.lit (.bool true)], args := [d1, d2, d3] }
  | _ => none }
def fixSlewsRow : OpenClaim := { program := "ytnikcgcdkadhmaa", sum := "cfaa6263d0f2db148038931874f945a317abc3c332fa0a7ff7358ee00f67a341", func := "turbojet/turbojetlaw01.FixSlews", spec := "fixSlews", apart := false }
def FixSlewsSaid : Prop := fixSlewsRow.holds Try.pinned (OpenSpec.ofChange fixSlewsSpec)

/-- ITS FALSE NEIGHBOUR: 'it returns false'. Refute it at one input. -/
def fixSlewsWrong : ChangeSpec := { name := "fixSlews", fn := fun _ => fun
  | [d1, d2, d3] => { results := [.lit (.bool false)], args := [d1, d2, d3] }
  | _ => none }
def FixSlewsWrongFalsely : Prop := fixSlewsRow.holds Try.pinned (OpenSpec.ofChange fixSlewsWrong)

/-- 'turbojetlaw01.FixDivides': WHATEVER THE INPUT: true; the input reads as it did. -/
def fixDividesSpec : ChangeSpec := { name := "fixDivides", fn := fun _ => fun
  | [d1, d2] => { results := [.lit (.bool true)], args := [d1, d2] }
  | _ => none }
def fixDividesRow : OpenClaim := { program := "ytnikcgcdkadhmaa", sum := "cfaa6263d0f2db148038931874f945a317abc3c332fa0a7ff7358ee00f67a341", func := "turbojet/turbojetlaw01.FixDivides", spec := "fixDivides", apart := false }
def FixDividesSaid : Prop := fixDividesRow.holds Try.pinned (OpenSpec.ofChange fixDividesSpec)

/-- ITS FALSE NEIGHBOUR: 'it returns false'. Refute it at one input. -/
def fixDividesWrong : ChangeSpec := { name := "fixDivides", fn := fun _ => fun
  | [d1, d2] => { results := [.lit (.bool false)], args := [d1, d2] }
  | _ => none }
def FixDividesWrongFalsely : Prop := fixDividesRow.holds Try.pinned (OpenSpec.ofChange fixDividesWrong)

/- THE SECOND FORM. 'bulk': how many values and letters a reading holds, each counted each time it is reached (what is shared counts as often as it is met; a slice's spare places count too). A statement '..UptoSaid' is the law's where the arguments, and the package variables that the reading takes, are together of bulk at most 1048576: NARROWER than '..Said'. Prove '..Said' where nothing that the law and all that it calls make is longer than what came in: it says more and counts as full. Else prove '..UptoSaid'. A law counts once. -/
mutual
def uptoBulk {H : Type} : DataW H → Nat
  | .lit (.string bytes) => bytes.length + 1
  | .lit _ => 1
  | .nil => 1
  | .ptr d => uptoBulk d + 1
  | .slice elems spare => uptoBulkAll elems + uptoBulkAll spare + 1
  | .agg parts => uptoBulkAll parts + 1
  | .iface _ d => uptoBulk d + 1
  | .map entries => uptoBulkEntries entries + 1
  | .held _ => 1
def uptoBulkAll {H : Type} : List (DataW H) → Nat
  | [] => 0
  | d :: r => uptoBulk d + uptoBulkAll r
def uptoBulkEntries {H : Type} : List (Lit × DataW H) → Nat
  | [] => 0
  | x :: r => uptoBulkEntry x + uptoBulkEntries r
def uptoBulkEntry {H : Type} : Lit × DataW H → Nat
  | (.string bytes, d) => bytes.length + uptoBulk d + 1
  | (_, d) => uptoBulk d + 1
 end
def uptoSmall : (H : Type) → List (DataW H) → Bool := fun _ ds => decide (uptoBulkAll ds ≤ 1048576)
def OpenSpec.upto (s : _root_.Go.ChangeSpec) : _root_.Go.OpenSpec := { _root_.Go.OpenSpec.ofChange s with cond := some uptoSmall }

/-- 'turbojetlaw01.FixNames', WHERE WHAT IT READS IS OF BULK AT MOST 1048576: true; the input reads as it did. -/
def fixNamesUptoRow : OpenClaim := { program := "ytnikcgcdkadhmaa", sum := "cfaa6263d0f2db148038931874f945a317abc3c332fa0a7ff7358ee00f67a341", func := "turbojet/turbojetlaw01.FixNames", spec := "fixNames", apart := false, narrowed := true }
def FixNamesUptoSaid : Prop := fixNamesUptoRow.holds Try.pinned (OpenSpec.upto fixNamesSpec)

/-- 'turbojetlaw01.FixReckons', WHERE WHAT IT READS IS OF BULK AT MOST 1048576: true; the input reads as it did. -/
def fixReckonsUptoRow : OpenClaim := { program := "ytnikcgcdkadhmaa", sum := "cfaa6263d0f2db148038931874f945a317abc3c332fa0a7ff7358ee00f67a341", func := "turbojet/turbojetlaw01.FixReckons", spec := "fixReckons", apart := false, narrowed := true }
def FixReckonsUptoSaid : Prop := fixReckonsUptoRow.holds Try.pinned (OpenSpec.upto fixReckonsSpec)

/-- 'turbojetlaw01.FixGoes', WHERE WHAT IT READS IS OF BULK AT MOST 1048576: true; the input reads as it did. -/
def fixGoesUptoRow : OpenClaim := { program := "ytnikcgcdkadhmaa", sum := "cfaa6263d0f2db148038931874f945a317abc3c332fa0a7ff7358ee00f67a341", func := "turbojet/turbojetlaw01.FixGoes", spec := "fixGoes", apart := false, narrowed := true }
def FixGoesUptoSaid : Prop := fixGoesUptoRow.holds Try.pinned (OpenSpec.upto fixGoesSpec)

/-- 'turbojetlaw01.FixStays', WHERE WHAT IT READS IS OF BULK AT MOST 1048576: true; the input reads as it did. -/
def fixStaysUptoRow : OpenClaim := { program := "ytnikcgcdkadhmaa", sum := "cfaa6263d0f2db148038931874f945a317abc3c332fa0a7ff7358ee00f67a341", func := "turbojet/turbojetlaw01.FixStays", spec := "fixStays", apart := false, narrowed := true }
def FixStaysUptoSaid : Prop := fixStaysUptoRow.holds Try.pinned (OpenSpec.upto fixStaysSpec)

/-- 'turbojetlaw01.FixOrder', WHERE WHAT IT READS IS OF BULK AT MOST 1048576: true; the input reads as it did. -/
def fixOrderUptoRow : OpenClaim := { program := "ytnikcgcdkadhmaa", sum := "cfaa6263d0f2db148038931874f945a317abc3c332fa0a7ff7358ee00f67a341", func := "turbojet/turbojetlaw01.FixOrder", spec := "fixOrder", apart := false, narrowed := true }
def FixOrderUptoSaid : Prop := fixOrderUptoRow.holds Try.pinned (OpenSpec.upto fixOrderSpec)

/-- 'turbojetlaw01.FixSlews', WHERE WHAT IT READS IS OF BULK AT MOST 1048576: true; the input reads as it did. -/
def fixSlewsUptoRow : OpenClaim := { program := "ytnikcgcdkadhmaa", sum := "cfaa6263d0f2db148038931874f945a317abc3c332fa0a7ff7358ee00f67a341", func := "turbojet/turbojetlaw01.FixSlews", spec := "fixSlews", apart := false, narrowed := true }
def FixSlewsUptoSaid : Prop := fixSlewsUptoRow.holds Try.pinned (OpenSpec.upto fixSlewsSpec)

/-- 'turbojetlaw01.FixDivides', WHERE WHAT IT READS IS OF BULK AT MOST 1048576: true; the input reads as it did. -/
def fixDividesUptoRow : OpenClaim := { program := "ytnikcgcdkadhmaa", sum := "cfaa6263d0f2db148038931874f945a317abc3c332fa0a7ff7358ee00f67a341", func := "turbojet/turbojetlaw01.FixDivides", spec := "fixDivides", apart := false, narrowed := true }
def FixDividesUptoSaid : Prop := fixDividesUptoRow.holds Try.pinned (OpenSpec.upto fixDividesSpec)

end Rows
end Go.Proofs.Ytnikcgcdkadhmaa
