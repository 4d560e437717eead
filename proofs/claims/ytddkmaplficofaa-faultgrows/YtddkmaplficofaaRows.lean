/-
  No cell of these rows narrows 'for every input' (looked for: loops, veiled, ifaces, maps, wideKeys, modest, calm, conditions, laid).
  DERIVED. THE GIVEN ROWS OF THIS SEAT. 6 by the template 'for every input the law returns true; each argument reads behind the call as it read before'; 0 by the template 'total and deterministic' (their statements: YtddkmaplficofaaTotals.lean).
  GIVEN WITH THE SEED: the statements are not yours to turn. If you find one false, say at which input.
  Laid BY PROGRAM, IN A SANDBOX (cutbox-rows.mjs): the forced cells as the released guide's own fill.sh prints them over the translation 618fda165173adff… (all of the seat's roots in one cut). By AI agents, Wed Nov 11 2026. No macro, syntax, notation, axiom, sorry.
-/
import Derived.Test.YtddkmaplficofaaChecked
import GoSem.Claim
import GoSem.ClaimJoined
import GoSem.ClaimMapViews
import Derived.JoinedTies
import Derived.KernelRfl
namespace Go.Proofs.Ytddkmaplficofaa
/- THE CELL 'sum', in the pinned program and in every row, IS THE sha256 OF THE DUMP (.gsa) THAT YtddkmaplficofaaProg.lean LOADS. Nothing in Lean hashes anything: it is a label: what it is worth is what the hold of that sum in a sandbox is worth. -/
noncomputable def Try.pinned : Pinned := { name := "ytddkmaplficofaa", sum := "618fda165173adff7ba809aa27e49f3f825ef18fdc255af85f3af20d046ca0d1", checked := Try.checked }
namespace Rows
def none {H : Type} : Left H := { results := [], args := [] }

/-- 'turbojetlaw13.FaultTells': WHATEVER THE INPUT: true; the input reads as it did. -/
def faultTellsSpec : ChangeSpec := { name := "faultTells", fn := fun _ => fun
  | [d] => { results := [.lit (.bool true)], args := [d] }
  | _ => none }
def faultTellsRow : OpenClaim := { program := "ytddkmaplficofaa", sum := "618fda165173adff7ba809aa27e49f3f825ef18fdc255af85f3af20d046ca0d1", func := "turbojet/turbojetlaw13.FaultTells", spec := "faultTells", inPlace := ["slices.overlaps[turbojet/api.Record]"], unfollowed := true, recurses := true, apart := false }
def FaultTellsSaid : Prop := faultTellsRow.holds Try.pinned (OpenSpec.ofChange faultTellsSpec)

/-- ITS FALSE NEIGHBOUR: 'it returns false'. Refute it at one input. -/
def faultTellsWrong : ChangeSpec := { name := "faultTells", fn := fun _ => fun
  | [d] => { results := [.lit (.bool false)], args := [d] }
  | _ => none }
def FaultTellsWrongFalsely : Prop := faultTellsRow.holds Try.pinned (OpenSpec.ofChange faultTellsWrong)

/-- 'turbojetlaw13.FaultEdges': WHATEVER THE INPUT: true; the input reads as it did. -/
def faultEdgesSpec : ChangeSpec := { name := "faultEdges", fn := fun _ => fun
  | [d1, d2, d3, d4] => { results := [.lit (.bool true)], args := [d1, d2, d3, d4] }
  | _ => none }
def faultEdgesRow : OpenClaim := { program := "ytddkmaplficofaa", sum := "618fda165173adff7ba809aa27e49f3f825ef18fdc255af85f3af20d046ca0d1", func := "turbojet/turbojetlaw13.FaultEdges", spec := "faultEdges", inPlace := ["slices.overlaps[turbojet/api.Record]"], unfollowed := true, recurses := true, apart := false }
def FaultEdgesSaid : Prop := faultEdgesRow.holds Try.pinned (OpenSpec.ofChange faultEdgesSpec)

/-- ITS FALSE NEIGHBOUR: 'it returns false'. Refute it at one input. -/
def faultEdgesWrong : ChangeSpec := { name := "faultEdges", fn := fun _ => fun
  | [d1, d2, d3, d4] => { results := [.lit (.bool false)], args := [d1, d2, d3, d4] }
  | _ => none }
def FaultEdgesWrongFalsely : Prop := faultEdgesRow.holds Try.pinned (OpenSpec.ofChange faultEdgesWrong)

/-- 'turbojetlaw13.FaultCounts': WHATEVER THE INPUT: true; the input reads as it did. -/
def faultCountsSpec : ChangeSpec := { name := "faultCounts", fn := fun _ => fun
  | [d1, d2] => { results := [.lit (.bool true)], args := [d1, d2] }
  | _ => none }
def faultCountsRow : OpenClaim := { program := "ytddkmaplficofaa", sum := "618fda165173adff7ba809aa27e49f3f825ef18fdc255af85f3af20d046ca0d1", func := "turbojet/turbojetlaw13.FaultCounts", spec := "faultCounts", inPlace := ["slices.overlaps[turbojet/api.Record]"], unfollowed := true, recurses := true, apart := false }
def FaultCountsSaid : Prop := faultCountsRow.holds Try.pinned (OpenSpec.ofChange faultCountsSpec)

/-- ITS FALSE NEIGHBOUR: 'it returns false'. Refute it at one input. -/
def faultCountsWrong : ChangeSpec := { name := "faultCounts", fn := fun _ => fun
  | [d1, d2] => { results := [.lit (.bool false)], args := [d1, d2] }
  | _ => none }
def FaultCountsWrongFalsely : Prop := faultCountsRow.holds Try.pinned (OpenSpec.ofChange faultCountsWrong)

/-- 'turbojetlaw13.FaultGrows': WHATEVER THE INPUT: true; the input reads as it did. -/
def faultGrowsSpec : ChangeSpec := { name := "faultGrows", fn := fun _ => fun
  | [d1, d2] => { results := [.lit (.bool true)], args := [d1, d2] }
  | _ => none }
def faultGrowsRow : OpenClaim := { program := "ytddkmaplficofaa", sum := "618fda165173adff7ba809aa27e49f3f825ef18fdc255af85f3af20d046ca0d1", func := "turbojet/turbojetlaw13.FaultGrows", spec := "faultGrows", inPlace := ["slices.overlaps[turbojet/api.Record]"], unfollowed := true, recurses := true, apart := false }
def FaultGrowsSaid : Prop := faultGrowsRow.holds Try.pinned (OpenSpec.ofChange faultGrowsSpec)

/-- ITS FALSE NEIGHBOUR: 'it returns false'. Refute it at one input. -/
def faultGrowsWrong : ChangeSpec := { name := "faultGrows", fn := fun _ => fun
  | [d1, d2] => { results := [.lit (.bool false)], args := [d1, d2] }
  | _ => none }
def FaultGrowsWrongFalsely : Prop := faultGrowsRow.holds Try.pinned (OpenSpec.ofChange faultGrowsWrong)

/-- 'turbojetlaw13.FaultCodes': WHATEVER THE INPUT: true; the input reads as it did. -/
def faultCodesSpec : ChangeSpec := { name := "faultCodes", fn := fun _ => fun
  | [d1, d2] => { results := [.lit (.bool true)], args := [d1, d2] }
  | _ => none }
def faultCodesRow : OpenClaim := { program := "ytddkmaplficofaa", sum := "618fda165173adff7ba809aa27e49f3f825ef18fdc255af85f3af20d046ca0d1", func := "turbojet/turbojetlaw13.FaultCodes", spec := "faultCodes", inPlace := ["slices.overlaps[turbojet/api.Record]"], unfollowed := true, recurses := true, apart := false }
def FaultCodesSaid : Prop := faultCodesRow.holds Try.pinned (OpenSpec.ofChange faultCodesSpec)

/-- ITS FALSE NEIGHBOUR: 'it returns false'. Refute it at one input. -/
def faultCodesWrong : ChangeSpec := { name := "faultCodes", fn := fun _ => fun
  | [d1, d2] => { results := [.lit (.bool false)], args := [d1, d2] }
  | _ => none }
def FaultCodesWrongFalsely : Prop := faultCodesRow.holds Try.pinned (OpenSpec.ofChange faultCodesWrong)

/-- 'turbojetlaw13.FaultOrder': WHATEVER THE INPUT: true; the input reads as it did. -/
def faultOrderSpec : ChangeSpec := { name := "faultOrder", fn := fun _ => fun
  | [d1, d2] => { results := [.lit (.bool true)], args := [d1, d2] }
  | _ => none }
def faultOrderRow : OpenClaim := { program := "ytddkmaplficofaa", sum := "618fda165173adff7ba809aa27e49f3f825ef18fdc255af85f3af20d046ca0d1", func := "turbojet/turbojetlaw13.FaultOrder", spec := "faultOrder", inPlace := ["slices.overlaps[turbojet/api.Record]"], unfollowed := true, recurses := true, apart := false }
def FaultOrderSaid : Prop := faultOrderRow.holds Try.pinned (OpenSpec.ofChange faultOrderSpec)

/-- ITS FALSE NEIGHBOUR: 'it returns false'. Refute it at one input. -/
def faultOrderWrong : ChangeSpec := { name := "faultOrder", fn := fun _ => fun
  | [d1, d2] => { results := [.lit (.bool false)], args := [d1, d2] }
  | _ => none }
def FaultOrderWrongFalsely : Prop := faultOrderRow.holds Try.pinned (OpenSpec.ofChange faultOrderWrong)

/- THE SECOND FORM. 'bulk': how many values and letters a reading holds, each counted each time it is reached (what is shared counts as often as it is met; a slice's spare places count too). A statement '..UptoSaid' is the law's where the arguments, and the package variables that the reading takes, are together of bulk at most 1048576: NARROWER than '..Said'. Prove '..Said' where nothing that the law and all that it calls make is longer than what came in: it says more and counts as full. Else prove '..UptoSaid'. A law counts once. -/
mutual
def uptoBulk {H : Type} : DataW H → Nat
  | .lit (.string bytes) => bytes.length + 1
  | .lit _ => 1
  | .nil => 1
  | .ptr d => uptoBulk d + 1
  | .slice elems spare => uptoBulkAll elems + uptoBulkAll spare + 1
  | .agg parts => uptoBulkAll parts + 1
  | .iface _ d => uptoBulk d + 1
  | .map entries => uptoBulkEntries entries + 1
  | .held _ => 1
def uptoBulkAll {H : Type} : List (DataW H) → Nat
  | [] => 0
  | d :: r => uptoBulk d + uptoBulkAll r
def uptoBulkEntries {H : Type} : List (Lit × DataW H) → Nat
  | [] => 0
  | x :: r => uptoBulkEntry x + uptoBulkEntries r
def uptoBulkEntry {H : Type} : Lit × DataW H → Nat
  | (.string bytes, d) => bytes.length + uptoBulk d + 1
  | (_, d) => uptoBulk d + 1
 end
def uptoSmall : (H : Type) → List (DataW H) → Bool := fun _ ds => decide (uptoBulkAll ds ≤ 1048576)
def OpenSpec.upto (s : _root_.Go.ChangeSpec) : _root_.Go.OpenSpec := { _root_.Go.OpenSpec.ofChange s with cond := some uptoSmall }

/-- 'turbojetlaw13.FaultTells', WHERE WHAT IT READS IS OF BULK AT MOST 1048576: true; the input reads as it did. -/
def faultTellsUptoRow : OpenClaim := { program := "ytddkmaplficofaa", sum := "618fda165173adff7ba809aa27e49f3f825ef18fdc255af85f3af20d046ca0d1", func := "turbojet/turbojetlaw13.FaultTells", spec := "faultTells", inPlace := ["slices.overlaps[turbojet/api.Record]"], unfollowed := true, recurses := true, apart := false, narrowed := true }
def FaultTellsUptoSaid : Prop := faultTellsUptoRow.holds Try.pinned (OpenSpec.upto faultTellsSpec)

/-- 'turbojetlaw13.FaultEdges', WHERE WHAT IT READS IS OF BULK AT MOST 1048576: true; the input reads as it did. -/
def faultEdgesUptoRow : OpenClaim := { program := "ytddkmaplficofaa", sum := "618fda165173adff7ba809aa27e49f3f825ef18fdc255af85f3af20d046ca0d1", func := "turbojet/turbojetlaw13.FaultEdges", spec := "faultEdges", inPlace := ["slices.overlaps[turbojet/api.Record]"], unfollowed := true, recurses := true, apart := false, narrowed := true }
def FaultEdgesUptoSaid : Prop := faultEdgesUptoRow.holds Try.pinned (OpenSpec.upto faultEdgesSpec)

/-- 'turbojetlaw13.FaultCounts', WHERE WHAT IT READS IS OF BULK AT MOST 1048576: true; the input reads as it did. -/
def faultCountsUptoRow : OpenClaim := { program := "ytddkmaplficofaa", sum := "618fda165173adff7ba809aa27e49f3f825ef18fdc255af85f3af20d046ca0d1", func := "turbojet/turbojetlaw13.FaultCounts", spec := "faultCounts", inPlace := ["slices.overlaps[turbojet/api.Record]"], unfollowed := true, recurses := true, apart := false, narrowed := true }
def FaultCountsUptoSaid : Prop := faultCountsUptoRow.holds Try.pinned (OpenSpec.upto faultCountsSpec)

/-- 'turbojetlaw13.FaultGrows', WHERE WHAT IT READS IS OF BULK AT MOST 1048576: true; the input reads as it did. -/
def faultGrowsUptoRow : OpenClaim := { program := "ytddkmaplficofaa", sum := "618fda165173adff7ba809aa27e49f3f825ef18fdc255af85f3af20d046ca0d1", func := "turbojet/turbojetlaw13.FaultGrows", spec := "faultGrows", inPlace := ["slices.overlaps[turbojet/api.Record]"], unfollowed := true, recurses := true, apart := false, narrowed := true }
def FaultGrowsUptoSaid : Prop := faultGrowsUptoRow.holds Try.pinned (OpenSpec.upto faultGrowsSpec)

/-- 'turbojetlaw13.FaultCodes', WHERE WHAT IT READS IS OF BULK AT MOST 1048576: true; the input reads as it did. -/
def faultCodesUptoRow : OpenClaim := { program := "ytddkmaplficofaa", sum := "618fda165173adff7ba809aa27e49f3f825ef18fdc255af85f3af20d046ca0d1", func := "turbojet/turbojetlaw13.FaultCodes", spec := "faultCodes", inPlace := ["slices.overlaps[turbojet/api.Record]"], unfollowed := true, recurses := true, apart := false, narrowed := true }
def FaultCodesUptoSaid : Prop := faultCodesUptoRow.holds Try.pinned (OpenSpec.upto faultCodesSpec)

/-- 'turbojetlaw13.FaultOrder', WHERE WHAT IT READS IS OF BULK AT MOST 1048576: true; the input reads as it did. -/
def faultOrderUptoRow : OpenClaim := { program := "ytddkmaplficofaa", sum := "618fda165173adff7ba809aa27e49f3f825ef18fdc255af85f3af20d046ca0d1", func := "turbojet/turbojetlaw13.FaultOrder", spec := "faultOrder", inPlace := ["slices.overlaps[turbojet/api.Record]"], unfollowed := true, recurses := true, apart := false, narrowed := true }
def FaultOrderUptoSaid : Prop := faultOrderUptoRow.holds Try.pinned (OpenSpec.upto faultOrderSpec)

end Rows
end Go.Proofs.Ytddkmaplficofaa
