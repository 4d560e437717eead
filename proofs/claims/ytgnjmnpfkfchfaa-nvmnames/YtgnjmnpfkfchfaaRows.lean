/-
  No cell of these rows narrows 'for every input' (looked for: loops, veiled, ifaces, maps, wideKeys, modest, calm, conditions, laid).
  DERIVED. THE GIVEN ROWS OF THIS SEAT. 5 by the template 'for every input the law returns true; each argument reads behind the call as it read before'; 0 by the template 'total and deterministic' (their statements: YtgnjmnpfkfchfaaTotals.lean).
  GIVEN WITH THE SEED: the statements are not yours to turn. If you find one false, say at which input.
  Laid BY PROGRAM, IN A SANDBOX (cutbox-rows.mjs): the forced cells as the released guide's own fill.sh prints them over the translation a43cf204d384a508… (all of the seat's roots in one cut). By AI agents, Wed Nov 11 2026. No macro, syntax, notation, axiom, sorry.
-/
import Derived.Test.YtgnjmnpfkfchfaaChecked
import GoSem.Claim
import GoSem.ClaimJoined
import GoSem.ClaimMapViews
import Derived.JoinedTies
import Derived.KernelRfl
namespace Go.Proofs.Ytgnjmnpfkfchfaa
/- THE CELL 'sum', in the pinned program and in every row, IS THE sha256 OF THE DUMP (.gsa) THAT YtgnjmnpfkfchfaaProg.lean LOADS. Nothing in Lean hashes anything: it is a label: what it is worth is what the hold of that sum in a sandbox is worth. -/
noncomputable def Try.pinned : Pinned := { name := "ytgnjmnpfkfchfaa", sum := "a43cf204d384a5083ed71f6515c113785e2fc6ce87cc9e5fe7f3f8ab9901bbec", checked := Try.checked }
namespace Rows
def none {H : Type} : Left H := { results := [], args := [] }

/-- 'turbojetlaw11.NvmNames': WHATEVER THE INPUT: true; the input reads as it did. -/
def nvmNamesSpec : ChangeSpec := { name := "nvmNames", fn := fun _ => fun
  | [] => { results := [.lit (.bool true)], args := [] }
  | _ => none }
def nvmNamesRow : OpenClaim := { program := "ytgnjmnpfkfchfaa", sum := "a43cf204d384a5083ed71f6515c113785e2fc6ce87cc9e5fe7f3f8ab9901bbec", func := "turbojet/turbojetlaw11.NvmNames", spec := "nvmNames", inPlace := ["sync/atomic.AddInt64", "sync/atomic.LoadInt64"], apart := false }
def NvmNamesSaid : Prop := nvmNamesRow.holds Try.pinned (OpenSpec.ofChange nvmNamesSpec)

/-- ITS FALSE NEIGHBOUR: 'it returns false'. Refute it at one input. -/
def nvmNamesWrong : ChangeSpec := { name := "nvmNames", fn := fun _ => fun
  | [] => { results := [.lit (.bool false)], args := [] }
  | _ => none }
def NvmNamesWrongFalsely : Prop := nvmNamesRow.holds Try.pinned (OpenSpec.ofChange nvmNamesWrong)

/-- 'turbojetlaw11.NvmPlays': WHATEVER THE INPUT: true; the input reads as it did. -/
def nvmPlaysSpec : ChangeSpec := { name := "nvmPlays", fn := fun _ => fun
  | [d1, d2] => { results := [.lit (.bool true)], args := [d1, d2] }
  | _ => none }
def nvmPlaysRow : OpenClaim := { program := "ytgnjmnpfkfchfaa", sum := "a43cf204d384a5083ed71f6515c113785e2fc6ce87cc9e5fe7f3f8ab9901bbec", func := "turbojet/turbojetlaw11.NvmPlays", spec := "nvmPlays", inPlace := ["sync/atomic.AddInt64", "sync/atomic.LoadInt64"], apart := false }
def NvmPlaysSaid : Prop := nvmPlaysRow.holds Try.pinned (OpenSpec.ofChange nvmPlaysSpec)

/-- ITS FALSE NEIGHBOUR: 'it returns false'. Refute it at one input. -/
def nvmPlaysWrong : ChangeSpec := { name := "nvmPlays", fn := fun _ => fun
  | [d1, d2] => { results := [.lit (.bool false)], args := [d1, d2] }
  | _ => none }
def NvmPlaysWrongFalsely : Prop := nvmPlaysRow.holds Try.pinned (OpenSpec.ofChange nvmPlaysWrong)

/-- 'turbojetlaw11.NvmCuts': WHATEVER THE INPUT: true; the input reads as it did. -/
def nvmCutsSpec : ChangeSpec := { name := "nvmCuts", fn := fun _ => fun
  | [d1, d2] => { results := [.lit (.bool true)], args := [d1, d2] }
  | _ => none }
def nvmCutsRow : OpenClaim := { program := "ytgnjmnpfkfchfaa", sum := "a43cf204d384a5083ed71f6515c113785e2fc6ce87cc9e5fe7f3f8ab9901bbec", func := "turbojet/turbojetlaw11.NvmCuts", spec := "nvmCuts", inPlace := ["sync/atomic.AddInt64", "sync/atomic.LoadInt64"], apart := false }
def NvmCutsSaid : Prop := nvmCutsRow.holds Try.pinned (OpenSpec.ofChange nvmCutsSpec)

/-- ITS FALSE NEIGHBOUR: 'it returns false'. Refute it at one input. -/
def nvmCutsWrong : ChangeSpec := { name := "nvmCuts", fn := fun _ => fun
  | [d1, d2] => { results := [.lit (.bool false)], args := [d1, d2] }
  | _ => none }
def NvmCutsWrongFalsely : Prop := nvmCutsRow.holds Try.pinned (OpenSpec.ofChange nvmCutsWrong)

/-- 'turbojetlaw11.NvmNil': WHATEVER THE INPUT: true; the input reads as it did. -/
def nvmNilSpec : ChangeSpec := { name := "nvmNil", fn := fun _ => fun
  | [d1, d2] => { results := [.lit (.bool true)], args := [d1, d2] }
  | _ => none }
def nvmNilRow : OpenClaim := { program := "ytgnjmnpfkfchfaa", sum := "a43cf204d384a5083ed71f6515c113785e2fc6ce87cc9e5fe7f3f8ab9901bbec", func := "turbojet/turbojetlaw11.NvmNil", spec := "nvmNil", inPlace := ["sync/atomic.AddInt64", "sync/atomic.LoadInt64"], apart := false }
def NvmNilSaid : Prop := nvmNilRow.holds Try.pinned (OpenSpec.ofChange nvmNilSpec)

/-- ITS FALSE NEIGHBOUR: 'it returns false'. Refute it at one input. -/
def nvmNilWrong : ChangeSpec := { name := "nvmNil", fn := fun _ => fun
  | [d1, d2] => { results := [.lit (.bool false)], args := [d1, d2] }
  | _ => none }
def NvmNilWrongFalsely : Prop := nvmNilRow.holds Try.pinned (OpenSpec.ofChange nvmNilWrong)

/-- 'turbojetlaw11.NvmLast': WHATEVER THE INPUT: true; the input reads as it did. -/
def nvmLastSpec : ChangeSpec := { name := "nvmLast", fn := fun _ => fun
  | [d] => { results := [.lit (.bool true)], args := [d] }
  | _ => none }
def nvmLastRow : OpenClaim := { program := "ytgnjmnpfkfchfaa", sum := "a43cf204d384a5083ed71f6515c113785e2fc6ce87cc9e5fe7f3f8ab9901bbec", func := "turbojet/turbojetlaw11.NvmLast", spec := "nvmLast", inPlace := ["sync/atomic.AddInt64", "sync/atomic.LoadInt64"], apart := false }
def NvmLastSaid : Prop := nvmLastRow.holds Try.pinned (OpenSpec.ofChange nvmLastSpec)

/-- ITS FALSE NEIGHBOUR: 'it returns false'. Refute it at one input. -/
def nvmLastWrong : ChangeSpec := { name := "nvmLast", fn := fun _ => fun
  | [d] => { results := [.lit (.bool false)], args := [d] }
  | _ => none }
def NvmLastWrongFalsely : Prop := nvmLastRow.holds Try.pinned (OpenSpec.ofChange nvmLastWrong)

/- THE SECOND FORM. 'bulk': how many values and letters a reading holds, each counted each time it is reached (what is shared counts as often as it is met; a slice's spare places count too). A statement '..UptoSaid' is the law's where the arguments, and the package variables that the reading takes, are together of bulk at most 1048576: NARROWER than '..Said'. Prove '..Said' where nothing that the law and all that it calls make is longer than what came in: it says more and counts as full. Else prove '..UptoSaid'. A law counts once. -/
mutual
def uptoBulk {H : Type} : DataW H → Nat
  | .lit (.string bytes) => bytes.length + 1
  | .lit _ => 1
  | .nil => 1
  | .ptr d => uptoBulk d + 1
  | .slice elems spare => uptoBulkAll elems + uptoBulkAll spare + 1
  | .agg parts => uptoBulkAll parts + 1
  | .iface _ d => uptoBulk d + 1
  | .map entries => uptoBulkEntries entries + 1
  | .held _ => 1
def uptoBulkAll {H : Type} : List (DataW H) → Nat
  | [] => 0
  | d :: r => uptoBulk d + uptoBulkAll r
def uptoBulkEntries {H : Type} : List (Lit × DataW H) → Nat
  | [] => 0
  | x :: r => uptoBulkEntry x + uptoBulkEntries r
def uptoBulkEntry {H : Type} : Lit × DataW H → Nat
  | (.string bytes, d) => bytes.length + uptoBulk d + 1
  | (_, d) => uptoBulk d + 1
 end
def uptoSmall : (H : Type) → List (DataW H) → Bool := fun _ ds => decide (uptoBulkAll ds ≤ 1048576)
def OpenSpec.upto (s : _root_.Go.ChangeSpec) : _root_.Go.OpenSpec := { _root_.Go.OpenSpec.ofChange s with cond := some uptoSmall }

/-- 'turbojetlaw11.NvmNames', WHERE WHAT IT READS IS OF BULK AT MOST 1048576: true; the input reads as it did. -/
def nvmNamesUptoRow : OpenClaim := { program := "ytgnjmnpfkfchfaa", sum := "a43cf204d384a5083ed71f6515c113785e2fc6ce87cc9e5fe7f3f8ab9901bbec", func := "turbojet/turbojetlaw11.NvmNames", spec := "nvmNames", inPlace := ["sync/atomic.AddInt64", "sync/atomic.LoadInt64"], apart := false, narrowed := true }
def NvmNamesUptoSaid : Prop := nvmNamesUptoRow.holds Try.pinned (OpenSpec.upto nvmNamesSpec)

/-- 'turbojetlaw11.NvmPlays', WHERE WHAT IT READS IS OF BULK AT MOST 1048576: true; the input reads as it did. -/
def nvmPlaysUptoRow : OpenClaim := { program := "ytgnjmnpfkfchfaa", sum := "a43cf204d384a5083ed71f6515c113785e2fc6ce87cc9e5fe7f3f8ab9901bbec", func := "turbojet/turbojetlaw11.NvmPlays", spec := "nvmPlays", inPlace := ["sync/atomic.AddInt64", "sync/atomic.LoadInt64"], apart := false, narrowed := true }
def NvmPlaysUptoSaid : Prop := nvmPlaysUptoRow.holds Try.pinned (OpenSpec.upto nvmPlaysSpec)

/-- 'turbojetlaw11.NvmCuts', WHERE WHAT IT READS IS OF BULK AT MOST 1048576: true; the input reads as it did. -/
def nvmCutsUptoRow : OpenClaim := { program := "ytgnjmnpfkfchfaa", sum := "a43cf204d384a5083ed71f6515c113785e2fc6ce87cc9e5fe7f3f8ab9901bbec", func := "turbojet/turbojetlaw11.NvmCuts", spec := "nvmCuts", inPlace := ["sync/atomic.AddInt64", "sync/atomic.LoadInt64"], apart := false, narrowed := true }
def NvmCutsUptoSaid : Prop := nvmCutsUptoRow.holds Try.pinned (OpenSpec.upto nvmCutsSpec)

/-- 'turbojetlaw11.NvmNil', WHERE WHAT IT READS IS OF BULK AT MOST 1048576: true; the input reads as it did. -/
def nvmNilUptoRow : OpenClaim := { program := "ytgnjmnpfkfchfaa", sum := "a43cf204d384a5083ed71f6515c113785e2fc6ce87cc9e5fe7f3f8ab9901bbec", func := "turbojet/turbojetlaw11.NvmNil", spec := "nvmNil", inPlace := ["sync/atomic.AddInt64", "sync/atomic.LoadInt64"], apart := false, narrowed := true }
def NvmNilUptoSaid : Prop := nvmNilUptoRow.holds Try.pinned (OpenSpec.upto nvmNilSpec)

/-- 'turbojetlaw11.NvmLast', WHERE WHAT IT READS IS OF BULK AT MOST 1048576: true; the input reads as it did. -/
def nvmLastUptoRow : OpenClaim := { program := "ytgnjmnpfkfchfaa", sum := "a43cf204d384a5083ed71f6515c113785e2fc6ce87cc9e5fe7f3f8ab9901bbec", func := "turbojet/turbojetlaw11.NvmLast", spec := "nvmLast", inPlace := ["sync/atomic.AddInt64", "sync/atomic.LoadInt64"], apart := false, narrowed := true }
def NvmLastUptoSaid : Prop := nvmLastUptoRow.holds Try.pinned (OpenSpec.upto nvmLastSpec)

end Rows
end Go.Proofs.Ytgnjmnpfkfchfaa
