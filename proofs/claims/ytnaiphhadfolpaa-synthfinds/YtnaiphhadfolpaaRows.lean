/-
  No cell of these rows narrows 'for every input' (looked for: loops, veiled, ifaces, maps, wideKeys, modest, calm, conditions, laid).
  DERIVED. THE GIVEN ROWS OF THIS SEAT. 5 by the template 'for every input the law returns true; each argument reads behind the call as it read before'; 0 by the template 'total and deterministic' (their statements: YtnaiphhadfolpaaTotals.lean).
  GIVEN WITH THE SEED: the statements are not yours to turn. If you find one false, say at which input.
  Laid BY PROGRAM, IN A SANDBOX (cutbox-rows.mjs): the forced cells as the released guide's own fill.sh prints them over the translation d42c778edc00af12… (all of the seat's roots in one cut). By AI agents, Wed Nov 11 2026. No macro, syntax, notation, axiom, sorry.
-/
import Derived.Test.YtnaiphhadfolpaaChecked
import GoSem.Claim
import GoSem.ClaimJoined
import GoSem.ClaimMapViews
import Derived.JoinedTies
import Derived.KernelRfl
namespace Go.Proofs.Ytnaiphhadfolpaa
/- THE CELL 'sum', in the pinned program and in every row, IS THE sha256 OF THE DUMP (.gsa) THAT YtnaiphhadfolpaaProg.lean LOADS. Nothing in Lean hashes anything: it is a label: what it is worth is what the hold of that sum in a sandbox is worth. -/
noncomputable def Try.pinned : Pinned := { name := "ytnaiphhadfolpaa", sum := "d42c778edc00af125a3384bc4075ae7b2d911d8e6cf7516322428faa36a6ad47", checked := Try.checked }
namespace Rows
def none {H : Type} : Left H := { results := [], args := [] }

/-- 'turbojetlaw10.SynthNames': WHATEVER THE INPUT: true; the input reads as it did. -/
def synthNamesSpec : ChangeSpec := { name := "synthNames", fn := fun _ => fun
  | [] => { results := [.lit (.bool true)], args := [] }
  | _ => none }
def synthNamesRow : OpenClaim := { program := "ytnaiphhadfolpaa", sum := "d42c778edc00af125a3384bc4075ae7b2d911d8e6cf7516322428faa36a6ad47", func := "turbojet/turbojetlaw10.SynthNames", spec := "synthNames", unfollowed := true, recurses := true, apart := false }
def SynthNamesSaid : Prop := synthNamesRow.holds Try.pinned (OpenSpec.ofChange synthNamesSpec)

/-- ITS FALSE NEIGHBOUR: 'it returns false'. Refute it at one input. -/
def synthNamesWrong : ChangeSpec := { name := "synthNames", fn := fun _ => fun
  | [] => { results := [.lit (.bool false)], args := [] }
  | _ => none }
def SynthNamesWrongFalsely : Prop := synthNamesRow.holds Try.pinned (OpenSpec.ofChange synthNamesWrong)

/-- 'turbojetlaw10.SynthTells': WHATEVER THE INPUT: true; the input reads as it did. -/
def synthTellsSpec : ChangeSpec := { name := "synthTells", fn := fun _ => fun
  | [d1, d2, d3] => { results := [.lit (.bool true)], args := [d1, d2, d3] }
  | _ => none }
def synthTellsRow : OpenClaim := { program := "ytnaiphhadfolpaa", sum := "d42c778edc00af125a3384bc4075ae7b2d911d8e6cf7516322428faa36a6ad47", func := "turbojet/turbojetlaw10.SynthTells", spec := "synthTells", unfollowed := true, recurses := true, apart := false }
def SynthTellsSaid : Prop := synthTellsRow.holds Try.pinned (OpenSpec.ofChange synthTellsSpec)

/-- ITS FALSE NEIGHBOUR: 'it returns false'. Refute it at one input. -/
def synthTellsWrong : ChangeSpec := { name := "synthTells", fn := fun _ => fun
  | [d1, d2, d3] => { results := [.lit (.bool false)], args := [d1, d2, d3] }
  | _ => none }
def SynthTellsWrongFalsely : Prop := synthTellsRow.holds Try.pinned (OpenSpec.ofChange synthTellsWrong)

/-- 'turbojetlaw10.SynthRises': WHATEVER THE INPUT: true; the input reads as it did. -/
def synthRisesSpec : ChangeSpec := { name := "synthRises", fn := fun _ => fun
  | [d1, d2, d3] => { results := [.lit (.bool true)], args := [d1, d2, d3] }
  | _ => none }
def synthRisesRow : OpenClaim := { program := "ytnaiphhadfolpaa", sum := "d42c778edc00af125a3384bc4075ae7b2d911d8e6cf7516322428faa36a6ad47", func := "turbojet/turbojetlaw10.SynthRises", spec := "synthRises", unfollowed := true, recurses := true, apart := false }
def SynthRisesSaid : Prop := synthRisesRow.holds Try.pinned (OpenSpec.ofChange synthRisesSpec)

/-- ITS FALSE NEIGHBOUR: 'it returns false'. Refute it at one input. -/
def synthRisesWrong : ChangeSpec := { name := "synthRises", fn := fun _ => fun
  | [d1, d2, d3] => { results := [.lit (.bool false)], args := [d1, d2, d3] }
  | _ => none }
def SynthRisesWrongFalsely : Prop := synthRisesRow.holds Try.pinned (OpenSpec.ofChange synthRisesWrong)

/-- 'turbojetlaw10.SynthFinds': WHATEVER THE INPUT: true; the input reads as it did. -/
def synthFindsSpec : ChangeSpec := { name := "synthFinds", fn := fun _ => fun
  | [d1, d2] => { results := [.lit (.bool true)], args := [d1, d2] }
  | _ => none }
def synthFindsRow : OpenClaim := { program := "ytnaiphhadfolpaa", sum := "d42c778edc00af125a3384bc4075ae7b2d911d8e6cf7516322428faa36a6ad47", func := "turbojet/turbojetlaw10.SynthFinds", spec := "synthFinds", unfollowed := true, recurses := true, apart := false }
def SynthFindsSaid : Prop := synthFindsRow.holds Try.pinned (OpenSpec.ofChange synthFindsSpec)

/-- ITS FALSE NEIGHBOUR: 'it returns false'. Refute it at one input. -/
def synthFindsWrong : ChangeSpec := { name := "synthFinds", fn := fun _ => fun
  | [d1, d2] => { results := [.lit (.bool false)], args := [d1, d2] }
  | _ => none }
def SynthFindsWrongFalsely : Prop := synthFindsRow.holds Try.pinned (OpenSpec.ofChange synthFindsWrong)

/-- 'turbojetlaw10.SynthCaps': WHATEVER THE INPUT: true; the input reads as it did. -/
def synthCapsSpec : ChangeSpec := { name := "synthCaps", fn := fun _ => fun
  | [d1, d2] => { results := [.lit (.bool true)], args := [d1, d2] }
  | _ => none }
def synthCapsRow : OpenClaim := { program := "ytnaiphhadfolpaa", sum := "d42c778edc00af125a3384bc4075ae7b2d911d8e6cf7516322428faa36a6ad47", func := "turbojet/turbojetlaw10.SynthCaps", spec := "synthCaps", unfollowed := true, recurses := true, apart := false }
def SynthCapsSaid : Prop := synthCapsRow.holds Try.pinned (OpenSpec.ofChange synthCapsSpec)

/-- ITS FALSE NEIGHBOUR: 'it returns false'. Refute it at one input. -/
def synthCapsWrong : ChangeSpec := { name := "synthCaps", fn := fun _ => fun
  | [d1, d2] => { results := [.lit (.bool false)], args := [d1, d2] }
  | _ => none }
def SynthCapsWrongFalsely : Prop := synthCapsRow.holds Try.pinned (OpenSpec.ofChange synthCapsWrong)

/- THE SECOND FORM. 'bulk': how many values and letters a reading holds, each counted each time it is reached (what is shared counts as often as it is met; a slice's spare places count too). A statement '..UptoSaid' is the law's where the arguments, and the package variables that the reading takes, are together of bulk at most 1048576: NARROWER than '..Said'. Prove '..Said' where nothing that the law and all that it calls make is longer than what came in: it says more and counts as full. Else prove '..UptoSaid'. A law counts once. -/
mutual
def uptoBulk {H : Type} : DataW H → Nat
  | .lit (.string bytes) => bytes.length + 1
  | .lit _ => 1
  | .nil => 1
  | .ptr d => uptoBulk d + 1
  | .slice elems spare => uptoBulkAll elems + uptoBulkAll spare + 1
  | .agg parts => uptoBulkAll parts + 1
  | .iface _ d => uptoBulk d + 1
  | .map entries => uptoBulkEntries entries + 1
  | .held _ => 1
def uptoBulkAll {H : Type} : List (DataW H) → Nat
  | [] => 0
  | d :: r => uptoBulk d + uptoBulkAll r
def uptoBulkEntries {H : Type} : List (Lit × DataW H) → Nat
  | [] => 0
  | x :: r => uptoBulkEntry x + uptoBulkEntries r
def uptoBulkEntry {H : Type} : Lit × DataW H → Nat
  | (.string bytes, d) => bytes.length + uptoBulk d + 1
  | (_, d) => uptoBulk d + 1
 end
def uptoSmall : (H : Type) → List (DataW H) → Bool := fun _ ds => decide (uptoBulkAll ds ≤ 1048576)
def OpenSpec.upto (s : _root_.Go.ChangeSpec) : _root_.Go.OpenSpec := { _root_.Go.OpenSpec.ofChange s with cond := some uptoSmall }

/-- 'turbojetlaw10.SynthNames', WHERE WHAT IT READS IS OF BULK AT MOST 1048576: true; the input reads as it did. -/
def synthNamesUptoRow : OpenClaim := { program := "ytnaiphhadfolpaa", sum := "d42c778edc00af125a3384bc4075ae7b2d911d8e6cf7516322428faa36a6ad47", func := "turbojet/turbojetlaw10.SynthNames", spec := "synthNames", unfollowed := true, recurses := true, apart := false, narrowed := true }
def SynthNamesUptoSaid : Prop := synthNamesUptoRow.holds Try.pinned (OpenSpec.upto synthNamesSpec)

/-- 'turbojetlaw10.SynthTells', WHERE WHAT IT READS IS OF BULK AT MOST 1048576: true; the input reads as it did. -/
def synthTellsUptoRow : OpenClaim := { program := "ytnaiphhadfolpaa", sum := "d42c778edc00af125a3384bc4075ae7b2d911d8e6cf7516322428faa36a6ad47", func := "turbojet/turbojetlaw10.SynthTells", spec := "synthTells", unfollowed := true, recurses := true, apart := false, narrowed := true }
def SynthTellsUptoSaid : Prop := synthTellsUptoRow.holds Try.pinned (OpenSpec.upto synthTellsSpec)

/-- 'turbojetlaw10.SynthRises', WHERE WHAT IT READS IS OF BULK AT MOST 1048576: true; the input reads as it did. -/
def synthRisesUptoRow : OpenClaim := { program := "ytnaiphhadfolpaa", sum := "d42c778edc00af125a3384bc4075ae7b2d911d8e6cf7516322428faa36a6ad47", func := "turbojet/turbojetlaw10.SynthRises", spec := "synthRises", unfollowed := true, recurses := true, apart := false, narrowed := true }
def SynthRisesUptoSaid : Prop := synthRisesUptoRow.holds Try.pinned (OpenSpec.upto synthRisesSpec)

/-- 'turbojetlaw10.SynthFinds', WHERE WHAT IT READS IS OF BULK AT MOST 1048576: true; the input reads as it did. -/
def synthFindsUptoRow : OpenClaim := { program := "ytnaiphhadfolpaa", sum := "d42c778edc00af125a3384bc4075ae7b2d911d8e6cf7516322428faa36a6ad47", func := "turbojet/turbojetlaw10.SynthFinds", spec := "synthFinds", unfollowed := true, recurses := true, apart := false, narrowed := true }
def SynthFindsUptoSaid : Prop := synthFindsUptoRow.holds Try.pinned (OpenSpec.upto synthFindsSpec)

/-- 'turbojetlaw10.SynthCaps', WHERE WHAT IT READS IS OF BULK AT MOST 1048576: true; the input reads as it did. -/
def synthCapsUptoRow : OpenClaim := { program := "ytnaiphhadfolpaa", sum := "d42c778edc00af125a3384bc4075ae7b2d911d8e6cf7516322428faa36a6ad47", func := "turbojet/turbojetlaw10.SynthCaps", spec := "synthCaps", unfollowed := true, recurses := true, apart := false, narrowed := true }
def SynthCapsUptoSaid : Prop := synthCapsUptoRow.holds Try.pinned (OpenSpec.upto synthCapsSpec)

end Rows
end Go.Proofs.Ytnaiphhadfolpaa
