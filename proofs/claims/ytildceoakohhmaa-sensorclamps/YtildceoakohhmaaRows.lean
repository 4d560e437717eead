/-
  No cell of these rows narrows 'for every input' (looked for: loops, veiled, ifaces, maps, wideKeys, modest, calm, conditions, laid).
  DERIVED. THE GIVEN ROWS OF THIS SEAT. 6 by the template 'for every input the law returns true; each argument reads behind the call as it read before'; 0 by the template 'total and deterministic' (their statements: YtildceoakohhmaaTotals.lean).
  GIVEN WITH THE SEED: the statements are not yours to turn. If you find one false, say at which input.
  Laid BY PROGRAM, IN A SANDBOX (cutbox-rows.mjs): the forced cells as the released guide's own fill.sh prints them over the translation c20fc930a4232eac… (all of the seat's roots in one cut). By AI agents, Wed Nov 11 2026. No macro, syntax, notation, axiom, sorry.
-/
import Derived.Test.YtildceoakohhmaaChecked
import GoSem.Claim
import GoSem.ClaimJoined
import GoSem.ClaimMapViews
import Derived.JoinedTies
import Derived.KernelRfl
namespace Go.Proofs.Ytildceoakohhmaa
/- THE CELL 'sum', in the pinned program and in every row, IS THE sha256 OF THE DUMP (.gsa) THAT YtildceoakohhmaaProg.lean LOADS. Nothing in Lean hashes anything: it is a label: what it is worth is what the hold of that sum in a sandbox is worth. -/
noncomputable def Try.pinned : Pinned := { name := "ytildceoakohhmaa", sum := "c20fc930a4232eac4984771567e8868de7411eb8147ff42c409a36e68130e7e5", checked := Try.checked }
namespace Rows
def none {H : Type} : Left H := { results := [], args := [] }

/-- 'turbojetlaw06.SensorNames': WHATEVER THE INPUT: true; the input reads as it did. -/
def sensorNamesSpec : ChangeSpec := { name := "sensorNames", fn := fun _ => fun
  | [] => { results := [.lit (.bool true)], args := [] }
  | _ => none }
def sensorNamesRow : OpenClaim := { program := "ytildceoakohhmaa", sum := "c20fc930a4232eac4984771567e8868de7411eb8147ff42c409a36e68130e7e5", func := "turbojet/turbojetlaw06.SensorNames", spec := "sensorNames", unfollowed := true, recurses := true, apart := false }
def SensorNamesSaid : Prop := sensorNamesRow.holds Try.pinned (OpenSpec.ofChange sensorNamesSpec)

/-- ITS FALSE NEIGHBOUR: 'it returns false'. Refute it at one input. -/
def sensorNamesWrong : ChangeSpec := { name := "sensorNames", fn := fun _ => fun
  | [] => { results := [.lit (.bool false)], args := [] }
  | _ => none }
def SensorNamesWrongFalsely : Prop := sensorNamesRow.holds Try.pinned (OpenSpec.ofChange sensorNamesWrong)

/-- 'turbojetlaw06.SensorTells': WHATEVER THE INPUT: true; the input reads as it did. -/
def sensorTellsSpec : ChangeSpec := { name := "sensorTells", fn := fun _ => fun
  | [d1, d2, d3] => { results := [.lit (.bool true)], args := [d1, d2, d3] }
  | _ => none }
def sensorTellsRow : OpenClaim := { program := "ytildceoakohhmaa", sum := "c20fc930a4232eac4984771567e8868de7411eb8147ff42c409a36e68130e7e5", func := "turbojet/turbojetlaw06.SensorTells", spec := "sensorTells", unfollowed := true, recurses := true, apart := false }
def SensorTellsSaid : Prop := sensorTellsRow.holds Try.pinned (OpenSpec.ofChange sensorTellsSpec)

/-- ITS FALSE NEIGHBOUR: 'it returns false'. Refute it at one input. -/
def sensorTellsWrong : ChangeSpec := { name := "sensorTells", fn := fun _ => fun
  | [d1, d2, d3] => { results := [.lit (.bool false)], args := [d1, d2, d3] }
  | _ => none }
def SensorTellsWrongFalsely : Prop := sensorTellsRow.holds Try.pinned (OpenSpec.ofChange sensorTellsWrong)

/-- 'turbojetlaw06.SensorBack': WHATEVER THE INPUT: true; the input reads as it did. -/
def sensorBackSpec : ChangeSpec := { name := "sensorBack", fn := fun _ => fun
  | [d1, d2] => { results := [.lit (.bool true)], args := [d1, d2] }
  | _ => none }
def sensorBackRow : OpenClaim := { program := "ytildceoakohhmaa", sum := "c20fc930a4232eac4984771567e8868de7411eb8147ff42c409a36e68130e7e5", func := "turbojet/turbojetlaw06.SensorBack", spec := "sensorBack", unfollowed := true, recurses := true, apart := false }
def SensorBackSaid : Prop := sensorBackRow.holds Try.pinned (OpenSpec.ofChange sensorBackSpec)

/-- ITS FALSE NEIGHBOUR: 'it returns false'. Refute it at one input. -/
def sensorBackWrong : ChangeSpec := { name := "sensorBack", fn := fun _ => fun
  | [d1, d2] => { results := [.lit (.bool false)], args := [d1, d2] }
  | _ => none }
def SensorBackWrongFalsely : Prop := sensorBackRow.holds Try.pinned (OpenSpec.ofChange sensorBackWrong)

/-- 'turbojetlaw06.SensorRises': WHATEVER THE INPUT: true; the input reads as it did. -/
def sensorRisesSpec : ChangeSpec := { name := "sensorRises", fn := fun _ => fun
  | [d1, d2, d3] => { results := [.lit (.bool true)], args := [d1, d2, d3] }
  | _ => none }
def sensorRisesRow : OpenClaim := { program := "ytildceoakohhmaa", sum := "c20fc930a4232eac4984771567e8868de7411eb8147ff42c409a36e68130e7e5", func := "turbojet/turbojetlaw06.SensorRises", spec := "sensorRises", unfollowed := true, recurses := true, apart := false }
def SensorRisesSaid : Prop := sensorRisesRow.holds Try.pinned (OpenSpec.ofChange sensorRisesSpec)

/-- ITS FALSE NEIGHBOUR: 'it returns false'. Refute it at one input. -/
def sensorRisesWrong : ChangeSpec := { name := "sensorRises", fn := fun _ => fun
  | [d1, d2, d3] => { results := [.lit (.bool false)], args := [d1, d2, d3] }
  | _ => none }
def SensorRisesWrongFalsely : Prop := sensorRisesRow.holds Try.pinned (OpenSpec.ofChange sensorRisesWrong)

/-- 'turbojetlaw06.SensorClamps': WHATEVER THE INPUT: true; the input reads as it did. -/
def sensorClampsSpec : ChangeSpec := { name := "sensorClamps", fn := fun _ => fun
  | [d1, d2] => { results := [.lit (.bool true)], args := [d1, d2] }
  | _ => none }
def sensorClampsRow : OpenClaim := { program := "ytildceoakohhmaa", sum := "c20fc930a4232eac4984771567e8868de7411eb8147ff42c409a36e68130e7e5", func := "turbojet/turbojetlaw06.SensorClamps", spec := "sensorClamps", unfollowed := true, recurses := true, apart := false }
def SensorClampsSaid : Prop := sensorClampsRow.holds Try.pinned (OpenSpec.ofChange sensorClampsSpec)

/-- ITS FALSE NEIGHBOUR: 'it returns false'. Refute it at one input. -/
def sensorClampsWrong : ChangeSpec := { name := "sensorClamps", fn := fun _ => fun
  | [d1, d2] => { results := [.lit (.bool false)], args := [d1, d2] }
  | _ => none }
def SensorClampsWrongFalsely : Prop := sensorClampsRow.holds Try.pinned (OpenSpec.ofChange sensorClampsWrong)

/-- 'turbojetlaw06.SensorExact': WHATEVER THE INPUT: true; the input reads as it did. -/
def sensorExactSpec : ChangeSpec := { name := "sensorExact", fn := fun _ => fun
  | [d1, d2] => { results := [.lit (.bool true)], args := [d1, d2] }
  | _ => none }
def sensorExactRow : OpenClaim := { program := "ytildceoakohhmaa", sum := "c20fc930a4232eac4984771567e8868de7411eb8147ff42c409a36e68130e7e5", func := "turbojet/turbojetlaw06.SensorExact", spec := "sensorExact", unfollowed := true, recurses := true, apart := false }
def SensorExactSaid : Prop := sensorExactRow.holds Try.pinned (OpenSpec.ofChange sensorExactSpec)

/-- ITS FALSE NEIGHBOUR: 'it returns false'. Refute it at one input. -/
def sensorExactWrong : ChangeSpec := { name := "sensorExact", fn := fun _ => fun
  | [d1, d2] => { results := [.lit (.bool false)], args := [d1, d2] }
  | _ => none }
def SensorExactWrongFalsely : Prop := sensorExactRow.holds Try.pinned (OpenSpec.ofChange sensorExactWrong)

/- THE SECOND FORM. 'bulk': how many values and letters a reading holds, each counted each time it is reached (what is shared counts as often as it is met; a slice's spare places count too). A statement '..UptoSaid' is the law's where the arguments, and the package variables that the reading takes, are together of bulk at most 1048576: NARROWER than '..Said'. Prove '..Said' where nothing that the law and all that it calls make is longer than what came in: it says more and counts as full. Else prove '..UptoSaid'. A law counts once. -/
mutual
def uptoBulk {H : Type} : DataW H → Nat
  | .lit (.string bytes) => bytes.length + 1
  | .lit _ => 1
  | .nil => 1
  | .ptr d => uptoBulk d + 1
  | .slice elems spare => uptoBulkAll elems + uptoBulkAll spare + 1
  | .agg parts => uptoBulkAll parts + 1
  | .iface _ d => uptoBulk d + 1
  | .map entries => uptoBulkEntries entries + 1
  | .held _ => 1
def uptoBulkAll {H : Type} : List (DataW H) → Nat
  | [] => 0
  | d :: r => uptoBulk d + uptoBulkAll r
def uptoBulkEntries {H : Type} : List (Lit × DataW H) → Nat
  | [] => 0
  | x :: r => uptoBulkEntry x + uptoBulkEntries r
def uptoBulkEntry {H : Type} : Lit × DataW H → Nat
  | (.string bytes, d) => bytes.length + uptoBulk d + 1
  | (_, d) => uptoBulk d + 1
 end
def uptoSmall : (H : Type) → List (DataW H) → Bool := fun _ ds => decide (uptoBulkAll ds ≤ 1048576)
def OpenSpec.upto (s : _root_.Go.ChangeSpec) : _root_.Go.OpenSpec := { _root_.Go.OpenSpec.ofChange s with cond := some uptoSmall }

/-- 'turbojetlaw06.SensorNames', WHERE WHAT IT READS IS OF BULK AT MOST 1048576: true; the input reads as it did. -/
def sensorNamesUptoRow : OpenClaim := { program := "ytildceoakohhmaa", sum := "c20fc930a4232eac4984771567e8868de7411eb8147ff42c409a36e68130e7e5", func := "turbojet/turbojetlaw06.SensorNames", spec := "sensorNames", unfollowed := true, recurses := true, apart := false, narrowed := true }
def SensorNamesUptoSaid : Prop := sensorNamesUptoRow.holds Try.pinned (OpenSpec.upto sensorNamesSpec)

/-- 'turbojetlaw06.SensorTells', WHERE WHAT IT READS IS OF BULK AT MOST 1048576: true; the input reads as it did. -/
def sensorTellsUptoRow : OpenClaim := { program := "ytildceoakohhmaa", sum := "c20fc930a4232eac4984771567e8868de7411eb8147ff42c409a36e68130e7e5", func := "turbojet/turbojetlaw06.SensorTells", spec := "sensorTells", unfollowed := true, recurses := true, apart := false, narrowed := true }
def SensorTellsUptoSaid : Prop := sensorTellsUptoRow.holds Try.pinned (OpenSpec.upto sensorTellsSpec)

/-- 'turbojetlaw06.SensorBack', WHERE WHAT IT READS IS OF BULK AT MOST 1048576: true; the input reads as it did. -/
def sensorBackUptoRow : OpenClaim := { program := "ytildceoakohhmaa", sum := "c20fc930a4232eac4984771567e8868de7411eb8147ff42c409a36e68130e7e5", func := "turbojet/turbojetlaw06.SensorBack", spec := "sensorBack", unfollowed := true, recurses := true, apart := false, narrowed := true }
def SensorBackUptoSaid : Prop := sensorBackUptoRow.holds Try.pinned (OpenSpec.upto sensorBackSpec)

/-- 'turbojetlaw06.SensorRises', WHERE WHAT IT READS IS OF BULK AT MOST 1048576: true; the input reads as it did. -/
def sensorRisesUptoRow : OpenClaim := { program := "ytildceoakohhmaa", sum := "c20fc930a4232eac4984771567e8868de7411eb8147ff42c409a36e68130e7e5", func := "turbojet/turbojetlaw06.SensorRises", spec := "sensorRises", unfollowed := true, recurses := true, apart := false, narrowed := true }
def SensorRisesUptoSaid : Prop := sensorRisesUptoRow.holds Try.pinned (OpenSpec.upto sensorRisesSpec)

/-- 'turbojetlaw06.SensorClamps', WHERE WHAT IT READS IS OF BULK AT MOST 1048576: true; the input reads as it did. -/
def sensorClampsUptoRow : OpenClaim := { program := "ytildceoakohhmaa", sum := "c20fc930a4232eac4984771567e8868de7411eb8147ff42c409a36e68130e7e5", func := "turbojet/turbojetlaw06.SensorClamps", spec := "sensorClamps", unfollowed := true, recurses := true, apart := false, narrowed := true }
def SensorClampsUptoSaid : Prop := sensorClampsUptoRow.holds Try.pinned (OpenSpec.upto sensorClampsSpec)

/-- 'turbojetlaw06.SensorExact', WHERE WHAT IT READS IS OF BULK AT MOST 1048576: true; the input reads as it did. -/
def sensorExactUptoRow : OpenClaim := { program := "ytildceoakohhmaa", sum := "c20fc930a4232eac4984771567e8868de7411eb8147ff42c409a36e68130e7e5", func := "turbojet/turbojetlaw06.SensorExact", spec := "sensorExact", unfollowed := true, recurses := true, apart := false, narrowed := true }
def SensorExactUptoSaid : Prop := sensorExactUptoRow.holds Try.pinned (OpenSpec.upto sensorExactSpec)

end Rows
end Go.Proofs.Ytildceoakohhmaa
