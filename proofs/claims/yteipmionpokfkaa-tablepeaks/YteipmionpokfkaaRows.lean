/-
  No cell of these rows narrows 'for every input' (looked for: loops, veiled, ifaces, maps, wideKeys, modest, calm, conditions, laid).
  DERIVED. THE GIVEN ROWS OF THIS SEAT. 8 by the template 'for every input the law returns true; each argument reads behind the call as it read before'; 0 by the template 'total and deterministic' (their statements: YteipmionpokfkaaTotals.lean).
  GIVEN WITH THE SEED: the statements are not yours to turn. If you find one false, say at which input.
  Laid BY PROGRAM, IN A SANDBOX (cutbox-rows.mjs): the forced cells as the released guide's own fill.sh prints them over the translation b3c74401668e994a… (all of the seat's roots in one cut). By AI agents, Wed Nov 11 2026. No macro, syntax, notation, axiom, sorry.
-/
import Derived.Test.YteipmionpokfkaaChecked
import GoSem.Claim
import GoSem.ClaimJoined
import GoSem.ClaimMapViews
import Derived.JoinedTies
import Derived.KernelRfl
namespace Go.Proofs.Yteipmionpokfkaa
/- THE CELL 'sum', in the pinned program and in every row, IS THE sha256 OF THE DUMP (.gsa) THAT YteipmionpokfkaaProg.lean LOADS. Nothing in Lean hashes anything: it is a label: what it is worth is what the hold of that sum in a sandbox is worth. -/
noncomputable def Try.pinned : Pinned := { name := "yteipmionpokfkaa", sum := "b3c74401668e994a0bd095678d0ee7e8baa0333412d08cc72c99d12939de4f79", checked := Try.checked }
namespace Rows
def none {H : Type} : Left H := { results := [], args := [] }

/-- 'turbojetlaw02.TableNames': WHATEVER THE INPUT: true; the input reads as it did. -/
def tableNamesSpec : ChangeSpec := { name := "tableNames", fn := fun _ => fun
  | [] => { results := [.lit (.bool true)], args := [] }
  | _ => none }
def tableNamesRow : OpenClaim := { program := "yteipmionpokfkaa", sum := "b3c74401668e994a0bd095678d0ee7e8baa0333412d08cc72c99d12939de4f79", func := "turbojet/turbojetlaw02.TableNames", spec := "tableNames", unfollowed := true, recurses := true, apart := false }
def TableNamesSaid : Prop := tableNamesRow.holds Try.pinned (OpenSpec.ofChange tableNamesSpec)

/-- ITS FALSE NEIGHBOUR: 'it returns false'. Refute it at one input. -/
def tableNamesWrong : ChangeSpec := { name := "tableNames", fn := fun _ => fun
  | [] => { results := [.lit (.bool false)], args := [] }
  | _ => none }
def TableNamesWrongFalsely : Prop := tableNamesRow.holds Try.pinned (OpenSpec.ofChange tableNamesWrong)

/-- 'turbojetlaw02.TableTells': WHATEVER THE INPUT: true; the input reads as it did. -/
def tableTellsSpec : ChangeSpec := { name := "tableTells", fn := fun _ => fun
  | [d1, d2] => { results := [.lit (.bool true)], args := [d1, d2] }
  | _ => none }
def tableTellsRow : OpenClaim := { program := "yteipmionpokfkaa", sum := "b3c74401668e994a0bd095678d0ee7e8baa0333412d08cc72c99d12939de4f79", func := "turbojet/turbojetlaw02.TableTells", spec := "tableTells", unfollowed := true, recurses := true, apart := false }
def TableTellsSaid : Prop := tableTellsRow.holds Try.pinned (OpenSpec.ofChange tableTellsSpec)

/-- ITS FALSE NEIGHBOUR: 'it returns false'. Refute it at one input. -/
def tableTellsWrong : ChangeSpec := { name := "tableTells", fn := fun _ => fun
  | [d1, d2] => { results := [.lit (.bool false)], args := [d1, d2] }
  | _ => none }
def TableTellsWrongFalsely : Prop := tableTellsRow.holds Try.pinned (OpenSpec.ofChange tableTellsWrong)

/-- 'turbojetlaw02.TableBacks': WHATEVER THE INPUT: true; the input reads as it did. -/
def tableBacksSpec : ChangeSpec := { name := "tableBacks", fn := fun _ => fun
  | [d1, d2, d3] => { results := [.lit (.bool true)], args := [d1, d2, d3] }
  | _ => none }
def tableBacksRow : OpenClaim := { program := "yteipmionpokfkaa", sum := "b3c74401668e994a0bd095678d0ee7e8baa0333412d08cc72c99d12939de4f79", func := "turbojet/turbojetlaw02.TableBacks", spec := "tableBacks", unfollowed := true, recurses := true, apart := false }
def TableBacksSaid : Prop := tableBacksRow.holds Try.pinned (OpenSpec.ofChange tableBacksSpec)

/-- ITS FALSE NEIGHBOUR: 'it returns false'. Refute it at one input. -/
def tableBacksWrong : ChangeSpec := { name := "tableBacks", fn := fun _ => fun
  | [d1, d2, d3] => { results := [.lit (.bool false)], args := [d1, d2, d3] }
  | _ => none }
def TableBacksWrongFalsely : Prop := tableBacksRow.holds Try.pinned (OpenSpec.ofChange tableBacksWrong)

/-- 'turbojetlaw02.TablePoints': WHATEVER THE INPUT: true; the input reads as it did. -/
def tablePointsSpec : ChangeSpec := { name := "tablePoints", fn := fun _ => fun
  | [d1, d2] => { results := [.lit (.bool true)], args := [d1, d2] }
  | _ => none }
def tablePointsRow : OpenClaim := { program := "yteipmionpokfkaa", sum := "b3c74401668e994a0bd095678d0ee7e8baa0333412d08cc72c99d12939de4f79", func := "turbojet/turbojetlaw02.TablePoints", spec := "tablePoints", unfollowed := true, recurses := true, apart := false }
def TablePointsSaid : Prop := tablePointsRow.holds Try.pinned (OpenSpec.ofChange tablePointsSpec)

/-- ITS FALSE NEIGHBOUR: 'it returns false'. Refute it at one input. -/
def tablePointsWrong : ChangeSpec := { name := "tablePoints", fn := fun _ => fun
  | [d1, d2] => { results := [.lit (.bool false)], args := [d1, d2] }
  | _ => none }
def TablePointsWrongFalsely : Prop := tablePointsRow.holds Try.pinned (OpenSpec.ofChange tablePointsWrong)

/-- 'turbojetlaw02.TableBetween': WHATEVER THE INPUT: true; the input reads as it did. -/
def tableBetweenSpec : ChangeSpec := { name := "tableBetween", fn := fun _ => fun
  | [d1, d2, d3] => { results := [.lit (.bool true)], args := [d1, d2, d3] }
  | _ => none }
def tableBetweenRow : OpenClaim := { program := "yteipmionpokfkaa", sum := "b3c74401668e994a0bd095678d0ee7e8baa0333412d08cc72c99d12939de4f79", func := "turbojet/turbojetlaw02.TableBetween", spec := "tableBetween", unfollowed := true, recurses := true, apart := false }
def TableBetweenSaid : Prop := tableBetweenRow.holds Try.pinned (OpenSpec.ofChange tableBetweenSpec)

/-- ITS FALSE NEIGHBOUR: 'it returns false'. Refute it at one input. -/
def tableBetweenWrong : ChangeSpec := { name := "tableBetween", fn := fun _ => fun
  | [d1, d2, d3] => { results := [.lit (.bool false)], args := [d1, d2, d3] }
  | _ => none }
def TableBetweenWrongFalsely : Prop := tableBetweenRow.holds Try.pinned (OpenSpec.ofChange tableBetweenWrong)

/-- 'turbojetlaw02.TableRises': WHATEVER THE INPUT: true; the input reads as it did. -/
def tableRisesSpec : ChangeSpec := { name := "tableRises", fn := fun _ => fun
  | [d1, d2, d3] => { results := [.lit (.bool true)], args := [d1, d2, d3] }
  | _ => none }
def tableRisesRow : OpenClaim := { program := "yteipmionpokfkaa", sum := "b3c74401668e994a0bd095678d0ee7e8baa0333412d08cc72c99d12939de4f79", func := "turbojet/turbojetlaw02.TableRises", spec := "tableRises", unfollowed := true, recurses := true, apart := false }
def TableRisesSaid : Prop := tableRisesRow.holds Try.pinned (OpenSpec.ofChange tableRisesSpec)

/-- ITS FALSE NEIGHBOUR: 'it returns false'. Refute it at one input. -/
def tableRisesWrong : ChangeSpec := { name := "tableRises", fn := fun _ => fun
  | [d1, d2, d3] => { results := [.lit (.bool false)], args := [d1, d2, d3] }
  | _ => none }
def TableRisesWrongFalsely : Prop := tableRisesRow.holds Try.pinned (OpenSpec.ofChange tableRisesWrong)

/-- 'turbojetlaw02.TableShifts': WHATEVER THE INPUT: true; the input reads as it did. -/
def tableShiftsSpec : ChangeSpec := { name := "tableShifts", fn := fun _ => fun
  | [d1, d2, d3, d4] => { results := [.lit (.bool true)], args := [d1, d2, d3, d4] }
  | _ => none }
def tableShiftsRow : OpenClaim := { program := "yteipmionpokfkaa", sum := "b3c74401668e994a0bd095678d0ee7e8baa0333412d08cc72c99d12939de4f79", func := "turbojet/turbojetlaw02.TableShifts", spec := "tableShifts", unfollowed := true, recurses := true, apart := false }
def TableShiftsSaid : Prop := tableShiftsRow.holds Try.pinned (OpenSpec.ofChange tableShiftsSpec)

/-- ITS FALSE NEIGHBOUR: 'it returns false'. Refute it at one input. -/
def tableShiftsWrong : ChangeSpec := { name := "tableShifts", fn := fun _ => fun
  | [d1, d2, d3, d4] => { results := [.lit (.bool false)], args := [d1, d2, d3, d4] }
  | _ => none }
def TableShiftsWrongFalsely : Prop := tableShiftsRow.holds Try.pinned (OpenSpec.ofChange tableShiftsWrong)

/-- 'turbojetlaw02.TablePeaks': WHATEVER THE INPUT: true; the input reads as it did. -/
def tablePeaksSpec : ChangeSpec := { name := "tablePeaks", fn := fun _ => fun
  | [d] => { results := [.lit (.bool true)], args := [d] }
  | _ => none }
def tablePeaksRow : OpenClaim := { program := "yteipmionpokfkaa", sum := "b3c74401668e994a0bd095678d0ee7e8baa0333412d08cc72c99d12939de4f79", func := "turbojet/turbojetlaw02.TablePeaks", spec := "tablePeaks", unfollowed := true, recurses := true, apart := false }
def TablePeaksSaid : Prop := tablePeaksRow.holds Try.pinned (OpenSpec.ofChange tablePeaksSpec)

/-- ITS FALSE NEIGHBOUR: 'it returns false'. Refute it at one input. -/
def tablePeaksWrong : ChangeSpec := { name := "tablePeaks", fn := fun _ => fun
  | [d] => { results := [.lit (.bool false)], args := [d] }
  | _ => none }
def TablePeaksWrongFalsely : Prop := tablePeaksRow.holds Try.pinned (OpenSpec.ofChange tablePeaksWrong)

/- THE SECOND FORM. 'bulk': how many values and letters a reading holds, each counted each time it is reached (what is shared counts as often as it is met; a slice's spare places count too). A statement '..UptoSaid' is the law's where the arguments, and the package variables that the reading takes, are together of bulk at most 1048576: NARROWER than '..Said'. Prove '..Said' where nothing that the law and all that it calls make is longer than what came in: it says more and counts as full. Else prove '..UptoSaid'. A law counts once. -/
mutual
def uptoBulk {H : Type} : DataW H → Nat
  | .lit (.string bytes) => bytes.length + 1
  | .lit _ => 1
  | .nil => 1
  | .ptr d => uptoBulk d + 1
  | .slice elems spare => uptoBulkAll elems + uptoBulkAll spare + 1
  | .agg parts => uptoBulkAll parts + 1
  | .iface _ d => uptoBulk d + 1
  | .map entries => uptoBulkEntries entries + 1
  | .held _ => 1
def uptoBulkAll {H : Type} : List (DataW H) → Nat
  | [] => 0
  | d :: r => uptoBulk d + uptoBulkAll r
def uptoBulkEntries {H : Type} : List (Lit × DataW H) → Nat
  | [] => 0
  | x :: r => uptoBulkEntry x + uptoBulkEntries r
def uptoBulkEntry {H : Type} : Lit × DataW H → Nat
  | (.string bytes, d) => bytes.length + uptoBulk d + 1
  | (_, d) => uptoBulk d + 1
 end
def uptoSmall : (H : Type) → List (DataW H) → Bool := fun _ ds => decide (uptoBulkAll ds ≤ 1048576)
def OpenSpec.upto (s : _root_.Go.ChangeSpec) : _root_.Go.OpenSpec := { _root_.Go.OpenSpec.ofChange s with cond := some uptoSmall }

/-- 'turbojetlaw02.TableNames', WHERE WHAT IT READS IS OF BULK AT MOST 1048576: true; the input reads as it did. -/
def tableNamesUptoRow : OpenClaim := { program := "yteipmionpokfkaa", sum := "b3c74401668e994a0bd095678d0ee7e8baa0333412d08cc72c99d12939de4f79", func := "turbojet/turbojetlaw02.TableNames", spec := "tableNames", unfollowed := true, recurses := true, apart := false, narrowed := true }
def TableNamesUptoSaid : Prop := tableNamesUptoRow.holds Try.pinned (OpenSpec.upto tableNamesSpec)

/-- 'turbojetlaw02.TableTells', WHERE WHAT IT READS IS OF BULK AT MOST 1048576: true; the input reads as it did. -/
def tableTellsUptoRow : OpenClaim := { program := "yteipmionpokfkaa", sum := "b3c74401668e994a0bd095678d0ee7e8baa0333412d08cc72c99d12939de4f79", func := "turbojet/turbojetlaw02.TableTells", spec := "tableTells", unfollowed := true, recurses := true, apart := false, narrowed := true }
def TableTellsUptoSaid : Prop := tableTellsUptoRow.holds Try.pinned (OpenSpec.upto tableTellsSpec)

/-- 'turbojetlaw02.TableBacks', WHERE WHAT IT READS IS OF BULK AT MOST 1048576: true; the input reads as it did. -/
def tableBacksUptoRow : OpenClaim := { program := "yteipmionpokfkaa", sum := "b3c74401668e994a0bd095678d0ee7e8baa0333412d08cc72c99d12939de4f79", func := "turbojet/turbojetlaw02.TableBacks", spec := "tableBacks", unfollowed := true, recurses := true, apart := false, narrowed := true }
def TableBacksUptoSaid : Prop := tableBacksUptoRow.holds Try.pinned (OpenSpec.upto tableBacksSpec)

/-- 'turbojetlaw02.TablePoints', WHERE WHAT IT READS IS OF BULK AT MOST 1048576: true; the input reads as it did. -/
def tablePointsUptoRow : OpenClaim := { program := "yteipmionpokfkaa", sum := "b3c74401668e994a0bd095678d0ee7e8baa0333412d08cc72c99d12939de4f79", func := "turbojet/turbojetlaw02.TablePoints", spec := "tablePoints", unfollowed := true, recurses := true, apart := false, narrowed := true }
def TablePointsUptoSaid : Prop := tablePointsUptoRow.holds Try.pinned (OpenSpec.upto tablePointsSpec)

/-- 'turbojetlaw02.TableBetween', WHERE WHAT IT READS IS OF BULK AT MOST 1048576: true; the input reads as it did. -/
def tableBetweenUptoRow : OpenClaim := { program := "yteipmionpokfkaa", sum := "b3c74401668e994a0bd095678d0ee7e8baa0333412d08cc72c99d12939de4f79", func := "turbojet/turbojetlaw02.TableBetween", spec := "tableBetween", unfollowed := true, recurses := true, apart := false, narrowed := true }
def TableBetweenUptoSaid : Prop := tableBetweenUptoRow.holds Try.pinned (OpenSpec.upto tableBetweenSpec)

/-- 'turbojetlaw02.TableRises', WHERE WHAT IT READS IS OF BULK AT MOST 1048576: true; the input reads as it did. -/
def tableRisesUptoRow : OpenClaim := { program := "yteipmionpokfkaa", sum := "b3c74401668e994a0bd095678d0ee7e8baa0333412d08cc72c99d12939de4f79", func := "turbojet/turbojetlaw02.TableRises", spec := "tableRises", unfollowed := true, recurses := true, apart := false, narrowed := true }
def TableRisesUptoSaid : Prop := tableRisesUptoRow.holds Try.pinned (OpenSpec.upto tableRisesSpec)

/-- 'turbojetlaw02.TableShifts', WHERE WHAT IT READS IS OF BULK AT MOST 1048576: true; the input reads as it did. -/
def tableShiftsUptoRow : OpenClaim := { program := "yteipmionpokfkaa", sum := "b3c74401668e994a0bd095678d0ee7e8baa0333412d08cc72c99d12939de4f79", func := "turbojet/turbojetlaw02.TableShifts", spec := "tableShifts", unfollowed := true, recurses := true, apart := false, narrowed := true }
def TableShiftsUptoSaid : Prop := tableShiftsUptoRow.holds Try.pinned (OpenSpec.upto tableShiftsSpec)

/-- 'turbojetlaw02.TablePeaks', WHERE WHAT IT READS IS OF BULK AT MOST 1048576: true; the input reads as it did. -/
def tablePeaksUptoRow : OpenClaim := { program := "yteipmionpokfkaa", sum := "b3c74401668e994a0bd095678d0ee7e8baa0333412d08cc72c99d12939de4f79", func := "turbojet/turbojetlaw02.TablePeaks", spec := "tablePeaks", unfollowed := true, recurses := true, apart := false, narrowed := true }
def TablePeaksUptoSaid : Prop := tablePeaksUptoRow.holds Try.pinned (OpenSpec.upto tablePeaksSpec)

end Rows
end Go.Proofs.Yteipmionpokfkaa
