/-
  No cell of these rows narrows 'for every input' (looked for: loops, veiled, ifaces, maps, wideKeys, modest, calm, conditions, laid).
  DERIVED. THE GIVEN ROWS OF THIS SEAT. 4 by the template 'for every input the law returns true; each argument reads behind the call as it read before'; 0 by the template 'total and deterministic' (their statements: YtgpgdmebojmobaaTotals.lean).
  GIVEN WITH THE SEED: the statements are not yours to turn. If you find one false, say at which input.
  Laid BY PROGRAM, IN A SANDBOX (cutbox-rows.mjs): the forced cells as the released guide's own fill.sh prints them over the translation f7e6b7de6e97df69… (all of the seat's roots in one cut). By AI agents, Wed Nov 11 2026. No macro, syntax, notation, axiom, sorry.
-/
import Derived.Test.YtgpgdmebojmobaaChecked
import GoSem.Claim
import GoSem.ClaimJoined
import GoSem.ClaimMapViews
import Derived.JoinedTies
import Derived.KernelRfl
namespace Go.Proofs.Ytgpgdmebojmobaa
/- THE CELL 'sum', in the pinned program and in every row, IS THE sha256 OF THE DUMP (.gsa) THAT YtgpgdmebojmobaaProg.lean LOADS. Nothing in Lean hashes anything: it is a label: what it is worth is what the hold of that sum in a sandbox is worth. -/
noncomputable def Try.pinned : Pinned := { name := "ytgpgdmebojmobaa", sum := "f7e6b7de6e97df695c9e2ae499fbf771de2371fa84151b2e885f9689d003d9e5", checked := Try.checked }
namespace Rows
def none {H : Type} : Left H := { results := [], args := [] }

/-- 'turbojetlaw19.ArbiterTells': WHATEVER THE INPUT: true; the input reads as it did. -/
def arbiterTellsSpec : ChangeSpec := { name := "arbiterTells", fn := fun _ => fun
  | [d1, d2, d3, d4, d5] => { results := [.lit (.bool true)], args := [d1, d2, d3, d4, d5] }
  | _ => none }
def arbiterTellsRow : OpenClaim := { program := "ytgpgdmebojmobaa", sum := "f7e6b7de6e97df695c9e2ae499fbf771de2371fa84151b2e885f9689d003d9e5", func := "turbojet/turbojetlaw19.ArbiterTells", spec := "arbiterTells", unfollowed := true, recurses := true, apart := false }
def ArbiterTellsSaid : Prop := arbiterTellsRow.holds Try.pinned (OpenSpec.ofChange arbiterTellsSpec)

/-- ITS FALSE NEIGHBOUR: 'it returns false'. Refute it at one input. -/
def arbiterTellsWrong : ChangeSpec := { name := "arbiterTells", fn := fun _ => fun
  | [d1, d2, d3, d4, d5] => { results := [.lit (.bool false)], args := [d1, d2, d3, d4, d5] }
  | _ => none }
def ArbiterTellsWrongFalsely : Prop := arbiterTellsRow.holds Try.pinned (OpenSpec.ofChange arbiterTellsWrong)

/-- 'turbojetlaw19.ArbiterOne': WHATEVER THE INPUT: true; the input reads as it did. -/
def arbiterOneSpec : ChangeSpec := { name := "arbiterOne", fn := fun _ => fun
  | [d1, d2, d3, d4] => { results := [.lit (.bool true)], args := [d1, d2, d3, d4] }
  | _ => none }
def arbiterOneRow : OpenClaim := { program := "ytgpgdmebojmobaa", sum := "f7e6b7de6e97df695c9e2ae499fbf771de2371fa84151b2e885f9689d003d9e5", func := "turbojet/turbojetlaw19.ArbiterOne", spec := "arbiterOne", unfollowed := true, recurses := true, apart := false }
def ArbiterOneSaid : Prop := arbiterOneRow.holds Try.pinned (OpenSpec.ofChange arbiterOneSpec)

/-- ITS FALSE NEIGHBOUR: 'it returns false'. Refute it at one input. -/
def arbiterOneWrong : ChangeSpec := { name := "arbiterOne", fn := fun _ => fun
  | [d1, d2, d3, d4] => { results := [.lit (.bool false)], args := [d1, d2, d3, d4] }
  | _ => none }
def ArbiterOneWrongFalsely : Prop := arbiterOneRow.holds Try.pinned (OpenSpec.ofChange arbiterOneWrong)

/-- 'turbojetlaw19.ArbiterWay': WHATEVER THE INPUT: true; the input reads as it did. -/
def arbiterWaySpec : ChangeSpec := { name := "arbiterWay", fn := fun _ => fun
  | [d1, d2, d3] => { results := [.lit (.bool true)], args := [d1, d2, d3] }
  | _ => none }
def arbiterWayRow : OpenClaim := { program := "ytgpgdmebojmobaa", sum := "f7e6b7de6e97df695c9e2ae499fbf771de2371fa84151b2e885f9689d003d9e5", func := "turbojet/turbojetlaw19.ArbiterWay", spec := "arbiterWay", unfollowed := true, recurses := true, apart := false }
def ArbiterWaySaid : Prop := arbiterWayRow.holds Try.pinned (OpenSpec.ofChange arbiterWaySpec)

/-- ITS FALSE NEIGHBOUR: 'it returns false'. Refute it at one input. -/
def arbiterWayWrong : ChangeSpec := { name := "arbiterWay", fn := fun _ => fun
  | [d1, d2, d3] => { results := [.lit (.bool false)], args := [d1, d2, d3] }
  | _ => none }
def ArbiterWayWrongFalsely : Prop := arbiterWayRow.holds Try.pinned (OpenSpec.ofChange arbiterWayWrong)

/-- 'turbojetlaw19.ArbiterBack': WHATEVER THE INPUT: true; the input reads as it did. -/
def arbiterBackSpec : ChangeSpec := { name := "arbiterBack", fn := fun _ => fun
  | [d1, d2, d3, d4] => { results := [.lit (.bool true)], args := [d1, d2, d3, d4] }
  | _ => none }
def arbiterBackRow : OpenClaim := { program := "ytgpgdmebojmobaa", sum := "f7e6b7de6e97df695c9e2ae499fbf771de2371fa84151b2e885f9689d003d9e5", func := "turbojet/turbojetlaw19.ArbiterBack", spec := "arbiterBack", unfollowed := true, recurses := true, apart := false }
def ArbiterBackSaid : Prop := arbiterBackRow.holds Try.pinned (OpenSpec.ofChange arbiterBackSpec)

/-- ITS FALSE NEIGHBOUR: 'it returns false'. Refute it at one input. -/
def arbiterBackWrong : ChangeSpec := { name := "arbiterBack", fn := fun _ => fun
  | [d1, d2, d3, d4] => { results := [.lit (.bool false)], args := [d1, d2, d3, d4] }
  | _ => none }
def ArbiterBackWrongFalsely : Prop := arbiterBackRow.holds Try.pinned (OpenSpec.ofChange arbiterBackWrong)

/- THE SECOND FORM. 'bulk': how many values and letters a reading holds, each counted each time it is reached (what is shared counts as often as it is met; a slice's spare places count too). A statement '..UptoSaid' is the law's where the arguments, and the package variables that the reading takes, are together of bulk at most 1048576: NARROWER than '..Said'. Prove '..Said' where nothing that the law and all that it calls make is longer than what came in: it says more and counts as full. Else prove '..UptoSaid'. A law counts once. -/
mutual
def uptoBulk {H : Type} : DataW H → Nat
  | .lit (.string bytes) => bytes.length + 1
  | .lit _ => 1
  | .nil => 1
  | .ptr d => uptoBulk d + 1
  | .slice elems spare => uptoBulkAll elems + uptoBulkAll spare + 1
  | .agg parts => uptoBulkAll parts + 1
  | .iface _ d => uptoBulk d + 1
  | .map entries => uptoBulkEntries entries + 1
  | .held _ => 1
def uptoBulkAll {H : Type} : List (DataW H) → Nat
  | [] => 0
  | d :: r => uptoBulk d + uptoBulkAll r
def uptoBulkEntries {H : Type} : List (Lit × DataW H) → Nat
  | [] => 0
  | x :: r => uptoBulkEntry x + uptoBulkEntries r
def uptoBulkEntry {H : Type} : Lit × DataW H → Nat
  | (.string bytes, d) => bytes.length + uptoBulk d + 1
  | (_, d) => uptoBulk d + 1
 end
def uptoSmall : (H : Type) → List (DataW H) → Bool := fun _ ds => decide (uptoBulkAll ds ≤ 1048576)
def OpenSpec.upto (s : _root_.Go.ChangeSpec) : _root_.Go.OpenSpec := { _root_.Go.OpenSpec.ofChange s with cond := some uptoSmall }

/-- 'turbojetlaw19.ArbiterTells', WHERE WHAT IT READS IS OF BULK AT MOST 1048576: true; the input reads as it did. -/
def arbiterTellsUptoRow : OpenClaim := { program := "ytgpgdmebojmobaa", sum := "f7e6b7de6e97df695c9e2ae499fbf771de2371fa84151b2e885f9689d003d9e5", func := "turbojet/turbojetlaw19.ArbiterTells", spec := "arbiterTells", unfollowed := true, recurses := true, apart := false, narrowed := true }
def ArbiterTellsUptoSaid : Prop := arbiterTellsUptoRow.holds Try.pinned (OpenSpec.upto arbiterTellsSpec)

/-- 'turbojetlaw19.ArbiterOne', WHERE WHAT IT READS IS OF BULK AT MOST 1048576: true; the input reads as it did. -/
def arbiterOneUptoRow : OpenClaim := { program := "ytgpgdmebojmobaa", sum := "f7e6b7de6e97df695c9e2ae499fbf771de2371fa84151b2e885f9689d003d9e5", func := "turbojet/turbojetlaw19.ArbiterOne", spec := "arbiterOne", unfollowed := true, recurses := true, apart := false, narrowed := true }
def ArbiterOneUptoSaid : Prop := arbiterOneUptoRow.holds Try.pinned (OpenSpec.upto arbiterOneSpec)

/-- 'turbojetlaw19.ArbiterWay', WHERE WHAT IT READS IS OF BULK AT MOST 1048576: true; the input reads as it did. -/
def arbiterWayUptoRow : OpenClaim := { program := "ytgpgdmebojmobaa", sum := "f7e6b7de6e97df695c9e2ae499fbf771de2371fa84151b2e885f9689d003d9e5", func := "turbojet/turbojetlaw19.ArbiterWay", spec := "arbiterWay", unfollowed := true, recurses := true, apart := false, narrowed := true }
def ArbiterWayUptoSaid : Prop := arbiterWayUptoRow.holds Try.pinned (OpenSpec.upto arbiterWaySpec)

/-- 'turbojetlaw19.ArbiterBack', WHERE WHAT IT READS IS OF BULK AT MOST 1048576: true; the input reads as it did. -/
def arbiterBackUptoRow : OpenClaim := { program := "ytgpgdmebojmobaa", sum := "f7e6b7de6e97df695c9e2ae499fbf771de2371fa84151b2e885f9689d003d9e5", func := "turbojet/turbojetlaw19.ArbiterBack", spec := "arbiterBack", unfollowed := true, recurses := true, apart := false, narrowed := true }
def ArbiterBackUptoSaid : Prop := arbiterBackUptoRow.holds Try.pinned (OpenSpec.upto arbiterBackSpec)

end Rows
end Go.Proofs.Ytgpgdmebojmobaa
