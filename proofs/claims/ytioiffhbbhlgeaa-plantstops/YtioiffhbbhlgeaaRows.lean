/-
  No cell of these rows narrows 'for every input' (looked for: loops, veiled, ifaces, maps, wideKeys, modest, calm, conditions, laid).
  DERIVED. THE GIVEN ROWS OF THIS SEAT. 6 by the template 'for every input the law returns true; each argument reads behind the call as it read before'; 0 by the template 'total and deterministic' (their statements: YtioiffhbbhlgeaaTotals.lean).
  GIVEN WITH THE SEED: the statements are not yours to turn. If you find one false, say at which input.
  Laid BY PROGRAM, IN A SANDBOX (cutbox-rows.mjs): the forced cells as the released guide's own fill.sh prints them over the translation 817b6e84bd20aa01… (all of the seat's roots in one cut). By AI agents, Wed Nov 11 2026. No macro, syntax, notation, axiom, sorry.
-/
import Derived.Test.YtioiffhbbhlgeaaChecked
import GoSem.Claim
import GoSem.ClaimJoined
import GoSem.ClaimMapViews
import Derived.JoinedTies
import Derived.KernelRfl
namespace Go.Proofs.Ytioiffhbbhlgeaa
/- THE CELL 'sum', in the pinned program and in every row, IS THE sha256 OF THE DUMP (.gsa) THAT YtioiffhbbhlgeaaProg.lean LOADS. Nothing in Lean hashes anything: it is a label: what it is worth is what the hold of that sum in a sandbox is worth. -/
noncomputable def Try.pinned : Pinned := { name := "ytioiffhbbhlgeaa", sum := "817b6e84bd20aa0126f6a06ebae743b15fdfc8c8af2ad5fc5670a2f7f9ca736b", checked := Try.checked }
namespace Rows
def none {H : Type} : Left H := { results := [], args := [] }

/-- 'turbojetlaw21.PlantTells': WHATEVER THE INPUT: true; the input reads as it did. -/
def plantTellsSpec : ChangeSpec := { name := "plantTells", fn := fun _ => fun
  | [d1, d2, d3] => { results := [.lit (.bool true)], args := [d1, d2, d3] }
  | _ => none }
def plantTellsRow : OpenClaim := { program := "ytioiffhbbhlgeaa", sum := "817b6e84bd20aa0126f6a06ebae743b15fdfc8c8af2ad5fc5670a2f7f9ca736b", func := "turbojet/turbojetlaw21.PlantTells", spec := "plantTells", unfollowed := true, recurses := true, apart := false }
def PlantTellsSaid : Prop := plantTellsRow.holds Try.pinned (OpenSpec.ofChange plantTellsSpec)

/-- ITS FALSE NEIGHBOUR: 'it returns false'. Refute it at one input. -/
def plantTellsWrong : ChangeSpec := { name := "plantTells", fn := fun _ => fun
  | [d1, d2, d3] => { results := [.lit (.bool false)], args := [d1, d2, d3] }
  | _ => none }
def PlantTellsWrongFalsely : Prop := plantTellsRow.holds Try.pinned (OpenSpec.ofChange plantTellsWrong)

/-- 'turbojetlaw21.PlantRises': WHATEVER THE INPUT: true; the input reads as it did. -/
def plantRisesSpec : ChangeSpec := { name := "plantRises", fn := fun _ => fun
  | [d1, d2, d3] => { results := [.lit (.bool true)], args := [d1, d2, d3] }
  | _ => none }
def plantRisesRow : OpenClaim := { program := "ytioiffhbbhlgeaa", sum := "817b6e84bd20aa0126f6a06ebae743b15fdfc8c8af2ad5fc5670a2f7f9ca736b", func := "turbojet/turbojetlaw21.PlantRises", spec := "plantRises", unfollowed := true, recurses := true, apart := false }
def PlantRisesSaid : Prop := plantRisesRow.holds Try.pinned (OpenSpec.ofChange plantRisesSpec)

/-- ITS FALSE NEIGHBOUR: 'it returns false'. Refute it at one input. -/
def plantRisesWrong : ChangeSpec := { name := "plantRises", fn := fun _ => fun
  | [d1, d2, d3] => { results := [.lit (.bool false)], args := [d1, d2, d3] }
  | _ => none }
def PlantRisesWrongFalsely : Prop := plantRisesRow.holds Try.pinned (OpenSpec.ofChange plantRisesWrong)

/-- 'turbojetlaw21.PlantBurns': WHATEVER THE INPUT: true; the input reads as it did. -/
def plantBurnsSpec : ChangeSpec := { name := "plantBurns", fn := fun _ => fun
  | [d1, d2, d3] => { results := [.lit (.bool true)], args := [d1, d2, d3] }
  | _ => none }
def plantBurnsRow : OpenClaim := { program := "ytioiffhbbhlgeaa", sum := "817b6e84bd20aa0126f6a06ebae743b15fdfc8c8af2ad5fc5670a2f7f9ca736b", func := "turbojet/turbojetlaw21.PlantBurns", spec := "plantBurns", unfollowed := true, recurses := true, apart := false }
def PlantBurnsSaid : Prop := plantBurnsRow.holds Try.pinned (OpenSpec.ofChange plantBurnsSpec)

/-- ITS FALSE NEIGHBOUR: 'it returns false'. Refute it at one input. -/
def plantBurnsWrong : ChangeSpec := { name := "plantBurns", fn := fun _ => fun
  | [d1, d2, d3] => { results := [.lit (.bool false)], args := [d1, d2, d3] }
  | _ => none }
def PlantBurnsWrongFalsely : Prop := plantBurnsRow.holds Try.pinned (OpenSpec.ofChange plantBurnsWrong)

/-- 'turbojetlaw21.PlantSettles': WHATEVER THE INPUT: true; the input reads as it did. -/
def plantSettlesSpec : ChangeSpec := { name := "plantSettles", fn := fun _ => fun
  | [d1, d2, d3] => { results := [.lit (.bool true)], args := [d1, d2, d3] }
  | _ => none }
def plantSettlesRow : OpenClaim := { program := "ytioiffhbbhlgeaa", sum := "817b6e84bd20aa0126f6a06ebae743b15fdfc8c8af2ad5fc5670a2f7f9ca736b", func := "turbojet/turbojetlaw21.PlantSettles", spec := "plantSettles", unfollowed := true, recurses := true, apart := false }
def PlantSettlesSaid : Prop := plantSettlesRow.holds Try.pinned (OpenSpec.ofChange plantSettlesSpec)

/-- ITS FALSE NEIGHBOUR: 'it returns false'. Refute it at one input. -/
def plantSettlesWrong : ChangeSpec := { name := "plantSettles", fn := fun _ => fun
  | [d1, d2, d3] => { results := [.lit (.bool false)], args := [d1, d2, d3] }
  | _ => none }
def PlantSettlesWrongFalsely : Prop := plantSettlesRow.holds Try.pinned (OpenSpec.ofChange plantSettlesWrong)

/-- 'turbojetlaw21.PlantStops': WHATEVER THE INPUT: true; the input reads as it did. -/
def plantStopsSpec : ChangeSpec := { name := "plantStops", fn := fun _ => fun
  | [d1, d2, d3] => { results := [.lit (.bool true)], args := [d1, d2, d3] }
  | _ => none }
def plantStopsRow : OpenClaim := { program := "ytioiffhbbhlgeaa", sum := "817b6e84bd20aa0126f6a06ebae743b15fdfc8c8af2ad5fc5670a2f7f9ca736b", func := "turbojet/turbojetlaw21.PlantStops", spec := "plantStops", unfollowed := true, recurses := true, apart := false }
def PlantStopsSaid : Prop := plantStopsRow.holds Try.pinned (OpenSpec.ofChange plantStopsSpec)

/-- ITS FALSE NEIGHBOUR: 'it returns false'. Refute it at one input. -/
def plantStopsWrong : ChangeSpec := { name := "plantStops", fn := fun _ => fun
  | [d1, d2, d3] => { results := [.lit (.bool false)], args := [d1, d2, d3] }
  | _ => none }
def PlantStopsWrongFalsely : Prop := plantStopsRow.holds Try.pinned (OpenSpec.ofChange plantStopsWrong)

/-- 'turbojetlaw21.PlantRests': WHATEVER THE INPUT: true; the input reads as it did. -/
def plantRestsSpec : ChangeSpec := { name := "plantRests", fn := fun _ => fun
  | [d1, d2, d3, d4] => { results := [.lit (.bool true)], args := [d1, d2, d3, d4] }
  | _ => none }
def plantRestsRow : OpenClaim := { program := "ytioiffhbbhlgeaa", sum := "817b6e84bd20aa0126f6a06ebae743b15fdfc8c8af2ad5fc5670a2f7f9ca736b", func := "turbojet/turbojetlaw21.PlantRests", spec := "plantRests", unfollowed := true, recurses := true, apart := false }
def PlantRestsSaid : Prop := plantRestsRow.holds Try.pinned (OpenSpec.ofChange plantRestsSpec)

/-- ITS FALSE NEIGHBOUR: 'it returns false'. Refute it at one input. -/
def plantRestsWrong : ChangeSpec := { name := "plantRests", fn := fun _ => fun
  | [d1, d2, d3, d4] => { results := [.lit (.bool false)], args := [d1, d2, d3, d4] }
  | _ => none }
def PlantRestsWrongFalsely : Prop := plantRestsRow.holds Try.pinned (OpenSpec.ofChange plantRestsWrong)

/- THE SECOND FORM. 'bulk': how many values and letters a reading holds, each counted each time it is reached (what is shared counts as often as it is met; a slice's spare places count too). A statement '..UptoSaid' is the law's where the arguments, and the package variables that the reading takes, are together of bulk at most 1048576: NARROWER than '..Said'. Prove '..Said' where nothing that the law and all that it calls make is longer than what came in: it says more and counts as full. Else prove '..UptoSaid'. A law counts once. -/
mutual
def uptoBulk {H : Type} : DataW H → Nat
  | .lit (.string bytes) => bytes.length + 1
  | .lit _ => 1
  | .nil => 1
  | .ptr d => uptoBulk d + 1
  | .slice elems spare => uptoBulkAll elems + uptoBulkAll spare + 1
  | .agg parts => uptoBulkAll parts + 1
  | .iface _ d => uptoBulk d + 1
  | .map entries => uptoBulkEntries entries + 1
  | .held _ => 1
def uptoBulkAll {H : Type} : List (DataW H) → Nat
  | [] => 0
  | d :: r => uptoBulk d + uptoBulkAll r
def uptoBulkEntries {H : Type} : List (Lit × DataW H) → Nat
  | [] => 0
  | x :: r => uptoBulkEntry x + uptoBulkEntries r
def uptoBulkEntry {H : Type} : Lit × DataW H → Nat
  | (.string bytes, d) => bytes.length + uptoBulk d + 1
  | (_, d) => uptoBulk d + 1
 end
def uptoSmall : (H : Type) → List (DataW H) → Bool := fun _ ds => decide (uptoBulkAll ds ≤ 1048576)
def OpenSpec.upto (s : _root_.Go.ChangeSpec) : _root_.Go.OpenSpec := { _root_.Go.OpenSpec.ofChange s with cond := some uptoSmall }

/-- 'turbojetlaw21.PlantTells', WHERE WHAT IT READS IS OF BULK AT MOST 1048576: true; the input reads as it did. -/
def plantTellsUptoRow : OpenClaim := { program := "ytioiffhbbhlgeaa", sum := "817b6e84bd20aa0126f6a06ebae743b15fdfc8c8af2ad5fc5670a2f7f9ca736b", func := "turbojet/turbojetlaw21.PlantTells", spec := "plantTells", unfollowed := true, recurses := true, apart := false, narrowed := true }
def PlantTellsUptoSaid : Prop := plantTellsUptoRow.holds Try.pinned (OpenSpec.upto plantTellsSpec)

/-- 'turbojetlaw21.PlantRises', WHERE WHAT IT READS IS OF BULK AT MOST 1048576: true; the input reads as it did. -/
def plantRisesUptoRow : OpenClaim := { program := "ytioiffhbbhlgeaa", sum := "817b6e84bd20aa0126f6a06ebae743b15fdfc8c8af2ad5fc5670a2f7f9ca736b", func := "turbojet/turbojetlaw21.PlantRises", spec := "plantRises", unfollowed := true, recurses := true, apart := false, narrowed := true }
def PlantRisesUptoSaid : Prop := plantRisesUptoRow.holds Try.pinned (OpenSpec.upto plantRisesSpec)

/-- 'turbojetlaw21.PlantBurns', WHERE WHAT IT READS IS OF BULK AT MOST 1048576: true; the input reads as it did. -/
def plantBurnsUptoRow : OpenClaim := { program := "ytioiffhbbhlgeaa", sum := "817b6e84bd20aa0126f6a06ebae743b15fdfc8c8af2ad5fc5670a2f7f9ca736b", func := "turbojet/turbojetlaw21.PlantBurns", spec := "plantBurns", unfollowed := true, recurses := true, apart := false, narrowed := true }
def PlantBurnsUptoSaid : Prop := plantBurnsUptoRow.holds Try.pinned (OpenSpec.upto plantBurnsSpec)

/-- 'turbojetlaw21.PlantSettles', WHERE WHAT IT READS IS OF BULK AT MOST 1048576: true; the input reads as it did. -/
def plantSettlesUptoRow : OpenClaim := { program := "ytioiffhbbhlgeaa", sum := "817b6e84bd20aa0126f6a06ebae743b15fdfc8c8af2ad5fc5670a2f7f9ca736b", func := "turbojet/turbojetlaw21.PlantSettles", spec := "plantSettles", unfollowed := true, recurses := true, apart := false, narrowed := true }
def PlantSettlesUptoSaid : Prop := plantSettlesUptoRow.holds Try.pinned (OpenSpec.upto plantSettlesSpec)

/-- 'turbojetlaw21.PlantStops', WHERE WHAT IT READS IS OF BULK AT MOST 1048576: true; the input reads as it did. -/
def plantStopsUptoRow : OpenClaim := { program := "ytioiffhbbhlgeaa", sum := "817b6e84bd20aa0126f6a06ebae743b15fdfc8c8af2ad5fc5670a2f7f9ca736b", func := "turbojet/turbojetlaw21.PlantStops", spec := "plantStops", unfollowed := true, recurses := true, apart := false, narrowed := true }
def PlantStopsUptoSaid : Prop := plantStopsUptoRow.holds Try.pinned (OpenSpec.upto plantStopsSpec)

/-- 'turbojetlaw21.PlantRests', WHERE WHAT IT READS IS OF BULK AT MOST 1048576: true; the input reads as it did. -/
def plantRestsUptoRow : OpenClaim := { program := "ytioiffhbbhlgeaa", sum := "817b6e84bd20aa0126f6a06ebae743b15fdfc8c8af2ad5fc5670a2f7f9ca736b", func := "turbojet/turbojetlaw21.PlantRests", spec := "plantRests", unfollowed := true, recurses := true, apart := false, narrowed := true }
def PlantRestsUptoSaid : Prop := plantRestsUptoRow.holds Try.pinned (OpenSpec.upto plantRestsSpec)

end Rows
end Go.Proofs.Ytioiffhbbhlgeaa
