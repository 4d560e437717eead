/-
  No cell of these rows narrows 'for every input' (looked for: loops, veiled, ifaces, maps, wideKeys, modest, calm, conditions, laid).
  DERIVED. THE GIVEN ROWS OF THIS SEAT. 4 by the template 'for every input the law returns true; each argument reads behind the call as it read before'; 0 by the template 'total and deterministic' (their statements: YthjnodchmedlfaaTotals.lean).
  GIVEN WITH THE SEED: the statements are not yours to turn. If you find one false, say at which input.
  Laid BY PROGRAM, IN A SANDBOX (cutbox-rows.mjs): the forced cells as the released guide's own fill.sh prints them over the translation 0c1f73f5f463cead… (all of the seat's roots in one cut). By AI agents, Wed Nov 11 2026. No macro, syntax, notation, axiom, sorry.
-/
import Derived.Test.YthjnodchmedlfaaChecked
import GoSem.Claim
import GoSem.ClaimJoined
import GoSem.ClaimMapViews
import Derived.JoinedTies
import Derived.KernelRfl
namespace Go.Proofs.Ythjnodchmedlfaa
/- THE CELL 'sum', in the pinned program and in every row, IS THE sha256 OF THE DUMP (.gsa) THAT YthjnodchmedlfaaProg.lean LOADS. Nothing in Lean hashes anything: it is a label: what it is worth is what the hold of that sum in a sandbox is worth. -/
noncomputable def Try.pinned : Pinned := { name := "ythjnodchmedlfaa", sum := "0c1f73f5f463cead4acf2a9c491f90ef58cc4ed6cc85576bf7ae8076e57df428", checked := Try.checked }
namespace Rows
def none {H : Type} : Left H := { results := [], args := [] }

/-- 'turbojetlaw14.ScheduleTells': WHATEVER THE INPUT: true; the input reads as it did. -/
def scheduleTellsSpec : ChangeSpec := { name := "scheduleTells", fn := fun _ => fun
  | [d1, d2, d3, d4, d5] => { results := [.lit (.bool true)], args := [d1, d2, d3, d4, d5] }
  | _ => none }
def scheduleTellsRow : OpenClaim := { program := "ythjnodchmedlfaa", sum := "0c1f73f5f463cead4acf2a9c491f90ef58cc4ed6cc85576bf7ae8076e57df428", func := "turbojet/turbojetlaw14.ScheduleTells", spec := "scheduleTells", unfollowed := true, recurses := true, apart := false }
def ScheduleTellsSaid : Prop := scheduleTellsRow.holds Try.pinned (OpenSpec.ofChange scheduleTellsSpec)

/-- ITS FALSE NEIGHBOUR: 'it returns false'. Refute it at one input. -/
def scheduleTellsWrong : ChangeSpec := { name := "scheduleTells", fn := fun _ => fun
  | [d1, d2, d3, d4, d5] => { results := [.lit (.bool false)], args := [d1, d2, d3, d4, d5] }
  | _ => none }
def ScheduleTellsWrongFalsely : Prop := scheduleTellsRow.holds Try.pinned (OpenSpec.ofChange scheduleTellsWrong)

/-- 'turbojetlaw14.ScheduleSlews': WHATEVER THE INPUT: true; the input reads as it did. -/
def scheduleSlewsSpec : ChangeSpec := { name := "scheduleSlews", fn := fun _ => fun
  | [d1, d2, d3, d4, d5] => { results := [.lit (.bool true)], args := [d1, d2, d3, d4, d5] }
  | _ => none }
def scheduleSlewsRow : OpenClaim := { program := "ythjnodchmedlfaa", sum := "0c1f73f5f463cead4acf2a9c491f90ef58cc4ed6cc85576bf7ae8076e57df428", func := "turbojet/turbojetlaw14.ScheduleSlews", spec := "scheduleSlews", unfollowed := true, recurses := true, apart := false }
def ScheduleSlewsSaid : Prop := scheduleSlewsRow.holds Try.pinned (OpenSpec.ofChange scheduleSlewsSpec)

/-- ITS FALSE NEIGHBOUR: 'it returns false'. Refute it at one input. -/
def scheduleSlewsWrong : ChangeSpec := { name := "scheduleSlews", fn := fun _ => fun
  | [d1, d2, d3, d4, d5] => { results := [.lit (.bool false)], args := [d1, d2, d3, d4, d5] }
  | _ => none }
def ScheduleSlewsWrongFalsely : Prop := scheduleSlewsRow.holds Try.pinned (OpenSpec.ofChange scheduleSlewsWrong)

/-- 'turbojetlaw14.ScheduleRises': WHATEVER THE INPUT: true; the input reads as it did. -/
def scheduleRisesSpec : ChangeSpec := { name := "scheduleRises", fn := fun _ => fun
  | [d1, d2, d3, d4, d5, d6] => { results := [.lit (.bool true)], args := [d1, d2, d3, d4, d5, d6] }
  | _ => none }
def scheduleRisesRow : OpenClaim := { program := "ythjnodchmedlfaa", sum := "0c1f73f5f463cead4acf2a9c491f90ef58cc4ed6cc85576bf7ae8076e57df428", func := "turbojet/turbojetlaw14.ScheduleRises", spec := "scheduleRises", unfollowed := true, recurses := true, apart := false }
def ScheduleRisesSaid : Prop := scheduleRisesRow.holds Try.pinned (OpenSpec.ofChange scheduleRisesSpec)

/-- ITS FALSE NEIGHBOUR: 'it returns false'. Refute it at one input. -/
def scheduleRisesWrong : ChangeSpec := { name := "scheduleRises", fn := fun _ => fun
  | [d1, d2, d3, d4, d5, d6] => { results := [.lit (.bool false)], args := [d1, d2, d3, d4, d5, d6] }
  | _ => none }
def ScheduleRisesWrongFalsely : Prop := scheduleRisesRow.holds Try.pinned (OpenSpec.ofChange scheduleRisesWrong)

/-- 'turbojetlaw14.ScheduleStill': WHATEVER THE INPUT: true; the input reads as it did. -/
def scheduleStillSpec : ChangeSpec := { name := "scheduleStill", fn := fun _ => fun
  | [d1, d2, d3, d4, d5] => { results := [.lit (.bool true)], args := [d1, d2, d3, d4, d5] }
  | _ => none }
def scheduleStillRow : OpenClaim := { program := "ythjnodchmedlfaa", sum := "0c1f73f5f463cead4acf2a9c491f90ef58cc4ed6cc85576bf7ae8076e57df428", func := "turbojet/turbojetlaw14.ScheduleStill", spec := "scheduleStill", unfollowed := true, recurses := true, apart := false }
def ScheduleStillSaid : Prop := scheduleStillRow.holds Try.pinned (OpenSpec.ofChange scheduleStillSpec)

/-- ITS FALSE NEIGHBOUR: 'it returns false'. Refute it at one input. -/
def scheduleStillWrong : ChangeSpec := { name := "scheduleStill", fn := fun _ => fun
  | [d1, d2, d3, d4, d5] => { results := [.lit (.bool false)], args := [d1, d2, d3, d4, d5] }
  | _ => none }
def ScheduleStillWrongFalsely : Prop := scheduleStillRow.holds Try.pinned (OpenSpec.ofChange scheduleStillWrong)

/- THE SECOND FORM. 'bulk': how many values and letters a reading holds, each counted each time it is reached (what is shared counts as often as it is met; a slice's spare places count too). A statement '..UptoSaid' is the law's where the arguments, and the package variables that the reading takes, are together of bulk at most 1048576: NARROWER than '..Said'. Prove '..Said' where nothing that the law and all that it calls make is longer than what came in: it says more and counts as full. Else prove '..UptoSaid'. A law counts once. -/
mutual
def uptoBulk {H : Type} : DataW H → Nat
  | .lit (.string bytes) => bytes.length + 1
  | .lit _ => 1
  | .nil => 1
  | .ptr d => uptoBulk d + 1
  | .slice elems spare => uptoBulkAll elems + uptoBulkAll spare + 1
  | .agg parts => uptoBulkAll parts + 1
  | .iface _ d => uptoBulk d + 1
  | .map entries => uptoBulkEntries entries + 1
  | .held _ => 1
def uptoBulkAll {H : Type} : List (DataW H) → Nat
  | [] => 0
  | d :: r => uptoBulk d + uptoBulkAll r
def uptoBulkEntries {H : Type} : List (Lit × DataW H) → Nat
  | [] => 0
  | x :: r => uptoBulkEntry x + uptoBulkEntries r
def uptoBulkEntry {H : Type} : Lit × DataW H → Nat
  | (.string bytes, d) => bytes.length + uptoBulk d + 1
  | (_, d) => uptoBulk d + 1
 end
def uptoSmall : (H : Type) → List (DataW H) → Bool := fun _ ds => decide (uptoBulkAll ds ≤ 1048576)
def OpenSpec.upto (s : _root_.Go.ChangeSpec) : _root_.Go.OpenSpec := { _root_.Go.OpenSpec.ofChange s with cond := some uptoSmall }

/-- 'turbojetlaw14.ScheduleTells', WHERE WHAT IT READS IS OF BULK AT MOST 1048576: true; the input reads as it did. -/
def scheduleTellsUptoRow : OpenClaim := { program := "ythjnodchmedlfaa", sum := "0c1f73f5f463cead4acf2a9c491f90ef58cc4ed6cc85576bf7ae8076e57df428", func := "turbojet/turbojetlaw14.ScheduleTells", spec := "scheduleTells", unfollowed := true, recurses := true, apart := false, narrowed := true }
def ScheduleTellsUptoSaid : Prop := scheduleTellsUptoRow.holds Try.pinned (OpenSpec.upto scheduleTellsSpec)

/-- 'turbojetlaw14.ScheduleSlews', WHERE WHAT IT READS IS OF BULK AT MOST 1048576: true; the input reads as it did. -/
def scheduleSlewsUptoRow : OpenClaim := { program := "ythjnodchmedlfaa", sum := "0c1f73f5f463cead4acf2a9c491f90ef58cc4ed6cc85576bf7ae8076e57df428", func := "turbojet/turbojetlaw14.ScheduleSlews", spec := "scheduleSlews", unfollowed := true, recurses := true, apart := false, narrowed := true }
def ScheduleSlewsUptoSaid : Prop := scheduleSlewsUptoRow.holds Try.pinned (OpenSpec.upto scheduleSlewsSpec)

/-- 'turbojetlaw14.ScheduleRises', WHERE WHAT IT READS IS OF BULK AT MOST 1048576: true; the input reads as it did. -/
def scheduleRisesUptoRow : OpenClaim := { program := "ythjnodchmedlfaa", sum := "0c1f73f5f463cead4acf2a9c491f90ef58cc4ed6cc85576bf7ae8076e57df428", func := "turbojet/turbojetlaw14.ScheduleRises", spec := "scheduleRises", unfollowed := true, recurses := true, apart := false, narrowed := true }
def ScheduleRisesUptoSaid : Prop := scheduleRisesUptoRow.holds Try.pinned (OpenSpec.upto scheduleRisesSpec)

/-- 'turbojetlaw14.ScheduleStill', WHERE WHAT IT READS IS OF BULK AT MOST 1048576: true; the input reads as it did. -/
def scheduleStillUptoRow : OpenClaim := { program := "ythjnodchmedlfaa", sum := "0c1f73f5f463cead4acf2a9c491f90ef58cc4ed6cc85576bf7ae8076e57df428", func := "turbojet/turbojetlaw14.ScheduleStill", spec := "scheduleStill", unfollowed := true, recurses := true, apart := false, narrowed := true }
def ScheduleStillUptoSaid : Prop := scheduleStillUptoRow.holds Try.pinned (OpenSpec.upto scheduleStillSpec)

end Rows
end Go.Proofs.Ythjnodchmedlfaa
