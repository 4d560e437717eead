/-
  No cell of these rows narrows 'for every input' (looked for: loops, veiled, ifaces, maps, wideKeys, modest, calm, conditions, laid).
  DERIVED. THE GIVEN ROWS OF THIS SEAT. 4 by the template 'for every input the law returns true; each argument reads behind the call as it read before'; 0 by the template 'total and deterministic' (their statements: YtimflomgaknoaaaTotals.lean).
  GIVEN WITH THE SEED: the statements are not yours to turn. If you find one false, say at which input.
  Laid BY PROGRAM, IN A SANDBOX (cutbox-rows.mjs): the forced cells as the released guide's own fill.sh prints them over the translation 4919ee5fb8b201e0… (all of the seat's roots in one cut). By AI agents, Wed Nov 11 2026. No macro, syntax, notation, axiom, sorry.
-/
import Derived.Test.YtimflomgaknoaaaChecked
import GoSem.Claim
import GoSem.ClaimJoined
import GoSem.ClaimMapViews
import Derived.JoinedTies
import Derived.KernelRfl
namespace Go.Proofs.Ytimflomgaknoaaa
/- THE CELL 'sum', in the pinned program and in every row, IS THE sha256 OF THE DUMP (.gsa) THAT YtimflomgaknoaaaProg.lean LOADS. Nothing in Lean hashes anything: it is a label: what it is worth is what the hold of that sum in a sandbox is worth. -/
noncomputable def Try.pinned : Pinned := { name := "ytimflomgaknoaaa", sum := "4919ee5fb8b201e08bd23dd85622abc8b77618ddee3255c1ffad59c709d215d4", checked := Try.checked }
namespace Rows
def none {H : Type} : Left H := { results := [], args := [] }

/-- 'turbojetlaw08.CheckTells': WHATEVER THE INPUT: true; the input reads as it did. -/
def checkTellsSpec : ChangeSpec := { name := "checkTells", fn := fun _ => fun
  | [d1, d2, d3] => { results := [.lit (.bool true)], args := [d1, d2, d3] }
  | _ => none }
def checkTellsRow : OpenClaim := { program := "ytimflomgaknoaaa", sum := "4919ee5fb8b201e08bd23dd85622abc8b77618ddee3255c1ffad59c709d215d4", func := "turbojet/turbojetlaw08.CheckTells", spec := "checkTells", unfollowed := true, recurses := true, apart := false }
def CheckTellsSaid : Prop := checkTellsRow.holds Try.pinned (OpenSpec.ofChange checkTellsSpec)

/-- ITS FALSE NEIGHBOUR: 'it returns false'. Refute it at one input. -/
def checkTellsWrong : ChangeSpec := { name := "checkTells", fn := fun _ => fun
  | [d1, d2, d3] => { results := [.lit (.bool false)], args := [d1, d2, d3] }
  | _ => none }
def CheckTellsWrongFalsely : Prop := checkTellsRow.holds Try.pinned (OpenSpec.ofChange checkTellsWrong)

/-- 'turbojetlaw08.CheckPlays': WHATEVER THE INPUT: true; the input reads as it did. -/
def checkPlaysSpec : ChangeSpec := { name := "checkPlays", fn := fun _ => fun
  | [d1, d2] => { results := [.lit (.bool true)], args := [d1, d2] }
  | _ => none }
def checkPlaysRow : OpenClaim := { program := "ytimflomgaknoaaa", sum := "4919ee5fb8b201e08bd23dd85622abc8b77618ddee3255c1ffad59c709d215d4", func := "turbojet/turbojetlaw08.CheckPlays", spec := "checkPlays", unfollowed := true, recurses := true, apart := false }
def CheckPlaysSaid : Prop := checkPlaysRow.holds Try.pinned (OpenSpec.ofChange checkPlaysSpec)

/-- ITS FALSE NEIGHBOUR: 'it returns false'. Refute it at one input. -/
def checkPlaysWrong : ChangeSpec := { name := "checkPlays", fn := fun _ => fun
  | [d1, d2] => { results := [.lit (.bool false)], args := [d1, d2] }
  | _ => none }
def CheckPlaysWrongFalsely : Prop := checkPlaysRow.holds Try.pinned (OpenSpec.ofChange checkPlaysWrong)

/-- 'turbojetlaw08.CheckLost': WHATEVER THE INPUT: true; the input reads as it did. -/
def checkLostSpec : ChangeSpec := { name := "checkLost", fn := fun _ => fun
  | [d1, d2] => { results := [.lit (.bool true)], args := [d1, d2] }
  | _ => none }
def checkLostRow : OpenClaim := { program := "ytimflomgaknoaaa", sum := "4919ee5fb8b201e08bd23dd85622abc8b77618ddee3255c1ffad59c709d215d4", func := "turbojet/turbojetlaw08.CheckLost", spec := "checkLost", unfollowed := true, recurses := true, apart := false }
def CheckLostSaid : Prop := checkLostRow.holds Try.pinned (OpenSpec.ofChange checkLostSpec)

/-- ITS FALSE NEIGHBOUR: 'it returns false'. Refute it at one input. -/
def checkLostWrong : ChangeSpec := { name := "checkLost", fn := fun _ => fun
  | [d1, d2] => { results := [.lit (.bool false)], args := [d1, d2] }
  | _ => none }
def CheckLostWrongFalsely : Prop := checkLostRow.holds Try.pinned (OpenSpec.ofChange checkLostWrong)

/-- 'turbojetlaw08.CheckFirst': WHATEVER THE INPUT: true; the input reads as it did. -/
def checkFirstSpec : ChangeSpec := { name := "checkFirst", fn := fun _ => fun
  | [d1, d2, d3] => { results := [.lit (.bool true)], args := [d1, d2, d3] }
  | _ => none }
def checkFirstRow : OpenClaim := { program := "ytimflomgaknoaaa", sum := "4919ee5fb8b201e08bd23dd85622abc8b77618ddee3255c1ffad59c709d215d4", func := "turbojet/turbojetlaw08.CheckFirst", spec := "checkFirst", unfollowed := true, recurses := true, apart := false }
def CheckFirstSaid : Prop := checkFirstRow.holds Try.pinned (OpenSpec.ofChange checkFirstSpec)

/-- ITS FALSE NEIGHBOUR: 'it returns false'. Refute it at one input. -/
def checkFirstWrong : ChangeSpec := { name := "checkFirst", fn := fun _ => fun
  | [d1, d2, d3] => { results := [.lit (.bool false)], args := [d1, d2, d3] }
  | _ => none }
def CheckFirstWrongFalsely : Prop := checkFirstRow.holds Try.pinned (OpenSpec.ofChange checkFirstWrong)

/- THE SECOND FORM. 'bulk': how many values and letters a reading holds, each counted each time it is reached (what is shared counts as often as it is met; a slice's spare places count too). A statement '..UptoSaid' is the law's where the arguments, and the package variables that the reading takes, are together of bulk at most 1048576: NARROWER than '..Said'. Prove '..Said' where nothing that the law and all that it calls make is longer than what came in: it says more and counts as full. Else prove '..UptoSaid'. A law counts once. -/
mutual
def uptoBulk {H : Type} : DataW H → Nat
  | .lit (.string bytes) => bytes.length + 1
  | .lit _ => 1
  | .nil => 1
  | .ptr d => uptoBulk d + 1
  | .slice elems spare => uptoBulkAll elems + uptoBulkAll spare + 1
  | .agg parts => uptoBulkAll parts + 1
  | .iface _ d => uptoBulk d + 1
  | .map entries => uptoBulkEntries entries + 1
  | .held _ => 1
def uptoBulkAll {H : Type} : List (DataW H) → Nat
  | [] => 0
  | d :: r => uptoBulk d + uptoBulkAll r
def uptoBulkEntries {H : Type} : List (Lit × DataW H) → Nat
  | [] => 0
  | x :: r => uptoBulkEntry x + uptoBulkEntries r
def uptoBulkEntry {H : Type} : Lit × DataW H → Nat
  | (.string bytes, d) => bytes.length + uptoBulk d + 1
  | (_, d) => uptoBulk d + 1
 end
def uptoSmall : (H : Type) → List (DataW H) → Bool := fun _ ds => decide (uptoBulkAll ds ≤ 1048576)
def OpenSpec.upto (s : _root_.Go.ChangeSpec) : _root_.Go.OpenSpec := { _root_.Go.OpenSpec.ofChange s with cond := some uptoSmall }

/-- 'turbojetlaw08.CheckTells', WHERE WHAT IT READS IS OF BULK AT MOST 1048576: true; the input reads as it did. -/
def checkTellsUptoRow : OpenClaim := { program := "ytimflomgaknoaaa", sum := "4919ee5fb8b201e08bd23dd85622abc8b77618ddee3255c1ffad59c709d215d4", func := "turbojet/turbojetlaw08.CheckTells", spec := "checkTells", unfollowed := true, recurses := true, apart := false, narrowed := true }
def CheckTellsUptoSaid : Prop := checkTellsUptoRow.holds Try.pinned (OpenSpec.upto checkTellsSpec)

/-- 'turbojetlaw08.CheckPlays', WHERE WHAT IT READS IS OF BULK AT MOST 1048576: true; the input reads as it did. -/
def checkPlaysUptoRow : OpenClaim := { program := "ytimflomgaknoaaa", sum := "4919ee5fb8b201e08bd23dd85622abc8b77618ddee3255c1ffad59c709d215d4", func := "turbojet/turbojetlaw08.CheckPlays", spec := "checkPlays", unfollowed := true, recurses := true, apart := false, narrowed := true }
def CheckPlaysUptoSaid : Prop := checkPlaysUptoRow.holds Try.pinned (OpenSpec.upto checkPlaysSpec)

/-- 'turbojetlaw08.CheckLost', WHERE WHAT IT READS IS OF BULK AT MOST 1048576: true; the input reads as it did. -/
def checkLostUptoRow : OpenClaim := { program := "ytimflomgaknoaaa", sum := "4919ee5fb8b201e08bd23dd85622abc8b77618ddee3255c1ffad59c709d215d4", func := "turbojet/turbojetlaw08.CheckLost", spec := "checkLost", unfollowed := true, recurses := true, apart := false, narrowed := true }
def CheckLostUptoSaid : Prop := checkLostUptoRow.holds Try.pinned (OpenSpec.upto checkLostSpec)

/-- 'turbojetlaw08.CheckFirst', WHERE WHAT IT READS IS OF BULK AT MOST 1048576: true; the input reads as it did. -/
def checkFirstUptoRow : OpenClaim := { program := "ytimflomgaknoaaa", sum := "4919ee5fb8b201e08bd23dd85622abc8b77618ddee3255c1ffad59c709d215d4", func := "turbojet/turbojetlaw08.CheckFirst", spec := "checkFirst", unfollowed := true, recurses := true, apart := false, narrowed := true }
def CheckFirstUptoSaid : Prop := checkFirstUptoRow.holds Try.pinned (OpenSpec.upto checkFirstSpec)

end Rows
end Go.Proofs.Ytimflomgaknoaaa
