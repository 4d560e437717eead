/-
  No cell of these rows narrows 'for every input' (looked for: loops, veiled, ifaces, maps, wideKeys, modest, calm, conditions, laid).
  DERIVED. THE GIVEN ROWS OF THIS SEAT. 5 by the template 'for every input the law returns true; each argument reads behind the call as it read before'; 0 by the template 'total and deterministic' (their statements: YtealfomdfnpmpaaTotals.lean).
  GIVEN WITH THE SEED: the statements are not yours to turn. If you find one false, say at which input.
  Laid BY PROGRAM, IN A SANDBOX (cutbox-rows.mjs): the forced cells as the released guide's own fill.sh prints them over the translation b64b2ed408589154… (all of the seat's roots in one cut). By AI agents, Wed Nov 11 2026. No macro, syntax, notation, axiom, sorry.
-/
import Derived.Test.YtealfomdfnpmpaaChecked
import GoSem.Claim
import GoSem.ClaimJoined
import GoSem.ClaimMapViews
import Derived.JoinedTies
import Derived.KernelRfl
namespace Go.Proofs.Ytealfomdfnpmpaa
/- THE CELL 'sum', in the pinned program and in every row, IS THE sha256 OF THE DUMP (.gsa) THAT YtealfomdfnpmpaaProg.lean LOADS. Nothing in Lean hashes anything: it is a label: what it is worth is what the hold of that sum in a sandbox is worth. -/
noncomputable def Try.pinned : Pinned := { name := "ytealfomdfnpmpaa", sum := "b64b2ed408589154908560b9e197faa0d54a32a5d29c92020ec2ffb22eb72fc8", checked := Try.checked }
namespace Rows
def none {H : Type} : Left H := { results := [], args := [] }

/-- 'turbojetlaw07.InjectNames': WHATEVER THE INPUT: true; the input reads as it did. -/
def injectNamesSpec : ChangeSpec := { name := "injectNames", fn := fun _ => fun
  | [] => { results := [.lit (.bool true)], args := [] }
  | _ => none }
def injectNamesRow : OpenClaim := { program := "ytealfomdfnpmpaa", sum := "b64b2ed408589154908560b9e197faa0d54a32a5d29c92020ec2ffb22eb72fc8", func := "turbojet/turbojetlaw07.InjectNames", spec := "injectNames", unfollowed := true, recurses := true, apart := false }
def InjectNamesSaid : Prop := injectNamesRow.holds Try.pinned (OpenSpec.ofChange injectNamesSpec)

/-- ITS FALSE NEIGHBOUR: 'it returns false'. Refute it at one input. -/
def injectNamesWrong : ChangeSpec := { name := "injectNames", fn := fun _ => fun
  | [] => { results := [.lit (.bool false)], args := [] }
  | _ => none }
def InjectNamesWrongFalsely : Prop := injectNamesRow.holds Try.pinned (OpenSpec.ofChange injectNamesWrong)

/-- 'turbojetlaw07.InjectTells': WHATEVER THE INPUT: true; the input reads as it did. -/
def injectTellsSpec : ChangeSpec := { name := "injectTells", fn := fun _ => fun
  | [d1, d2, d3, d4] => { results := [.lit (.bool true)], args := [d1, d2, d3, d4] }
  | _ => none }
def injectTellsRow : OpenClaim := { program := "ytealfomdfnpmpaa", sum := "b64b2ed408589154908560b9e197faa0d54a32a5d29c92020ec2ffb22eb72fc8", func := "turbojet/turbojetlaw07.InjectTells", spec := "injectTells", unfollowed := true, recurses := true, apart := false }
def InjectTellsSaid : Prop := injectTellsRow.holds Try.pinned (OpenSpec.ofChange injectTellsSpec)

/-- ITS FALSE NEIGHBOUR: 'it returns false'. Refute it at one input. -/
def injectTellsWrong : ChangeSpec := { name := "injectTells", fn := fun _ => fun
  | [d1, d2, d3, d4] => { results := [.lit (.bool false)], args := [d1, d2, d3, d4] }
  | _ => none }
def InjectTellsWrongFalsely : Prop := injectTellsRow.holds Try.pinned (OpenSpec.ofChange injectTellsWrong)

/-- 'turbojetlaw07.InjectStays': WHATEVER THE INPUT: true; the input reads as it did. -/
def injectStaysSpec : ChangeSpec := { name := "injectStays", fn := fun _ => fun
  | [d1, d2, d3, d4] => { results := [.lit (.bool true)], args := [d1, d2, d3, d4] }
  | _ => none }
def injectStaysRow : OpenClaim := { program := "ytealfomdfnpmpaa", sum := "b64b2ed408589154908560b9e197faa0d54a32a5d29c92020ec2ffb22eb72fc8", func := "turbojet/turbojetlaw07.InjectStays", spec := "injectStays", unfollowed := true, recurses := true, apart := false }
def InjectStaysSaid : Prop := injectStaysRow.holds Try.pinned (OpenSpec.ofChange injectStaysSpec)

/-- ITS FALSE NEIGHBOUR: 'it returns false'. Refute it at one input. -/
def injectStaysWrong : ChangeSpec := { name := "injectStays", fn := fun _ => fun
  | [d1, d2, d3, d4] => { results := [.lit (.bool false)], args := [d1, d2, d3, d4] }
  | _ => none }
def InjectStaysWrongFalsely : Prop := injectStaysRow.holds Try.pinned (OpenSpec.ofChange injectStaysWrong)

/-- 'turbojetlaw07.InjectOne': WHATEVER THE INPUT: true; the input reads as it did. -/
def injectOneSpec : ChangeSpec := { name := "injectOne", fn := fun _ => fun
  | [d1, d2, d3, d4, d5] => { results := [.lit (.bool true)], args := [d1, d2, d3, d4, d5] }
  | _ => none }
def injectOneRow : OpenClaim := { program := "ytealfomdfnpmpaa", sum := "b64b2ed408589154908560b9e197faa0d54a32a5d29c92020ec2ffb22eb72fc8", func := "turbojet/turbojetlaw07.InjectOne", spec := "injectOne", unfollowed := true, recurses := true, apart := false }
def InjectOneSaid : Prop := injectOneRow.holds Try.pinned (OpenSpec.ofChange injectOneSpec)

/-- ITS FALSE NEIGHBOUR: 'it returns false'. Refute it at one input. -/
def injectOneWrong : ChangeSpec := { name := "injectOne", fn := fun _ => fun
  | [d1, d2, d3, d4, d5] => { results := [.lit (.bool false)], args := [d1, d2, d3, d4, d5] }
  | _ => none }
def InjectOneWrongFalsely : Prop := injectOneRow.holds Try.pinned (OpenSpec.ofChange injectOneWrong)

/-- 'turbojetlaw07.InjectAdds': WHATEVER THE INPUT: true; the input reads as it did. -/
def injectAddsSpec : ChangeSpec := { name := "injectAdds", fn := fun _ => fun
  | [d1, d2, d3, d4, d5] => { results := [.lit (.bool true)], args := [d1, d2, d3, d4, d5] }
  | _ => none }
def injectAddsRow : OpenClaim := { program := "ytealfomdfnpmpaa", sum := "b64b2ed408589154908560b9e197faa0d54a32a5d29c92020ec2ffb22eb72fc8", func := "turbojet/turbojetlaw07.InjectAdds", spec := "injectAdds", unfollowed := true, recurses := true, apart := false }
def InjectAddsSaid : Prop := injectAddsRow.holds Try.pinned (OpenSpec.ofChange injectAddsSpec)

/-- ITS FALSE NEIGHBOUR: 'it returns false'. Refute it at one input. -/
def injectAddsWrong : ChangeSpec := { name := "injectAdds", fn := fun _ => fun
  | [d1, d2, d3, d4, d5] => { results := [.lit (.bool false)], args := [d1, d2, d3, d4, d5] }
  | _ => none }
def InjectAddsWrongFalsely : Prop := injectAddsRow.holds Try.pinned (OpenSpec.ofChange injectAddsWrong)

/- THE SECOND FORM. 'bulk': how many values and letters a reading holds, each counted each time it is reached (what is shared counts as often as it is met; a slice's spare places count too). A statement '..UptoSaid' is the law's where the arguments, and the package variables that the reading takes, are together of bulk at most 1048576: NARROWER than '..Said'. Prove '..Said' where nothing that the law and all that it calls make is longer than what came in: it says more and counts as full. Else prove '..UptoSaid'. A law counts once. -/
mutual
def uptoBulk {H : Type} : DataW H → Nat
  | .lit (.string bytes) => bytes.length + 1
  | .lit _ => 1
  | .nil => 1
  | .ptr d => uptoBulk d + 1
  | .slice elems spare => uptoBulkAll elems + uptoBulkAll spare + 1
  | .agg parts => uptoBulkAll parts + 1
  | .iface _ d => uptoBulk d + 1
  | .map entries => uptoBulkEntries entries + 1
  | .held _ => 1
def uptoBulkAll {H : Type} : List (DataW H) → Nat
  | [] => 0
  | d :: r => uptoBulk d + uptoBulkAll r
def uptoBulkEntries {H : Type} : List (Lit × DataW H) → Nat
  | [] => 0
  | x :: r => uptoBulkEntry x + uptoBulkEntries r
def uptoBulkEntry {H : Type} : Lit × DataW H → Nat
  | (.string bytes, d) => bytes.length + uptoBulk d + 1
  | (_, d) => uptoBulk d + 1
 end
def uptoSmall : (H : Type) → List (DataW H) → Bool := fun _ ds => decide (uptoBulkAll ds ≤ 1048576)
def OpenSpec.upto (s : _root_.Go.ChangeSpec) : _root_.Go.OpenSpec := { _root_.Go.OpenSpec.ofChange s with cond := some uptoSmall }

/-- 'turbojetlaw07.InjectNames', WHERE WHAT IT READS IS OF BULK AT MOST 1048576: true; the input reads as it did. -/
def injectNamesUptoRow : OpenClaim := { program := "ytealfomdfnpmpaa", sum := "b64b2ed408589154908560b9e197faa0d54a32a5d29c92020ec2ffb22eb72fc8", func := "turbojet/turbojetlaw07.InjectNames", spec := "injectNames", unfollowed := true, recurses := true, apart := false, narrowed := true }
def InjectNamesUptoSaid : Prop := injectNamesUptoRow.holds Try.pinned (OpenSpec.upto injectNamesSpec)

/-- 'turbojetlaw07.InjectTells', WHERE WHAT IT READS IS OF BULK AT MOST 1048576: true; the input reads as it did. -/
def injectTellsUptoRow : OpenClaim := { program := "ytealfomdfnpmpaa", sum := "b64b2ed408589154908560b9e197faa0d54a32a5d29c92020ec2ffb22eb72fc8", func := "turbojet/turbojetlaw07.InjectTells", spec := "injectTells", unfollowed := true, recurses := true, apart := false, narrowed := true }
def InjectTellsUptoSaid : Prop := injectTellsUptoRow.holds Try.pinned (OpenSpec.upto injectTellsSpec)

/-- 'turbojetlaw07.InjectStays', WHERE WHAT IT READS IS OF BULK AT MOST 1048576: true; the input reads as it did. -/
def injectStaysUptoRow : OpenClaim := { program := "ytealfomdfnpmpaa", sum := "b64b2ed408589154908560b9e197faa0d54a32a5d29c92020ec2ffb22eb72fc8", func := "turbojet/turbojetlaw07.InjectStays", spec := "injectStays", unfollowed := true, recurses := true, apart := false, narrowed := true }
def InjectStaysUptoSaid : Prop := injectStaysUptoRow.holds Try.pinned (OpenSpec.upto injectStaysSpec)

/-- 'turbojetlaw07.InjectOne', WHERE WHAT IT READS IS OF BULK AT MOST 1048576: true; the input reads as it did. -/
def injectOneUptoRow : OpenClaim := { program := "ytealfomdfnpmpaa", sum := "b64b2ed408589154908560b9e197faa0d54a32a5d29c92020ec2ffb22eb72fc8", func := "turbojet/turbojetlaw07.InjectOne", spec := "injectOne", unfollowed := true, recurses := true, apart := false, narrowed := true }
def InjectOneUptoSaid : Prop := injectOneUptoRow.holds Try.pinned (OpenSpec.upto injectOneSpec)

/-- 'turbojetlaw07.InjectAdds', WHERE WHAT IT READS IS OF BULK AT MOST 1048576: true; the input reads as it did. -/
def injectAddsUptoRow : OpenClaim := { program := "ytealfomdfnpmpaa", sum := "b64b2ed408589154908560b9e197faa0d54a32a5d29c92020ec2ffb22eb72fc8", func := "turbojet/turbojetlaw07.InjectAdds", spec := "injectAdds", unfollowed := true, recurses := true, apart := false, narrowed := true }
def InjectAddsUptoSaid : Prop := injectAddsUptoRow.holds Try.pinned (OpenSpec.upto injectAddsSpec)

end Rows
end Go.Proofs.Ytealfomdfnpmpaa
