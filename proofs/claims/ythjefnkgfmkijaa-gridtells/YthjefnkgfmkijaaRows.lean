/-
  No cell of these rows narrows 'for every input' (looked for: loops, veiled, ifaces, maps, wideKeys, modest, calm, conditions, laid).
  DERIVED. THE GIVEN ROWS OF THIS SEAT. 6 by the template 'for every input the law returns true; each argument reads behind the call as it read before'; 0 by the template 'total and deterministic' (their statements: YthjefnkgfmkijaaTotals.lean).
  GIVEN WITH THE SEED: the statements are not yours to turn. If you find one false, say at which input.
  Laid BY PROGRAM, IN A SANDBOX (cutbox-rows.mjs): the forced cells as the released guide's own fill.sh prints them over the translation 1915bde52e807de2… (all of the seat's roots in one cut). By AI agents, Wed Nov 11 2026. No macro, syntax, notation, axiom, sorry.
-/
import Derived.Test.YthjefnkgfmkijaaChecked
import GoSem.Claim
import GoSem.ClaimJoined
import GoSem.ClaimMapViews
import Derived.JoinedTies
import Derived.KernelRfl
namespace Go.Proofs.Ythjefnkgfmkijaa
/- THE CELL 'sum', in the pinned program and in every row, IS THE sha256 OF THE DUMP (.gsa) THAT YthjefnkgfmkijaaProg.lean LOADS. Nothing in Lean hashes anything: it is a label: what it is worth is what the hold of that sum in a sandbox is worth. -/
noncomputable def Try.pinned : Pinned := { name := "ythjefnkgfmkijaa", sum := "1915bde52e807de289ce1a172ff6b1012a48aa920aecf23f44c1a0067f8300f6", checked := Try.checked }
namespace Rows
def none {H : Type} : Left H := { results := [], args := [] }

/-- 'turbojetlaw03.GridNames': WHATEVER THE INPUT: true; the input reads as it did. -/
def gridNamesSpec : ChangeSpec := { name := "gridNames", fn := fun _ => fun
  | [] => { results := [.lit (.bool true)], args := [] }
  | _ => none }
def gridNamesRow : OpenClaim := { program := "ythjefnkgfmkijaa", sum := "1915bde52e807de289ce1a172ff6b1012a48aa920aecf23f44c1a0067f8300f6", func := "turbojet/turbojetlaw03.GridNames", spec := "gridNames", unfollowed := true, recurses := true, apart := false }
def GridNamesSaid : Prop := gridNamesRow.holds Try.pinned (OpenSpec.ofChange gridNamesSpec)

/-- ITS FALSE NEIGHBOUR: 'it returns false'. Refute it at one input. -/
def gridNamesWrong : ChangeSpec := { name := "gridNames", fn := fun _ => fun
  | [] => { results := [.lit (.bool false)], args := [] }
  | _ => none }
def GridNamesWrongFalsely : Prop := gridNamesRow.holds Try.pinned (OpenSpec.ofChange gridNamesWrong)

/-- 'turbojetlaw03.GridTells': WHATEVER THE INPUT: true; the input reads as it did. -/
def gridTellsSpec : ChangeSpec := { name := "gridTells", fn := fun _ => fun
  | [d1, d2, d3] => { results := [.lit (.bool true)], args := [d1, d2, d3] }
  | _ => none }
def gridTellsRow : OpenClaim := { program := "ythjefnkgfmkijaa", sum := "1915bde52e807de289ce1a172ff6b1012a48aa920aecf23f44c1a0067f8300f6", func := "turbojet/turbojetlaw03.GridTells", spec := "gridTells", unfollowed := true, recurses := true, apart := false }
def GridTellsSaid : Prop := gridTellsRow.holds Try.pinned (OpenSpec.ofChange gridTellsSpec)

/-- ITS FALSE NEIGHBOUR: 'it returns false'. Refute it at one input. -/
def gridTellsWrong : ChangeSpec := { name := "gridTells", fn := fun _ => fun
  | [d1, d2, d3] => { results := [.lit (.bool false)], args := [d1, d2, d3] }
  | _ => none }
def GridTellsWrongFalsely : Prop := gridTellsRow.holds Try.pinned (OpenSpec.ofChange gridTellsWrong)

/-- 'turbojetlaw03.GridTables': WHATEVER THE INPUT: true; the input reads as it did. -/
def gridTablesSpec : ChangeSpec := { name := "gridTables", fn := fun _ => fun
  | [d1, d2, d3] => { results := [.lit (.bool true)], args := [d1, d2, d3] }
  | _ => none }
def gridTablesRow : OpenClaim := { program := "ythjefnkgfmkijaa", sum := "1915bde52e807de289ce1a172ff6b1012a48aa920aecf23f44c1a0067f8300f6", func := "turbojet/turbojetlaw03.GridTables", spec := "gridTables", unfollowed := true, recurses := true, apart := false }
def GridTablesSaid : Prop := gridTablesRow.holds Try.pinned (OpenSpec.ofChange gridTablesSpec)

/-- ITS FALSE NEIGHBOUR: 'it returns false'. Refute it at one input. -/
def gridTablesWrong : ChangeSpec := { name := "gridTables", fn := fun _ => fun
  | [d1, d2, d3] => { results := [.lit (.bool false)], args := [d1, d2, d3] }
  | _ => none }
def GridTablesWrongFalsely : Prop := gridTablesRow.holds Try.pinned (OpenSpec.ofChange gridTablesWrong)

/-- 'turbojetlaw03.GridBetween': WHATEVER THE INPUT: true; the input reads as it did. -/
def gridBetweenSpec : ChangeSpec := { name := "gridBetween", fn := fun _ => fun
  | [d1, d2, d3, d4] => { results := [.lit (.bool true)], args := [d1, d2, d3, d4] }
  | _ => none }
def gridBetweenRow : OpenClaim := { program := "ythjefnkgfmkijaa", sum := "1915bde52e807de289ce1a172ff6b1012a48aa920aecf23f44c1a0067f8300f6", func := "turbojet/turbojetlaw03.GridBetween", spec := "gridBetween", unfollowed := true, recurses := true, apart := false }
def GridBetweenSaid : Prop := gridBetweenRow.holds Try.pinned (OpenSpec.ofChange gridBetweenSpec)

/-- ITS FALSE NEIGHBOUR: 'it returns false'. Refute it at one input. -/
def gridBetweenWrong : ChangeSpec := { name := "gridBetween", fn := fun _ => fun
  | [d1, d2, d3, d4] => { results := [.lit (.bool false)], args := [d1, d2, d3, d4] }
  | _ => none }
def GridBetweenWrongFalsely : Prop := gridBetweenRow.holds Try.pinned (OpenSpec.ofChange gridBetweenWrong)

/-- 'turbojetlaw03.GridRises': WHATEVER THE INPUT: true; the input reads as it did. -/
def gridRisesSpec : ChangeSpec := { name := "gridRises", fn := fun _ => fun
  | [d1, d2, d3, d4, d5] => { results := [.lit (.bool true)], args := [d1, d2, d3, d4, d5] }
  | _ => none }
def gridRisesRow : OpenClaim := { program := "ythjefnkgfmkijaa", sum := "1915bde52e807de289ce1a172ff6b1012a48aa920aecf23f44c1a0067f8300f6", func := "turbojet/turbojetlaw03.GridRises", spec := "gridRises", unfollowed := true, recurses := true, apart := false }
def GridRisesSaid : Prop := gridRisesRow.holds Try.pinned (OpenSpec.ofChange gridRisesSpec)

/-- ITS FALSE NEIGHBOUR: 'it returns false'. Refute it at one input. -/
def gridRisesWrong : ChangeSpec := { name := "gridRises", fn := fun _ => fun
  | [d1, d2, d3, d4, d5] => { results := [.lit (.bool false)], args := [d1, d2, d3, d4, d5] }
  | _ => none }
def GridRisesWrongFalsely : Prop := gridRisesRow.holds Try.pinned (OpenSpec.ofChange gridRisesWrong)

/-- 'turbojetlaw03.GridOne': WHATEVER THE INPUT: true; the input reads as it did. -/
def gridOneSpec : ChangeSpec := { name := "gridOne", fn := fun _ => fun
  | [d1, d2, d3] => { results := [.lit (.bool true)], args := [d1, d2, d3] }
  | _ => none }
def gridOneRow : OpenClaim := { program := "ythjefnkgfmkijaa", sum := "1915bde52e807de289ce1a172ff6b1012a48aa920aecf23f44c1a0067f8300f6", func := "turbojet/turbojetlaw03.GridOne", spec := "gridOne", unfollowed := true, recurses := true, apart := false }
def GridOneSaid : Prop := gridOneRow.holds Try.pinned (OpenSpec.ofChange gridOneSpec)

/-- ITS FALSE NEIGHBOUR: 'it returns false'. Refute it at one input. -/
def gridOneWrong : ChangeSpec := { name := "gridOne", fn := fun _ => fun
  | [d1, d2, d3] => { results := [.lit (.bool false)], args := [d1, d2, d3] }
  | _ => none }
def GridOneWrongFalsely : Prop := gridOneRow.holds Try.pinned (OpenSpec.ofChange gridOneWrong)

/- THE SECOND FORM. 'bulk': how many values and letters a reading holds, each counted each time it is reached (what is shared counts as often as it is met; a slice's spare places count too). A statement '..UptoSaid' is the law's where the arguments, and the package variables that the reading takes, are together of bulk at most 1048576: NARROWER than '..Said'. Prove '..Said' where nothing that the law and all that it calls make is longer than what came in: it says more and counts as full. Else prove '..UptoSaid'. A law counts once. -/
mutual
def uptoBulk {H : Type} : DataW H → Nat
  | .lit (.string bytes) => bytes.length + 1
  | .lit _ => 1
  | .nil => 1
  | .ptr d => uptoBulk d + 1
  | .slice elems spare => uptoBulkAll elems + uptoBulkAll spare + 1
  | .agg parts => uptoBulkAll parts + 1
  | .iface _ d => uptoBulk d + 1
  | .map entries => uptoBulkEntries entries + 1
  | .held _ => 1
def uptoBulkAll {H : Type} : List (DataW H) → Nat
  | [] => 0
  | d :: r => uptoBulk d + uptoBulkAll r
def uptoBulkEntries {H : Type} : List (Lit × DataW H) → Nat
  | [] => 0
  | x :: r => uptoBulkEntry x + uptoBulkEntries r
def uptoBulkEntry {H : Type} : Lit × DataW H → Nat
  | (.string bytes, d) => bytes.length + uptoBulk d + 1
  | (_, d) => uptoBulk d + 1
 end
def uptoSmall : (H : Type) → List (DataW H) → Bool := fun _ ds => decide (uptoBulkAll ds ≤ 1048576)
def OpenSpec.upto (s : _root_.Go.ChangeSpec) : _root_.Go.OpenSpec := { _root_.Go.OpenSpec.ofChange s with cond := some uptoSmall }

/-- 'turbojetlaw03.GridNames', WHERE WHAT IT READS IS OF BULK AT MOST 1048576: true; the input reads as it did. -/
def gridNamesUptoRow : OpenClaim := { program := "ythjefnkgfmkijaa", sum := "1915bde52e807de289ce1a172ff6b1012a48aa920aecf23f44c1a0067f8300f6", func := "turbojet/turbojetlaw03.GridNames", spec := "gridNames", unfollowed := true, recurses := true, apart := false, narrowed := true }
def GridNamesUptoSaid : Prop := gridNamesUptoRow.holds Try.pinned (OpenSpec.upto gridNamesSpec)

/-- 'turbojetlaw03.GridTells', WHERE WHAT IT READS IS OF BULK AT MOST 1048576: true; the input reads as it did. -/
def gridTellsUptoRow : OpenClaim := { program := "ythjefnkgfmkijaa", sum := "1915bde52e807de289ce1a172ff6b1012a48aa920aecf23f44c1a0067f8300f6", func := "turbojet/turbojetlaw03.GridTells", spec := "gridTells", unfollowed := true, recurses := true, apart := false, narrowed := true }
def GridTellsUptoSaid : Prop := gridTellsUptoRow.holds Try.pinned (OpenSpec.upto gridTellsSpec)

/-- 'turbojetlaw03.GridTables', WHERE WHAT IT READS IS OF BULK AT MOST 1048576: true; the input reads as it did. -/
def gridTablesUptoRow : OpenClaim := { program := "ythjefnkgfmkijaa", sum := "1915bde52e807de289ce1a172ff6b1012a48aa920aecf23f44c1a0067f8300f6", func := "turbojet/turbojetlaw03.GridTables", spec := "gridTables", unfollowed := true, recurses := true, apart := false, narrowed := true }
def GridTablesUptoSaid : Prop := gridTablesUptoRow.holds Try.pinned (OpenSpec.upto gridTablesSpec)

/-- 'turbojetlaw03.GridBetween', WHERE WHAT IT READS IS OF BULK AT MOST 1048576: true; the input reads as it did. -/
def gridBetweenUptoRow : OpenClaim := { program := "ythjefnkgfmkijaa", sum := "1915bde52e807de289ce1a172ff6b1012a48aa920aecf23f44c1a0067f8300f6", func := "turbojet/turbojetlaw03.GridBetween", spec := "gridBetween", unfollowed := true, recurses := true, apart := false, narrowed := true }
def GridBetweenUptoSaid : Prop := gridBetweenUptoRow.holds Try.pinned (OpenSpec.upto gridBetweenSpec)

/-- 'turbojetlaw03.GridRises', WHERE WHAT IT READS IS OF BULK AT MOST 1048576: true; the input reads as it did. -/
def gridRisesUptoRow : OpenClaim := { program := "ythjefnkgfmkijaa", sum := "1915bde52e807de289ce1a172ff6b1012a48aa920aecf23f44c1a0067f8300f6", func := "turbojet/turbojetlaw03.GridRises", spec := "gridRises", unfollowed := true, recurses := true, apart := false, narrowed := true }
def GridRisesUptoSaid : Prop := gridRisesUptoRow.holds Try.pinned (OpenSpec.upto gridRisesSpec)

/-- 'turbojetlaw03.GridOne', WHERE WHAT IT READS IS OF BULK AT MOST 1048576: true; the input reads as it did. -/
def gridOneUptoRow : OpenClaim := { program := "ythjefnkgfmkijaa", sum := "1915bde52e807de289ce1a172ff6b1012a48aa920aecf23f44c1a0067f8300f6", func := "turbojet/turbojetlaw03.GridOne", spec := "gridOne", unfollowed := true, recurses := true, apart := false, narrowed := true }
def GridOneUptoSaid : Prop := gridOneUptoRow.holds Try.pinned (OpenSpec.upto gridOneSpec)

end Rows
end Go.Proofs.Ythjefnkgfmkijaa
