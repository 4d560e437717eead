/-
  NARROWER THAN 'FOR EVERY INPUT', by the rows' own cells (each row's printed sentence says how): ModeNames: laid · ModeTells: laid · ModeAllows: laid · ModeShuts: laid · ModeWaits: laid · ModeRests: laid.
  DERIVED. THE GIVEN ROWS OF THIS SEAT. 6 by the template 'for every input the law returns true; each argument reads behind the call as it read before'; 0 by the template 'total and deterministic' (their statements: YtodilljomjhohaaDoorTotals.lean).
  GIVEN WITH THE SEED: the statements are not yours to turn. If you find one false, say at which input.
  Laid BY PROGRAM, IN A SANDBOX (cutbox-rows.mjs): the forced cells as the released guide's own fill.sh prints them over the translation 727a89979c28144f… (all of the seat's roots in one cut). By AI agents, Wed Nov 11 2026. No macro, syntax, notation, axiom, sorry.
-/
import Derived.Test.YtodilljomjhohaaDoorChecked
import GoSem.Claim
import GoSem.ClaimJoined
import GoSem.ClaimMapViews
import Derived.JoinedTies
import Derived.KernelRfl
namespace Go.Proofs.YtodilljomjhohaaDoor
/- THE CELL 'sum', in the pinned program and in every row, IS THE sha256 OF THE DUMP (.gsa) THAT YtodilljomjhohaaDoorProg.lean LOADS. Nothing in Lean hashes anything: it is a label: what it is worth is what the hold of that sum in a sandbox is worth. -/
noncomputable def Tryd.pinned : Pinned := { name := "ytodilljomjhohaadoor", sum := "727a89979c28144f7ff809b940a658811b14d93cd2afe8560c88ea6b92d051aa", checked := Tryd.checked }
namespace Rows
def none {H : Type} : Left H := { results := [], args := [] }

/- WHAT THE LISTED PACKAGE-LEVEL VARIABLES READ AS WHEN THE CALL BEGINS. Each datum BY PROGRAM (the guide's laid-datum.mjs) off the statement by which the dump's own 'gosem.cut.vars' lays the variable. In a bare row this is a premise. The card (YtodilljomjhohaaDoorCards.lean) ties it to the program's text. -/
def laid_turbojet_mode_rows {H : Type} : DataW H := .agg [.agg [.lit (.int .i64 0), .lit (.int .i64 0), .lit (.int .i64 2)], .agg [.lit (.int .i64 0), .lit (.int .i64 1), .lit (.int .i64 1)], .agg [.lit (.int .i64 1), .lit (.int .i64 2), .lit (.int .i64 0)], .agg [.lit (.int .i64 2), .lit (.int .i64 3), .lit (.int .i64 6)], .agg [.lit (.int .i64 2), .lit (.int .i64 4), .lit (.int .i64 3)], .agg [.lit (.int .i64 2), .lit (.int .i64 7), .lit (.int .i64 8)], .agg [.lit (.int .i64 3), .lit (.int .i64 3), .lit (.int .i64 6)], .agg [.lit (.int .i64 3), .lit (.int .i64 5), .lit (.int .i64 8)], .agg [.lit (.int .i64 3), .lit (.int .i64 6), .lit (.int .i64 4)], .agg [.lit (.int .i64 3), .lit (.int .i64 7), .lit (.int .i64 8)], .agg [.lit (.int .i64 7), .lit (.int .i64 3), .lit (.int .i64 6)], .agg [.lit (.int .i64 7), .lit (.int .i64 5), .lit (.int .i64 8)], .agg [.lit (.int .i64 7), .lit (.int .i64 6), .lit (.int .i64 4)], .agg [.lit (.int .i64 7), .lit (.int .i64 7), .lit (.int .i64 8)], .agg [.lit (.int .i64 4), .lit (.int .i64 3), .lit (.int .i64 6)], .agg [.lit (.int .i64 4), .lit (.int .i64 8), .lit (.int .i64 7)], .agg [.lit (.int .i64 4), .lit (.int .i64 9), .lit (.int .i64 5)], .agg [.lit (.int .i64 5), .lit (.int .i64 3), .lit (.int .i64 6)], .agg [.lit (.int .i64 5), .lit (.int .i64 8), .lit (.int .i64 7)], .agg [.lit (.int .i64 5), .lit (.int .i64 10), .lit (.int .i64 4)], .agg [.lit (.int .i64 6), .lit (.int .i64 11), .lit (.int .i64 0)], .agg [.lit (.int .i64 8), .lit (.int .i64 3), .lit (.int .i64 6)]]

/-- 'turbojetlaw17.ModeNames': WHATEVER THE INPUT: true; the input reads as it did. -/
def modeNamesSpec : ChangeSpec := { name := "modeNames", fn := fun _ => fun
  | [] => { results := [.lit (.bool true)], args := [] }
  | _ => none }
def modeNamesRow : OpenClaim := { program := "ytodilljomjhohaadoor", sum := "727a89979c28144f7ff809b940a658811b14d93cd2afe8560c88ea6b92d051aa", func := "turbojet/turbojetlaw17.ModeNames", spec := "modeNames", unfollowed := true, recurses := true, named := ["turbojet/mode.rows"], apart := false, laid := [("turbojet/mode.rows", laid_turbojet_mode_rows)] }
def ModeNamesSaid : Prop := modeNamesRow.holds Tryd.pinned (OpenSpec.ofChange modeNamesSpec)

/-- ITS FALSE NEIGHBOUR: 'it returns false'. Refute it at one input. -/
def modeNamesWrong : ChangeSpec := { name := "modeNames", fn := fun _ => fun
  | [] => { results := [.lit (.bool false)], args := [] }
  | _ => none }
def ModeNamesWrongFalsely : Prop := modeNamesRow.holds Tryd.pinned (OpenSpec.ofChange modeNamesWrong)

/-- 'turbojetlaw17.ModeTells': WHATEVER THE INPUT: true; the input reads as it did. -/
def modeTellsSpec : ChangeSpec := { name := "modeTells", fn := fun _ => fun
  | [d1, d2, d3, d4, d5, d6, d7] => { results := [.lit (.bool true)], args := [d1, d2, d3, d4, d5, d6, d7] }
  | _ => none }
def modeTellsRow : OpenClaim := { program := "ytodilljomjhohaadoor", sum := "727a89979c28144f7ff809b940a658811b14d93cd2afe8560c88ea6b92d051aa", func := "turbojet/turbojetlaw17.ModeTells", spec := "modeTells", unfollowed := true, recurses := true, named := ["turbojet/mode.rows"], apart := false, laid := [("turbojet/mode.rows", laid_turbojet_mode_rows)] }
def ModeTellsSaid : Prop := modeTellsRow.holds Tryd.pinned (OpenSpec.ofChange modeTellsSpec)

/-- ITS FALSE NEIGHBOUR: 'it returns false'. Refute it at one input. -/
def modeTellsWrong : ChangeSpec := { name := "modeTells", fn := fun _ => fun
  | [d1, d2, d3, d4, d5, d6, d7] => { results := [.lit (.bool false)], args := [d1, d2, d3, d4, d5, d6, d7] }
  | _ => none }
def ModeTellsWrongFalsely : Prop := modeTellsRow.holds Tryd.pinned (OpenSpec.ofChange modeTellsWrong)

/-- 'turbojetlaw17.ModeAllows': WHATEVER THE INPUT: true; the input reads as it did. -/
def modeAllowsSpec : ChangeSpec := { name := "modeAllows", fn := fun _ => fun
  | [d1, d2, d3, d4, d5, d6, d7, d8] => { results := [.lit (.bool true)], args := [d1, d2, d3, d4, d5, d6, d7, d8] }
  | _ => none }
def modeAllowsRow : OpenClaim := { program := "ytodilljomjhohaadoor", sum := "727a89979c28144f7ff809b940a658811b14d93cd2afe8560c88ea6b92d051aa", func := "turbojet/turbojetlaw17.ModeAllows", spec := "modeAllows", unfollowed := true, recurses := true, named := ["turbojet/mode.rows"], apart := false, laid := [("turbojet/mode.rows", laid_turbojet_mode_rows)] }
def ModeAllowsSaid : Prop := modeAllowsRow.holds Tryd.pinned (OpenSpec.ofChange modeAllowsSpec)

/-- ITS FALSE NEIGHBOUR: 'it returns false'. Refute it at one input. -/
def modeAllowsWrong : ChangeSpec := { name := "modeAllows", fn := fun _ => fun
  | [d1, d2, d3, d4, d5, d6, d7, d8] => { results := [.lit (.bool false)], args := [d1, d2, d3, d4, d5, d6, d7, d8] }
  | _ => none }
def ModeAllowsWrongFalsely : Prop := modeAllowsRow.holds Tryd.pinned (OpenSpec.ofChange modeAllowsWrong)

/-- 'turbojetlaw17.ModeShuts': WHATEVER THE INPUT: true; the input reads as it did. -/
def modeShutsSpec : ChangeSpec := { name := "modeShuts", fn := fun _ => fun
  | [d1, d2, d3, d4] => { results := [.lit (.bool true)], args := [d1, d2, d3, d4] }
  | _ => none }
def modeShutsRow : OpenClaim := { program := "ytodilljomjhohaadoor", sum := "727a89979c28144f7ff809b940a658811b14d93cd2afe8560c88ea6b92d051aa", func := "turbojet/turbojetlaw17.ModeShuts", spec := "modeShuts", unfollowed := true, recurses := true, named := ["turbojet/mode.rows"], apart := false, laid := [("turbojet/mode.rows", laid_turbojet_mode_rows)] }
def ModeShutsSaid : Prop := modeShutsRow.holds Tryd.pinned (OpenSpec.ofChange modeShutsSpec)

/-- ITS FALSE NEIGHBOUR: 'it returns false'. Refute it at one input. -/
def modeShutsWrong : ChangeSpec := { name := "modeShuts", fn := fun _ => fun
  | [d1, d2, d3, d4] => { results := [.lit (.bool false)], args := [d1, d2, d3, d4] }
  | _ => none }
def ModeShutsWrongFalsely : Prop := modeShutsRow.holds Tryd.pinned (OpenSpec.ofChange modeShutsWrong)

/-- 'turbojetlaw17.ModeWaits': WHATEVER THE INPUT: true; the input reads as it did. -/
def modeWaitsSpec : ChangeSpec := { name := "modeWaits", fn := fun _ => fun
  | [d1, d2, d3] => { results := [.lit (.bool true)], args := [d1, d2, d3] }
  | _ => none }
def modeWaitsRow : OpenClaim := { program := "ytodilljomjhohaadoor", sum := "727a89979c28144f7ff809b940a658811b14d93cd2afe8560c88ea6b92d051aa", func := "turbojet/turbojetlaw17.ModeWaits", spec := "modeWaits", unfollowed := true, recurses := true, named := ["turbojet/mode.rows"], apart := false, laid := [("turbojet/mode.rows", laid_turbojet_mode_rows)] }
def ModeWaitsSaid : Prop := modeWaitsRow.holds Tryd.pinned (OpenSpec.ofChange modeWaitsSpec)

/-- ITS FALSE NEIGHBOUR: 'it returns false'. Refute it at one input. -/
def modeWaitsWrong : ChangeSpec := { name := "modeWaits", fn := fun _ => fun
  | [d1, d2, d3] => { results := [.lit (.bool false)], args := [d1, d2, d3] }
  | _ => none }
def ModeWaitsWrongFalsely : Prop := modeWaitsRow.holds Tryd.pinned (OpenSpec.ofChange modeWaitsWrong)

/-- 'turbojetlaw17.ModeRests': WHATEVER THE INPUT: true; the input reads as it did. -/
def modeRestsSpec : ChangeSpec := { name := "modeRests", fn := fun _ => fun
  | [d1, d2, d3, d4, d5, d6] => { results := [.lit (.bool true)], args := [d1, d2, d3, d4, d5, d6] }
  | _ => none }
def modeRestsRow : OpenClaim := { program := "ytodilljomjhohaadoor", sum := "727a89979c28144f7ff809b940a658811b14d93cd2afe8560c88ea6b92d051aa", func := "turbojet/turbojetlaw17.ModeRests", spec := "modeRests", unfollowed := true, recurses := true, named := ["turbojet/mode.rows"], apart := false, laid := [("turbojet/mode.rows", laid_turbojet_mode_rows)] }
def ModeRestsSaid : Prop := modeRestsRow.holds Tryd.pinned (OpenSpec.ofChange modeRestsSpec)

/-- ITS FALSE NEIGHBOUR: 'it returns false'. Refute it at one input. -/
def modeRestsWrong : ChangeSpec := { name := "modeRests", fn := fun _ => fun
  | [d1, d2, d3, d4, d5, d6] => { results := [.lit (.bool false)], args := [d1, d2, d3, d4, d5, d6] }
  | _ => none }
def ModeRestsWrongFalsely : Prop := modeRestsRow.holds Tryd.pinned (OpenSpec.ofChange modeRestsWrong)

/- THE SECOND FORM. 'bulk': how many values and letters a reading holds, each counted each time it is reached (what is shared counts as often as it is met; a slice's spare places count too). A statement '..UptoSaid' is the law's where the arguments, and the package variables that the reading takes, are together of bulk at most 1048576: NARROWER than '..Said'. Prove '..Said' where nothing that the law and all that it calls make is longer than what came in: it says more and counts as full. Else prove '..UptoSaid'. A law counts once. -/
mutual
def uptoBulk {H : Type} : DataW H → Nat
  | .lit (.string bytes) => bytes.length + 1
  | .lit _ => 1
  | .nil => 1
  | .ptr d => uptoBulk d + 1
  | .slice elems spare => uptoBulkAll elems + uptoBulkAll spare + 1
  | .agg parts => uptoBulkAll parts + 1
  | .iface _ d => uptoBulk d + 1
  | .map entries => uptoBulkEntries entries + 1
  | .held _ => 1
def uptoBulkAll {H : Type} : List (DataW H) → Nat
  | [] => 0
  | d :: r => uptoBulk d + uptoBulkAll r
def uptoBulkEntries {H : Type} : List (Lit × DataW H) → Nat
  | [] => 0
  | x :: r => uptoBulkEntry x + uptoBulkEntries r
def uptoBulkEntry {H : Type} : Lit × DataW H → Nat
  | (.string bytes, d) => bytes.length + uptoBulk d + 1
  | (_, d) => uptoBulk d + 1
 end
def uptoSmall : (H : Type) → List (DataW H) → Bool := fun _ ds => decide (uptoBulkAll ds ≤ 1048576)
def OpenSpec.upto (s : _root_.Go.ChangeSpec) : _root_.Go.OpenSpec := { _root_.Go.OpenSpec.ofChange s with cond := some uptoSmall }

/-- 'turbojetlaw17.ModeNames', WHERE WHAT IT READS IS OF BULK AT MOST 1048576: true; the input reads as it did. -/
def modeNamesUptoRow : OpenClaim := { program := "ytodilljomjhohaadoor", sum := "727a89979c28144f7ff809b940a658811b14d93cd2afe8560c88ea6b92d051aa", func := "turbojet/turbojetlaw17.ModeNames", spec := "modeNames", unfollowed := true, recurses := true, named := ["turbojet/mode.rows"], apart := false, laid := [("turbojet/mode.rows", laid_turbojet_mode_rows)], narrowed := true }
def ModeNamesUptoSaid : Prop := modeNamesUptoRow.holds Tryd.pinned (OpenSpec.upto modeNamesSpec)

/-- 'turbojetlaw17.ModeTells', WHERE WHAT IT READS IS OF BULK AT MOST 1048576: true; the input reads as it did. -/
def modeTellsUptoRow : OpenClaim := { program := "ytodilljomjhohaadoor", sum := "727a89979c28144f7ff809b940a658811b14d93cd2afe8560c88ea6b92d051aa", func := "turbojet/turbojetlaw17.ModeTells", spec := "modeTells", unfollowed := true, recurses := true, named := ["turbojet/mode.rows"], apart := false, laid := [("turbojet/mode.rows", laid_turbojet_mode_rows)], narrowed := true }
def ModeTellsUptoSaid : Prop := modeTellsUptoRow.holds Tryd.pinned (OpenSpec.upto modeTellsSpec)

/-- 'turbojetlaw17.ModeAllows', WHERE WHAT IT READS IS OF BULK AT MOST 1048576: true; the input reads as it did. -/
def modeAllowsUptoRow : OpenClaim := { program := "ytodilljomjhohaadoor", sum := "727a89979c28144f7ff809b940a658811b14d93cd2afe8560c88ea6b92d051aa", func := "turbojet/turbojetlaw17.ModeAllows", spec := "modeAllows", unfollowed := true, recurses := true, named := ["turbojet/mode.rows"], apart := false, laid := [("turbojet/mode.rows", laid_turbojet_mode_rows)], narrowed := true }
def ModeAllowsUptoSaid : Prop := modeAllowsUptoRow.holds Tryd.pinned (OpenSpec.upto modeAllowsSpec)

/-- 'turbojetlaw17.ModeShuts', WHERE WHAT IT READS IS OF BULK AT MOST 1048576: true; the input reads as it did. -/
def modeShutsUptoRow : OpenClaim := { program := "ytodilljomjhohaadoor", sum := "727a89979c28144f7ff809b940a658811b14d93cd2afe8560c88ea6b92d051aa", func := "turbojet/turbojetlaw17.ModeShuts", spec := "modeShuts", unfollowed := true, recurses := true, named := ["turbojet/mode.rows"], apart := false, laid := [("turbojet/mode.rows", laid_turbojet_mode_rows)], narrowed := true }
def ModeShutsUptoSaid : Prop := modeShutsUptoRow.holds Tryd.pinned (OpenSpec.upto modeShutsSpec)

/-- 'turbojetlaw17.ModeWaits', WHERE WHAT IT READS IS OF BULK AT MOST 1048576: true; the input reads as it did. -/
def modeWaitsUptoRow : OpenClaim := { program := "ytodilljomjhohaadoor", sum := "727a89979c28144f7ff809b940a658811b14d93cd2afe8560c88ea6b92d051aa", func := "turbojet/turbojetlaw17.ModeWaits", spec := "modeWaits", unfollowed := true, recurses := true, named := ["turbojet/mode.rows"], apart := false, laid := [("turbojet/mode.rows", laid_turbojet_mode_rows)], narrowed := true }
def ModeWaitsUptoSaid : Prop := modeWaitsUptoRow.holds Tryd.pinned (OpenSpec.upto modeWaitsSpec)

/-- 'turbojetlaw17.ModeRests', WHERE WHAT IT READS IS OF BULK AT MOST 1048576: true; the input reads as it did. -/
def modeRestsUptoRow : OpenClaim := { program := "ytodilljomjhohaadoor", sum := "727a89979c28144f7ff809b940a658811b14d93cd2afe8560c88ea6b92d051aa", func := "turbojet/turbojetlaw17.ModeRests", spec := "modeRests", unfollowed := true, recurses := true, named := ["turbojet/mode.rows"], apart := false, laid := [("turbojet/mode.rows", laid_turbojet_mode_rows)], narrowed := true }
def ModeRestsUptoSaid : Prop := modeRestsUptoRow.holds Tryd.pinned (OpenSpec.upto modeRestsSpec)

end Rows
end Go.Proofs.YtodilljomjhohaaDoor
