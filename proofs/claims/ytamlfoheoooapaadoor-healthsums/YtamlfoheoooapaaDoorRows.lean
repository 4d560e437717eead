/-
  NARROWER THAN 'FOR EVERY INPUT', by the rows' own cells (each row's printed sentence says how): HealthTells: laid · HealthFalls: laid · HealthLasts: laid · HealthOne: laid · HealthSums: laid.
  DERIVED. THE GIVEN ROWS OF THIS SEAT. 5 by the template 'for every input the law returns true; each argument reads behind the call as it read before'; 0 by the template 'total and deterministic' (their statements: YtamlfoheoooapaaDoorTotals.lean).
  GIVEN WITH THE SEED: the statements are not yours to turn. If you find one false, say at which input.
  Laid BY PROGRAM, IN A SANDBOX (cutbox-rows.mjs): the forced cells as the released guide's own fill.sh prints them over the translation c11bee0c25a8d1cf… (all of the seat's roots in one cut). By AI agents, Wed Nov 11 2026. No macro, syntax, notation, axiom, sorry.
-/
import Derived.Test.YtamlfoheoooapaaDoorChecked
import GoSem.Claim
import GoSem.ClaimJoined
import GoSem.ClaimMapViews
import Derived.JoinedTies
import Derived.KernelRfl
namespace Go.Proofs.YtamlfoheoooapaaDoor
/- THE CELL 'sum', in the pinned program and in every row, IS THE sha256 OF THE DUMP (.gsa) THAT YtamlfoheoooapaaDoorProg.lean LOADS. Nothing in Lean hashes anything: it is a label: what it is worth is what the hold of that sum in a sandbox is worth. -/
noncomputable def Tryd.pinned : Pinned := { name := "ytamlfoheoooapaadoor", sum := "c11bee0c25a8d1cf4aa00903a88fb7a4f96187d65f6d86bf0687dbcc0eb5bd5c", checked := Tryd.checked }
namespace Rows
def none {H : Type} : Left H := { results := [], args := [] }

/- WHAT THE LISTED PACKAGE-LEVEL VARIABLES READ AS WHEN THE CALL BEGINS. Each datum BY PROGRAM (the guide's laid-datum.mjs) off the statement by which the dump's own 'gosem.cut.vars' lays the variable. In a bare row this is a premise. The card (YtamlfoheoooapaaDoorCards.lean) ties it to the program's text. -/
def laid_turbojet_health_counts {H : Type} : DataW H := .agg [.lit (.int .i64 60), .lit (.int .i64 100), .lit (.int .i64 60), .lit (.int .i64 40), .lit (.int .i64 40)]

/-- 'turbojetlaw18.HealthTells': WHATEVER THE INPUT: true; the input reads as it did. -/
def healthTellsSpec : ChangeSpec := { name := "healthTells", fn := fun _ => fun
  | [d1, d2, d3, d4] => { results := [.lit (.bool true)], args := [d1, d2, d3, d4] }
  | _ => none }
def healthTellsRow : OpenClaim := { program := "ytamlfoheoooapaadoor", sum := "c11bee0c25a8d1cf4aa00903a88fb7a4f96187d65f6d86bf0687dbcc0eb5bd5c", func := "turbojet/turbojetlaw18.HealthTells", spec := "healthTells", inPlace := ["sync/atomic.StoreInt64", "sync/atomic.AddInt64", "sync/atomic.LoadInt64"], named := ["turbojet/health.counts"], apart := false, laid := [("turbojet/health.counts", laid_turbojet_health_counts)] }
def HealthTellsSaid : Prop := healthTellsRow.holds Tryd.pinned (OpenSpec.ofChange healthTellsSpec)

/-- ITS FALSE NEIGHBOUR: 'it returns false'. Refute it at one input. -/
def healthTellsWrong : ChangeSpec := { name := "healthTells", fn := fun _ => fun
  | [d1, d2, d3, d4] => { results := [.lit (.bool false)], args := [d1, d2, d3, d4] }
  | _ => none }
def HealthTellsWrongFalsely : Prop := healthTellsRow.holds Tryd.pinned (OpenSpec.ofChange healthTellsWrong)

/-- 'turbojetlaw18.HealthFalls': WHATEVER THE INPUT: true; the input reads as it did. -/
def healthFallsSpec : ChangeSpec := { name := "healthFalls", fn := fun _ => fun
  | [d1, d2, d3, d4] => { results := [.lit (.bool true)], args := [d1, d2, d3, d4] }
  | _ => none }
def healthFallsRow : OpenClaim := { program := "ytamlfoheoooapaadoor", sum := "c11bee0c25a8d1cf4aa00903a88fb7a4f96187d65f6d86bf0687dbcc0eb5bd5c", func := "turbojet/turbojetlaw18.HealthFalls", spec := "healthFalls", inPlace := ["sync/atomic.StoreInt64", "sync/atomic.AddInt64", "sync/atomic.LoadInt64"], named := ["turbojet/health.counts"], apart := false, laid := [("turbojet/health.counts", laid_turbojet_health_counts)] }
def HealthFallsSaid : Prop := healthFallsRow.holds Tryd.pinned (OpenSpec.ofChange healthFallsSpec)

/-- ITS FALSE NEIGHBOUR: 'it returns false'. Refute it at one input. -/
def healthFallsWrong : ChangeSpec := { name := "healthFalls", fn := fun _ => fun
  | [d1, d2, d3, d4] => { results := [.lit (.bool false)], args := [d1, d2, d3, d4] }
  | _ => none }
def HealthFallsWrongFalsely : Prop := healthFallsRow.holds Tryd.pinned (OpenSpec.ofChange healthFallsWrong)

/-- 'turbojetlaw18.HealthLasts': WHATEVER THE INPUT: true; the input reads as it did. -/
def healthLastsSpec : ChangeSpec := { name := "healthLasts", fn := fun _ => fun
  | [d] => { results := [.lit (.bool true)], args := [d] }
  | _ => none }
def healthLastsRow : OpenClaim := { program := "ytamlfoheoooapaadoor", sum := "c11bee0c25a8d1cf4aa00903a88fb7a4f96187d65f6d86bf0687dbcc0eb5bd5c", func := "turbojet/turbojetlaw18.HealthLasts", spec := "healthLasts", inPlace := ["sync/atomic.StoreInt64", "sync/atomic.AddInt64", "sync/atomic.LoadInt64"], named := ["turbojet/health.counts"], apart := false, laid := [("turbojet/health.counts", laid_turbojet_health_counts)] }
def HealthLastsSaid : Prop := healthLastsRow.holds Tryd.pinned (OpenSpec.ofChange healthLastsSpec)

/-- ITS FALSE NEIGHBOUR: 'it returns false'. Refute it at one input. -/
def healthLastsWrong : ChangeSpec := { name := "healthLasts", fn := fun _ => fun
  | [d] => { results := [.lit (.bool false)], args := [d] }
  | _ => none }
def HealthLastsWrongFalsely : Prop := healthLastsRow.holds Tryd.pinned (OpenSpec.ofChange healthLastsWrong)

/-- 'turbojetlaw18.HealthOne': WHATEVER THE INPUT: true; the input reads as it did. -/
def healthOneSpec : ChangeSpec := { name := "healthOne", fn := fun _ => fun
  | [d1, d2] => { results := [.lit (.bool true)], args := [d1, d2] }
  | _ => none }
def healthOneRow : OpenClaim := { program := "ytamlfoheoooapaadoor", sum := "c11bee0c25a8d1cf4aa00903a88fb7a4f96187d65f6d86bf0687dbcc0eb5bd5c", func := "turbojet/turbojetlaw18.HealthOne", spec := "healthOne", inPlace := ["sync/atomic.StoreInt64", "sync/atomic.AddInt64", "sync/atomic.LoadInt64"], named := ["turbojet/health.counts"], apart := false, laid := [("turbojet/health.counts", laid_turbojet_health_counts)] }
def HealthOneSaid : Prop := healthOneRow.holds Tryd.pinned (OpenSpec.ofChange healthOneSpec)

/-- ITS FALSE NEIGHBOUR: 'it returns false'. Refute it at one input. -/
def healthOneWrong : ChangeSpec := { name := "healthOne", fn := fun _ => fun
  | [d1, d2] => { results := [.lit (.bool false)], args := [d1, d2] }
  | _ => none }
def HealthOneWrongFalsely : Prop := healthOneRow.holds Tryd.pinned (OpenSpec.ofChange healthOneWrong)

/-- 'turbojetlaw18.HealthSums': WHATEVER THE INPUT: true; the input reads as it did. -/
def healthSumsSpec : ChangeSpec := { name := "healthSums", fn := fun _ => fun
  | [d1, d2, d3] => { results := [.lit (.bool true)], args := [d1, d2, d3] }
  | _ => none }
def healthSumsRow : OpenClaim := { program := "ytamlfoheoooapaadoor", sum := "c11bee0c25a8d1cf4aa00903a88fb7a4f96187d65f6d86bf0687dbcc0eb5bd5c", func := "turbojet/turbojetlaw18.HealthSums", spec := "healthSums", inPlace := ["sync/atomic.StoreInt64", "sync/atomic.AddInt64", "sync/atomic.LoadInt64"], named := ["turbojet/health.counts"], apart := false, laid := [("turbojet/health.counts", laid_turbojet_health_counts)] }
def HealthSumsSaid : Prop := healthSumsRow.holds Tryd.pinned (OpenSpec.ofChange healthSumsSpec)

/-- ITS FALSE NEIGHBOUR: 'it returns false'. Refute it at one input. -/
def healthSumsWrong : ChangeSpec := { name := "healthSums", fn := fun _ => fun
  | [d1, d2, d3] => { results := [.lit (.bool false)], args := [d1, d2, d3] }
  | _ => none }
def HealthSumsWrongFalsely : Prop := healthSumsRow.holds Tryd.pinned (OpenSpec.ofChange healthSumsWrong)

/- THE SECOND FORM. 'bulk': how many values and letters a reading holds, each counted each time it is reached (what is shared counts as often as it is met; a slice's spare places count too). A statement '..UptoSaid' is the law's where the arguments, and the package variables that the reading takes, are together of bulk at most 1048576: NARROWER than '..Said'. Prove '..Said' where nothing that the law and all that it calls make is longer than what came in: it says more and counts as full. Else prove '..UptoSaid'. A law counts once. -/
mutual
def uptoBulk {H : Type} : DataW H → Nat
  | .lit (.string bytes) => bytes.length + 1
  | .lit _ => 1
  | .nil => 1
  | .ptr d => uptoBulk d + 1
  | .slice elems spare => uptoBulkAll elems + uptoBulkAll spare + 1
  | .agg parts => uptoBulkAll parts + 1
  | .iface _ d => uptoBulk d + 1
  | .map entries => uptoBulkEntries entries + 1
  | .held _ => 1
def uptoBulkAll {H : Type} : List (DataW H) → Nat
  | [] => 0
  | d :: r => uptoBulk d + uptoBulkAll r
def uptoBulkEntries {H : Type} : List (Lit × DataW H) → Nat
  | [] => 0
  | x :: r => uptoBulkEntry x + uptoBulkEntries r
def uptoBulkEntry {H : Type} : Lit × DataW H → Nat
  | (.string bytes, d) => bytes.length + uptoBulk d + 1
  | (_, d) => uptoBulk d + 1
 end
def uptoSmall : (H : Type) → List (DataW H) → Bool := fun _ ds => decide (uptoBulkAll ds ≤ 1048576)
def OpenSpec.upto (s : _root_.Go.ChangeSpec) : _root_.Go.OpenSpec := { _root_.Go.OpenSpec.ofChange s with cond := some uptoSmall }

/-- 'turbojetlaw18.HealthTells', WHERE WHAT IT READS IS OF BULK AT MOST 1048576: true; the input reads as it did. -/
def healthTellsUptoRow : OpenClaim := { program := "ytamlfoheoooapaadoor", sum := "c11bee0c25a8d1cf4aa00903a88fb7a4f96187d65f6d86bf0687dbcc0eb5bd5c", func := "turbojet/turbojetlaw18.HealthTells", spec := "healthTells", inPlace := ["sync/atomic.StoreInt64", "sync/atomic.AddInt64", "sync/atomic.LoadInt64"], named := ["turbojet/health.counts"], apart := false, laid := [("turbojet/health.counts", laid_turbojet_health_counts)], narrowed := true }
def HealthTellsUptoSaid : Prop := healthTellsUptoRow.holds Tryd.pinned (OpenSpec.upto healthTellsSpec)

/-- 'turbojetlaw18.HealthFalls', WHERE WHAT IT READS IS OF BULK AT MOST 1048576: true; the input reads as it did. -/
def healthFallsUptoRow : OpenClaim := { program := "ytamlfoheoooapaadoor", sum := "c11bee0c25a8d1cf4aa00903a88fb7a4f96187d65f6d86bf0687dbcc0eb5bd5c", func := "turbojet/turbojetlaw18.HealthFalls", spec := "healthFalls", inPlace := ["sync/atomic.StoreInt64", "sync/atomic.AddInt64", "sync/atomic.LoadInt64"], named := ["turbojet/health.counts"], apart := false, laid := [("turbojet/health.counts", laid_turbojet_health_counts)], narrowed := true }
def HealthFallsUptoSaid : Prop := healthFallsUptoRow.holds Tryd.pinned (OpenSpec.upto healthFallsSpec)

/-- 'turbojetlaw18.HealthLasts', WHERE WHAT IT READS IS OF BULK AT MOST 1048576: true; the input reads as it did. -/
def healthLastsUptoRow : OpenClaim := { program := "ytamlfoheoooapaadoor", sum := "c11bee0c25a8d1cf4aa00903a88fb7a4f96187d65f6d86bf0687dbcc0eb5bd5c", func := "turbojet/turbojetlaw18.HealthLasts", spec := "healthLasts", inPlace := ["sync/atomic.StoreInt64", "sync/atomic.AddInt64", "sync/atomic.LoadInt64"], named := ["turbojet/health.counts"], apart := false, laid := [("turbojet/health.counts", laid_turbojet_health_counts)], narrowed := true }
def HealthLastsUptoSaid : Prop := healthLastsUptoRow.holds Tryd.pinned (OpenSpec.upto healthLastsSpec)

/-- 'turbojetlaw18.HealthOne', WHERE WHAT IT READS IS OF BULK AT MOST 1048576: true; the input reads as it did. -/
def healthOneUptoRow : OpenClaim := { program := "ytamlfoheoooapaadoor", sum := "c11bee0c25a8d1cf4aa00903a88fb7a4f96187d65f6d86bf0687dbcc0eb5bd5c", func := "turbojet/turbojetlaw18.HealthOne", spec := "healthOne", inPlace := ["sync/atomic.StoreInt64", "sync/atomic.AddInt64", "sync/atomic.LoadInt64"], named := ["turbojet/health.counts"], apart := false, laid := [("turbojet/health.counts", laid_turbojet_health_counts)], narrowed := true }
def HealthOneUptoSaid : Prop := healthOneUptoRow.holds Tryd.pinned (OpenSpec.upto healthOneSpec)

/-- 'turbojetlaw18.HealthSums', WHERE WHAT IT READS IS OF BULK AT MOST 1048576: true; the input reads as it did. -/
def healthSumsUptoRow : OpenClaim := { program := "ytamlfoheoooapaadoor", sum := "c11bee0c25a8d1cf4aa00903a88fb7a4f96187d65f6d86bf0687dbcc0eb5bd5c", func := "turbojet/turbojetlaw18.HealthSums", spec := "healthSums", inPlace := ["sync/atomic.StoreInt64", "sync/atomic.AddInt64", "sync/atomic.LoadInt64"], named := ["turbojet/health.counts"], apart := false, laid := [("turbojet/health.counts", laid_turbojet_health_counts)], narrowed := true }
def HealthSumsUptoSaid : Prop := healthSumsUptoRow.holds Tryd.pinned (OpenSpec.upto healthSumsSpec)

end Rows
end Go.Proofs.YtamlfoheoooapaaDoor
