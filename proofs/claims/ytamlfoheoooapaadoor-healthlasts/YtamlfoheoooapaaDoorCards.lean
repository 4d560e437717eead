/-
  DERIVED. GIVEN WITH THE SEED: THE CARDS: each row of YtamlfoheoooapaaDoorRows.lean that lists a variable, with what it lists TIED to the program's text (the seventh form; the later family's looks); each row that meets fmt, with fmt's text TOLD by the authors' own Lean function (tested against real Go, not proved from fmt's source: count such statements apart). THE CARD IS WHAT COUNTS. Prove the row's statement (the work); the ties are given (YtamlfoheoooapaaDoorTie.lean); close each card by the builder's one call (the guide's Derived/Test/ToyasCard.lean, 'card_holds'). Laid BY PROGRAM, IN A SANDBOX (cutbox-door.mjs). By AI agents, Wed Nov 11 2026. No macro, syntax, notation, axiom, sorry.
-/
import Derived.Test.YtamlfoheoooapaaDoorRows
import GoSem.ClaimSeven
namespace Go.Proofs.YtamlfoheoooapaaDoor
namespace Rows

/-- THE TIED CARD OF 'turbojetlaw18.HealthTells'. -/
def healthTellsCard : Claim7 := { stood := { row := healthTellsRow, standIns := [], harness := (true, "fcc7014b25fdf14ae9e410006a5e2ba3ce0fd1774ffb08d50609f6f89b613557"), looks := false }, kinds := [], alts := [], laidByText := true, laidKinds := [.data], laidTests := true, laidLooks := .later }
def HealthTellsCardSaid : Prop := Claim7.holds Tryd.pinned (.plain (OpenSpec.ofChange healthTellsSpec)) healthTellsCard

/-- THE TIED CARD OF 'turbojetlaw18.HealthFalls'. -/
def healthFallsCard : Claim7 := { stood := { row := healthFallsRow, standIns := [], harness := (true, "fcc7014b25fdf14ae9e410006a5e2ba3ce0fd1774ffb08d50609f6f89b613557"), looks := false }, kinds := [], alts := [], laidByText := true, laidKinds := [.data], laidTests := true, laidLooks := .later }
def HealthFallsCardSaid : Prop := Claim7.holds Tryd.pinned (.plain (OpenSpec.ofChange healthFallsSpec)) healthFallsCard

/-- THE TIED CARD OF 'turbojetlaw18.HealthLasts'. -/
def healthLastsCard : Claim7 := { stood := { row := healthLastsRow, standIns := [], harness := (true, "fcc7014b25fdf14ae9e410006a5e2ba3ce0fd1774ffb08d50609f6f89b613557"), looks := false }, kinds := [], alts := [], laidByText := true, laidKinds := [.data], laidTests := true, laidLooks := .later }
def HealthLastsCardSaid : Prop := Claim7.holds Tryd.pinned (.plain (OpenSpec.ofChange healthLastsSpec)) healthLastsCard

/-- THE TIED CARD OF 'turbojetlaw18.HealthOne'. -/
def healthOneCard : Claim7 := { stood := { row := healthOneRow, standIns := [], harness := (true, "fcc7014b25fdf14ae9e410006a5e2ba3ce0fd1774ffb08d50609f6f89b613557"), looks := false }, kinds := [], alts := [], laidByText := true, laidKinds := [.data], laidTests := true, laidLooks := .later }
def HealthOneCardSaid : Prop := Claim7.holds Tryd.pinned (.plain (OpenSpec.ofChange healthOneSpec)) healthOneCard

/-- THE TIED CARD OF 'turbojetlaw18.HealthSums'. -/
def healthSumsCard : Claim7 := { stood := { row := healthSumsRow, standIns := [], harness := (true, "fcc7014b25fdf14ae9e410006a5e2ba3ce0fd1774ffb08d50609f6f89b613557"), looks := false }, kinds := [], alts := [], laidByText := true, laidKinds := [.data], laidTests := true, laidLooks := .later }
def HealthSumsCardSaid : Prop := Claim7.holds Tryd.pinned (.plain (OpenSpec.ofChange healthSumsSpec)) healthSumsCard

/-- THE SECOND FORM's CARD OF 'turbojetlaw18.HealthTells'. -/
def healthTellsUptoCard : Claim7 := { stood := { row := healthTellsUptoRow, standIns := [], harness := (true, "fcc7014b25fdf14ae9e410006a5e2ba3ce0fd1774ffb08d50609f6f89b613557"), looks := false }, kinds := [], alts := [], laidByText := true, laidKinds := [.data], laidTests := true, laidLooks := .later }
def HealthTellsUptoCardSaid : Prop := Claim7.holds Tryd.pinned (.plain (OpenSpec.upto healthTellsSpec)) healthTellsUptoCard

/-- THE SECOND FORM's CARD OF 'turbojetlaw18.HealthFalls'. -/
def healthFallsUptoCard : Claim7 := { stood := { row := healthFallsUptoRow, standIns := [], harness := (true, "fcc7014b25fdf14ae9e410006a5e2ba3ce0fd1774ffb08d50609f6f89b613557"), looks := false }, kinds := [], alts := [], laidByText := true, laidKinds := [.data], laidTests := true, laidLooks := .later }
def HealthFallsUptoCardSaid : Prop := Claim7.holds Tryd.pinned (.plain (OpenSpec.upto healthFallsSpec)) healthFallsUptoCard

/-- THE SECOND FORM's CARD OF 'turbojetlaw18.HealthLasts'. -/
def healthLastsUptoCard : Claim7 := { stood := { row := healthLastsUptoRow, standIns := [], harness := (true, "fcc7014b25fdf14ae9e410006a5e2ba3ce0fd1774ffb08d50609f6f89b613557"), looks := false }, kinds := [], alts := [], laidByText := true, laidKinds := [.data], laidTests := true, laidLooks := .later }
def HealthLastsUptoCardSaid : Prop := Claim7.holds Tryd.pinned (.plain (OpenSpec.upto healthLastsSpec)) healthLastsUptoCard

/-- THE SECOND FORM's CARD OF 'turbojetlaw18.HealthOne'. -/
def healthOneUptoCard : Claim7 := { stood := { row := healthOneUptoRow, standIns := [], harness := (true, "fcc7014b25fdf14ae9e410006a5e2ba3ce0fd1774ffb08d50609f6f89b613557"), looks := false }, kinds := [], alts := [], laidByText := true, laidKinds := [.data], laidTests := true, laidLooks := .later }
def HealthOneUptoCardSaid : Prop := Claim7.holds Tryd.pinned (.plain (OpenSpec.upto healthOneSpec)) healthOneUptoCard

/-- THE SECOND FORM's CARD OF 'turbojetlaw18.HealthSums'. -/
def healthSumsUptoCard : Claim7 := { stood := { row := healthSumsUptoRow, standIns := [], harness := (true, "fcc7014b25fdf14ae9e410006a5e2ba3ce0fd1774ffb08d50609f6f89b613557"), looks := false }, kinds := [], alts := [], laidByText := true, laidKinds := [.data], laidTests := true, laidLooks := .later }
def HealthSumsUptoCardSaid : Prop := Claim7.holds Tryd.pinned (.plain (OpenSpec.upto healthSumsSpec)) healthSumsUptoCard
end Rows
end Go.Proofs.YtamlfoheoooapaaDoor
