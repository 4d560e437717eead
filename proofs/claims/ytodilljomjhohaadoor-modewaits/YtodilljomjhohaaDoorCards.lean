/-
  DERIVED. GIVEN WITH THE SEED: THE CARDS: each row of YtodilljomjhohaaDoorRows.lean that lists a variable, with what it lists TIED to the program's text (the seventh form; the later family's looks); each row that meets fmt, with fmt's text TOLD by the authors' own Lean function (tested against real Go, not proved from fmt's source: count such statements apart). THE CARD IS WHAT COUNTS. Prove the row's statement (the work); the ties are given (YtodilljomjhohaaDoorTie.lean); close each card by the builder's one call (the guide's Derived/Test/ToyasCard.lean, 'card_holds'). Laid BY PROGRAM, IN A SANDBOX (cutbox-door.mjs). By AI agents, Wed Nov 11 2026. No macro, syntax, notation, axiom, sorry.
-/
import Derived.Test.YtodilljomjhohaaDoorRows
import GoSem.ClaimSeven
namespace Go.Proofs.YtodilljomjhohaaDoor
namespace Rows

/-- THE TIED CARD OF 'turbojetlaw17.ModeNames'. -/
def modeNamesCard : Claim7 := { stood := { row := modeNamesRow, standIns := [], harness := (true, "fb6df37f68965c18fa1033fcf253d1cc4be415807a2d71b771199dca68e7388a"), looks := false }, kinds := [], alts := [], laidByText := true, laidKinds := [.data], laidTests := true, laidLooks := .later }
def ModeNamesCardSaid : Prop := Claim7.holds Tryd.pinned (.plain (OpenSpec.ofChange modeNamesSpec)) modeNamesCard

/-- THE TIED CARD OF 'turbojetlaw17.ModeTells'. -/
def modeTellsCard : Claim7 := { stood := { row := modeTellsRow, standIns := [], harness := (true, "fb6df37f68965c18fa1033fcf253d1cc4be415807a2d71b771199dca68e7388a"), looks := false }, kinds := [], alts := [], laidByText := true, laidKinds := [.data], laidTests := true, laidLooks := .later }
def ModeTellsCardSaid : Prop := Claim7.holds Tryd.pinned (.plain (OpenSpec.ofChange modeTellsSpec)) modeTellsCard

/-- THE TIED CARD OF 'turbojetlaw17.ModeAllows'. -/
def modeAllowsCard : Claim7 := { stood := { row := modeAllowsRow, standIns := [], harness := (true, "fb6df37f68965c18fa1033fcf253d1cc4be415807a2d71b771199dca68e7388a"), looks := false }, kinds := [], alts := [], laidByText := true, laidKinds := [.data], laidTests := true, laidLooks := .later }
def ModeAllowsCardSaid : Prop := Claim7.holds Tryd.pinned (.plain (OpenSpec.ofChange modeAllowsSpec)) modeAllowsCard

/-- THE TIED CARD OF 'turbojetlaw17.ModeShuts'. -/
def modeShutsCard : Claim7 := { stood := { row := modeShutsRow, standIns := [], harness := (true, "fb6df37f68965c18fa1033fcf253d1cc4be415807a2d71b771199dca68e7388a"), looks := false }, kinds := [], alts := [], laidByText := true, laidKinds := [.data], laidTests := true, laidLooks := .later }
def ModeShutsCardSaid : Prop := Claim7.holds Tryd.pinned (.plain (OpenSpec.ofChange modeShutsSpec)) modeShutsCard

/-- THE TIED CARD OF 'turbojetlaw17.ModeWaits'. -/
def modeWaitsCard : Claim7 := { stood := { row := modeWaitsRow, standIns := [], harness := (true, "fb6df37f68965c18fa1033fcf253d1cc4be415807a2d71b771199dca68e7388a"), looks := false }, kinds := [], alts := [], laidByText := true, laidKinds := [.data], laidTests := true, laidLooks := .later }
def ModeWaitsCardSaid : Prop := Claim7.holds Tryd.pinned (.plain (OpenSpec.ofChange modeWaitsSpec)) modeWaitsCard

/-- THE TIED CARD OF 'turbojetlaw17.ModeRests'. -/
def modeRestsCard : Claim7 := { stood := { row := modeRestsRow, standIns := [], harness := (true, "fb6df37f68965c18fa1033fcf253d1cc4be415807a2d71b771199dca68e7388a"), looks := false }, kinds := [], alts := [], laidByText := true, laidKinds := [.data], laidTests := true, laidLooks := .later }
def ModeRestsCardSaid : Prop := Claim7.holds Tryd.pinned (.plain (OpenSpec.ofChange modeRestsSpec)) modeRestsCard

/-- THE SECOND FORM's CARD OF 'turbojetlaw17.ModeNames'. -/
def modeNamesUptoCard : Claim7 := { stood := { row := modeNamesUptoRow, standIns := [], harness := (true, "fb6df37f68965c18fa1033fcf253d1cc4be415807a2d71b771199dca68e7388a"), looks := false }, kinds := [], alts := [], laidByText := true, laidKinds := [.data], laidTests := true, laidLooks := .later }
def ModeNamesUptoCardSaid : Prop := Claim7.holds Tryd.pinned (.plain (OpenSpec.upto modeNamesSpec)) modeNamesUptoCard

/-- THE SECOND FORM's CARD OF 'turbojetlaw17.ModeTells'. -/
def modeTellsUptoCard : Claim7 := { stood := { row := modeTellsUptoRow, standIns := [], harness := (true, "fb6df37f68965c18fa1033fcf253d1cc4be415807a2d71b771199dca68e7388a"), looks := false }, kinds := [], alts := [], laidByText := true, laidKinds := [.data], laidTests := true, laidLooks := .later }
def ModeTellsUptoCardSaid : Prop := Claim7.holds Tryd.pinned (.plain (OpenSpec.upto modeTellsSpec)) modeTellsUptoCard

/-- THE SECOND FORM's CARD OF 'turbojetlaw17.ModeAllows'. -/
def modeAllowsUptoCard : Claim7 := { stood := { row := modeAllowsUptoRow, standIns := [], harness := (true, "fb6df37f68965c18fa1033fcf253d1cc4be415807a2d71b771199dca68e7388a"), looks := false }, kinds := [], alts := [], laidByText := true, laidKinds := [.data], laidTests := true, laidLooks := .later }
def ModeAllowsUptoCardSaid : Prop := Claim7.holds Tryd.pinned (.plain (OpenSpec.upto modeAllowsSpec)) modeAllowsUptoCard

/-- THE SECOND FORM's CARD OF 'turbojetlaw17.ModeShuts'. -/
def modeShutsUptoCard : Claim7 := { stood := { row := modeShutsUptoRow, standIns := [], harness := (true, "fb6df37f68965c18fa1033fcf253d1cc4be415807a2d71b771199dca68e7388a"), looks := false }, kinds := [], alts := [], laidByText := true, laidKinds := [.data], laidTests := true, laidLooks := .later }
def ModeShutsUptoCardSaid : Prop := Claim7.holds Tryd.pinned (.plain (OpenSpec.upto modeShutsSpec)) modeShutsUptoCard

/-- THE SECOND FORM's CARD OF 'turbojetlaw17.ModeWaits'. -/
def modeWaitsUptoCard : Claim7 := { stood := { row := modeWaitsUptoRow, standIns := [], harness := (true, "fb6df37f68965c18fa1033fcf253d1cc4be415807a2d71b771199dca68e7388a"), looks := false }, kinds := [], alts := [], laidByText := true, laidKinds := [.data], laidTests := true, laidLooks := .later }
def ModeWaitsUptoCardSaid : Prop := Claim7.holds Tryd.pinned (.plain (OpenSpec.upto modeWaitsSpec)) modeWaitsUptoCard

/-- THE SECOND FORM's CARD OF 'turbojetlaw17.ModeRests'. -/
def modeRestsUptoCard : Claim7 := { stood := { row := modeRestsUptoRow, standIns := [], harness := (true, "fb6df37f68965c18fa1033fcf253d1cc4be415807a2d71b771199dca68e7388a"), looks := false }, kinds := [], alts := [], laidByText := true, laidKinds := [.data], laidTests := true, laidLooks := .later }
def ModeRestsUptoCardSaid : Prop := Claim7.holds Tryd.pinned (.plain (OpenSpec.upto modeRestsSpec)) modeRestsUptoCard
end Rows
end Go.Proofs.YtodilljomjhohaaDoor
