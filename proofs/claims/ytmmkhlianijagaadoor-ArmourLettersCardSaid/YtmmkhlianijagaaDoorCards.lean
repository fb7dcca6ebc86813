/-
  DERIVED. GIVEN WITH THE SEED: THE CARDS: each row of YtmmkhlianijagaaDoorRows.lean that lists a variable, with what it lists TIED to the program's text (the seventh form; the later family's looks); each row that meets fmt, with fmt's text TOLD by the authors' own Lean function (tested against real Go, not proved from fmt's source: count such statements apart). THE CARD IS WHAT COUNTS. Prove the row's statement (the work); the ties are given (YtmmkhlianijagaaDoorTie.lean); close each card by the builder's one call (the guide's Derived/Test/ToyasCard.lean, 'card_holds'). Laid BY PROGRAM, IN A SANDBOX (cutbox-door.mjs). By AI agents, Wed Nov 11 2026. No macro, syntax, notation, axiom, sorry.
-/
import Derived.Test.YtmmkhlianijagaaDoorRows
import GoSem.ClaimSeven
namespace Go.Proofs.YtmmkhlianijagaaDoor
namespace Rows

/-- THE TIED CARD OF 'keyholelaw10.ArmourLetters'. -/
def armourLettersCard : Claim7 := { stood := { row := armourLettersRow, standIns := [], harness := (true, "52ee456998b9fd681cc9a7664b23beaf2bafd7fa754457a8c6df96be428b3c3c"), looks := false }, kinds := [], alts := [], laidByText := true, laidKinds := [.data, .data, .pinned], laidTests := true, laidLooks := .later }
def ArmourLettersCardSaid : Prop := Claim7.holds Tryd.pinned (.plain (OpenSpec.ofChange armourLettersSpec)) armourLettersCard

/-- THE TIED CARD OF 'keyholelaw10.ArmourBack'. -/
def armourBackCard : Claim7 := { stood := { row := armourBackRow, standIns := [], harness := (true, "52ee456998b9fd681cc9a7664b23beaf2bafd7fa754457a8c6df96be428b3c3c"), looks := false }, kinds := [], alts := [], laidByText := true, laidKinds := [.data, .data, .pinned], laidTests := true, laidLooks := .later }
def ArmourBackCardSaid : Prop := Claim7.holds Tryd.pinned (.plain (OpenSpec.ofChange armourBackSpec)) armourBackCard

/-- THE TIED CARD OF 'keyholelaw10.ArmourUnlike'. -/
def armourUnlikeCard : Claim7 := { stood := { row := armourUnlikeRow, standIns := [], harness := (true, "52ee456998b9fd681cc9a7664b23beaf2bafd7fa754457a8c6df96be428b3c3c"), looks := false }, kinds := [], alts := [], laidByText := true, laidKinds := [.data, .data, .pinned], laidTests := true, laidLooks := .later }
def ArmourUnlikeCardSaid : Prop := Claim7.holds Tryd.pinned (.plain (OpenSpec.ofChange armourUnlikeSpec)) armourUnlikeCard

/-- THE SECOND FORM's CARD OF 'keyholelaw10.ArmourLetters'. -/
def armourLettersUptoCard : Claim7 := { stood := { row := armourLettersUptoRow, standIns := [], harness := (true, "52ee456998b9fd681cc9a7664b23beaf2bafd7fa754457a8c6df96be428b3c3c"), looks := false }, kinds := [], alts := [], laidByText := true, laidKinds := [.data, .data, .pinned], laidTests := true, laidLooks := .later }
def ArmourLettersUptoCardSaid : Prop := Claim7.holds Tryd.pinned (.plain (OpenSpec.upto armourLettersSpec)) armourLettersUptoCard

/-- THE SECOND FORM's CARD OF 'keyholelaw10.ArmourBack'. -/
def armourBackUptoCard : Claim7 := { stood := { row := armourBackUptoRow, standIns := [], harness := (true, "52ee456998b9fd681cc9a7664b23beaf2bafd7fa754457a8c6df96be428b3c3c"), looks := false }, kinds := [], alts := [], laidByText := true, laidKinds := [.data, .data, .pinned], laidTests := true, laidLooks := .later }
def ArmourBackUptoCardSaid : Prop := Claim7.holds Tryd.pinned (.plain (OpenSpec.upto armourBackSpec)) armourBackUptoCard

/-- THE SECOND FORM's CARD OF 'keyholelaw10.ArmourUnlike'. -/
def armourUnlikeUptoCard : Claim7 := { stood := { row := armourUnlikeUptoRow, standIns := [], harness := (true, "52ee456998b9fd681cc9a7664b23beaf2bafd7fa754457a8c6df96be428b3c3c"), looks := false }, kinds := [], alts := [], laidByText := true, laidKinds := [.data, .data, .pinned], laidTests := true, laidLooks := .later }
def ArmourUnlikeUptoCardSaid : Prop := Claim7.holds Tryd.pinned (.plain (OpenSpec.upto armourUnlikeSpec)) armourUnlikeUptoCard
end Rows
end Go.Proofs.YtmmkhlianijagaaDoor
