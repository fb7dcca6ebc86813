/-
  DERIVED. GIVEN WITH THE SEED: THE CARDS: each row of YtelplkidippclaaDoorRows.lean that lists a variable, with what it lists TIED to the program's text (the seventh form; the later family's looks); each row that meets fmt, with fmt's text TOLD by the authors' own Lean function (tested against real Go, not proved from fmt's source: count such statements apart). THE CARD IS WHAT COUNTS. Prove the row's statement (the work); the ties are given (YtelplkidippclaaDoorTie.lean); close each card by the builder's one call (the guide's Derived/Test/ToyasCard.lean, 'card_holds'). Laid BY PROGRAM, IN A SANDBOX (cutbox-door.mjs). By AI agents, Wed Nov 11 2026. No macro, syntax, notation, axiom, sorry.
-/
import Derived.Test.YtelplkidippclaaDoorRows
import GoSem.ClaimSeven
namespace Go.Proofs.YtelplkidippclaaDoor
namespace Rows

/-- THE TIED CARD OF 'keyholelaw03.KeyedMacs'. -/
def keyedMacsCard : Claim7 := { stood := { row := keyedMacsRow, standIns := [], harness := (true, "f2e83f145c7032e8e8d37a14565cbff5010f26226b893148bbf115b0e0d8c47d"), looks := false }, kinds := [], alts := [], laidByText := true, laidKinds := [.data], laidTests := true, laidLooks := .later }
def KeyedMacsCardSaid : Prop := Claim7.holds Tryd.pinned (.plain (OpenSpec.ofChange keyedMacsSpec)) keyedMacsCard

/-- THE TIED CARD OF 'keyholelaw03.KeyedExpands'. -/
def keyedExpandsCard : Claim7 := { stood := { row := keyedExpandsRow, standIns := [], harness := (true, "f2e83f145c7032e8e8d37a14565cbff5010f26226b893148bbf115b0e0d8c47d"), looks := false }, kinds := [], alts := [], laidByText := true, laidKinds := [.data], laidTests := true, laidLooks := .later }
def KeyedExpandsCardSaid : Prop := Claim7.holds Tryd.pinned (.plain (OpenSpec.ofChange keyedExpandsSpec)) keyedExpandsCard

/-- THE TIED CARD OF 'keyholelaw03.KeyedFront'. -/
def keyedFrontCard : Claim7 := { stood := { row := keyedFrontRow, standIns := [], harness := (true, "f2e83f145c7032e8e8d37a14565cbff5010f26226b893148bbf115b0e0d8c47d"), looks := false }, kinds := [], alts := [], laidByText := true, laidKinds := [.data], laidTests := true, laidLooks := .later }
def KeyedFrontCardSaid : Prop := Claim7.holds Tryd.pinned (.plain (OpenSpec.ofChange keyedFrontSpec)) keyedFrontCard

/-- THE TIED CARD OF 'keyholelaw03.KeyedZeros'. -/
def keyedZerosCard : Claim7 := { stood := { row := keyedZerosRow, standIns := [], harness := (true, "f2e83f145c7032e8e8d37a14565cbff5010f26226b893148bbf115b0e0d8c47d"), looks := false }, kinds := [], alts := [], laidByText := true, laidKinds := [.data], laidTests := true, laidLooks := .later }
def KeyedZerosCardSaid : Prop := Claim7.holds Tryd.pinned (.plain (OpenSpec.ofChange keyedZerosSpec)) keyedZerosCard

/-- THE TIED CARD OF 'keyholelaw03.KeyedNext'. -/
def keyedNextCard : Claim7 := { stood := { row := keyedNextRow, standIns := [], harness := (true, "f2e83f145c7032e8e8d37a14565cbff5010f26226b893148bbf115b0e0d8c47d"), looks := false }, kinds := [], alts := [], laidByText := true, laidKinds := [.data], laidTests := true, laidLooks := .later }
def KeyedNextCardSaid : Prop := Claim7.holds Tryd.pinned (.plain (OpenSpec.ofChange keyedNextSpec)) keyedNextCard

/-- THE SECOND FORM's CARD OF 'keyholelaw03.KeyedMacs'. -/
def keyedMacsUptoCard : Claim7 := { stood := { row := keyedMacsUptoRow, standIns := [], harness := (true, "f2e83f145c7032e8e8d37a14565cbff5010f26226b893148bbf115b0e0d8c47d"), looks := false }, kinds := [], alts := [], laidByText := true, laidKinds := [.data], laidTests := true, laidLooks := .later }
def KeyedMacsUptoCardSaid : Prop := Claim7.holds Tryd.pinned (.plain (OpenSpec.upto keyedMacsSpec)) keyedMacsUptoCard

/-- THE SECOND FORM's CARD OF 'keyholelaw03.KeyedExpands'. -/
def keyedExpandsUptoCard : Claim7 := { stood := { row := keyedExpandsUptoRow, standIns := [], harness := (true, "f2e83f145c7032e8e8d37a14565cbff5010f26226b893148bbf115b0e0d8c47d"), looks := false }, kinds := [], alts := [], laidByText := true, laidKinds := [.data], laidTests := true, laidLooks := .later }
def KeyedExpandsUptoCardSaid : Prop := Claim7.holds Tryd.pinned (.plain (OpenSpec.upto keyedExpandsSpec)) keyedExpandsUptoCard

/-- THE SECOND FORM's CARD OF 'keyholelaw03.KeyedFront'. -/
def keyedFrontUptoCard : Claim7 := { stood := { row := keyedFrontUptoRow, standIns := [], harness := (true, "f2e83f145c7032e8e8d37a14565cbff5010f26226b893148bbf115b0e0d8c47d"), looks := false }, kinds := [], alts := [], laidByText := true, laidKinds := [.data], laidTests := true, laidLooks := .later }
def KeyedFrontUptoCardSaid : Prop := Claim7.holds Tryd.pinned (.plain (OpenSpec.upto keyedFrontSpec)) keyedFrontUptoCard

/-- THE SECOND FORM's CARD OF 'keyholelaw03.KeyedZeros'. -/
def keyedZerosUptoCard : Claim7 := { stood := { row := keyedZerosUptoRow, standIns := [], harness := (true, "f2e83f145c7032e8e8d37a14565cbff5010f26226b893148bbf115b0e0d8c47d"), looks := false }, kinds := [], alts := [], laidByText := true, laidKinds := [.data], laidTests := true, laidLooks := .later }
def KeyedZerosUptoCardSaid : Prop := Claim7.holds Tryd.pinned (.plain (OpenSpec.upto keyedZerosSpec)) keyedZerosUptoCard

/-- THE SECOND FORM's CARD OF 'keyholelaw03.KeyedNext'. -/
def keyedNextUptoCard : Claim7 := { stood := { row := keyedNextUptoRow, standIns := [], harness := (true, "f2e83f145c7032e8e8d37a14565cbff5010f26226b893148bbf115b0e0d8c47d"), looks := false }, kinds := [], alts := [], laidByText := true, laidKinds := [.data], laidTests := true, laidLooks := .later }
def KeyedNextUptoCardSaid : Prop := Claim7.holds Tryd.pinned (.plain (OpenSpec.upto keyedNextSpec)) keyedNextUptoCard
end Rows
end Go.Proofs.YtelplkidippclaaDoor
