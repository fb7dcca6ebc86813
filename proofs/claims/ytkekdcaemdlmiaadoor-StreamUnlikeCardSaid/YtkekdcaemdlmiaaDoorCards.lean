/-
  DERIVED. GIVEN WITH THE SEED: THE CARDS: each row of YtkekdcaemdlmiaaDoorRows.lean that lists a variable, with what it lists TIED to the program's text (the seventh form; the later family's looks); each row that meets fmt, with fmt's text TOLD by the authors' own Lean function (tested against real Go, not proved from fmt's source: count such statements apart). THE CARD IS WHAT COUNTS. Prove the row's statement (the work); the ties are given (YtkekdcaemdlmiaaDoorTie.lean); close each card by the builder's one call (the guide's Derived/Test/ToyasCard.lean, 'card_holds'). Laid BY PROGRAM, IN A SANDBOX (cutbox-door.mjs). By AI agents, Wed Nov 11 2026. No macro, syntax, notation, axiom, sorry.
-/
import Derived.Test.YtkekdcaemdlmiaaDoorRows
import GoSem.ClaimSeven
namespace Go.Proofs.YtkekdcaemdlmiaaDoor
namespace Rows

/-- THE TIED CARD OF 'keyholelaw04.StreamBack'. -/
def streamBackCard : Claim7 := { stood := { row := streamBackRow, standIns := [], harness := (true, "61a3260c2c6f85716220a8b1f8aee56afa35179f95512629bdfa5c9229d3dcce"), looks := false }, kinds := [], alts := [], laidByText := true, laidKinds := [.data], laidTests := true, laidLooks := .later }
def StreamBackCardSaid : Prop := Claim7.holds Tryd.pinned (.plain (OpenSpec.ofChange streamBackSpec)) streamBackCard

/-- THE TIED CARD OF 'keyholelaw04.StreamParts'. -/
def streamPartsCard : Claim7 := { stood := { row := streamPartsRow, standIns := [], harness := (true, "61a3260c2c6f85716220a8b1f8aee56afa35179f95512629bdfa5c9229d3dcce"), looks := false }, kinds := [], alts := [], laidByText := true, laidKinds := [.data], laidTests := true, laidLooks := .later }
def StreamPartsCardSaid : Prop := Claim7.holds Tryd.pinned (.plain (OpenSpec.ofChange streamPartsSpec)) streamPartsCard

/-- THE TIED CARD OF 'keyholelaw04.StreamUnlike'. -/
def streamUnlikeCard : Claim7 := { stood := { row := streamUnlikeRow, standIns := [], harness := (true, "61a3260c2c6f85716220a8b1f8aee56afa35179f95512629bdfa5c9229d3dcce"), looks := false }, kinds := [], alts := [], laidByText := true, laidKinds := [.data], laidTests := true, laidLooks := .later }
def StreamUnlikeCardSaid : Prop := Claim7.holds Tryd.pinned (.plain (OpenSpec.ofChange streamUnlikeSpec)) streamUnlikeCard

/-- THE SECOND FORM's CARD OF 'keyholelaw04.StreamBack'. -/
def streamBackUptoCard : Claim7 := { stood := { row := streamBackUptoRow, standIns := [], harness := (true, "61a3260c2c6f85716220a8b1f8aee56afa35179f95512629bdfa5c9229d3dcce"), looks := false }, kinds := [], alts := [], laidByText := true, laidKinds := [.data], laidTests := true, laidLooks := .later }
def StreamBackUptoCardSaid : Prop := Claim7.holds Tryd.pinned (.plain (OpenSpec.upto streamBackSpec)) streamBackUptoCard

/-- THE SECOND FORM's CARD OF 'keyholelaw04.StreamParts'. -/
def streamPartsUptoCard : Claim7 := { stood := { row := streamPartsUptoRow, standIns := [], harness := (true, "61a3260c2c6f85716220a8b1f8aee56afa35179f95512629bdfa5c9229d3dcce"), looks := false }, kinds := [], alts := [], laidByText := true, laidKinds := [.data], laidTests := true, laidLooks := .later }
def StreamPartsUptoCardSaid : Prop := Claim7.holds Tryd.pinned (.plain (OpenSpec.upto streamPartsSpec)) streamPartsUptoCard

/-- THE SECOND FORM's CARD OF 'keyholelaw04.StreamUnlike'. -/
def streamUnlikeUptoCard : Claim7 := { stood := { row := streamUnlikeUptoRow, standIns := [], harness := (true, "61a3260c2c6f85716220a8b1f8aee56afa35179f95512629bdfa5c9229d3dcce"), looks := false }, kinds := [], alts := [], laidByText := true, laidKinds := [.data], laidTests := true, laidLooks := .later }
def StreamUnlikeUptoCardSaid : Prop := Claim7.holds Tryd.pinned (.plain (OpenSpec.upto streamUnlikeSpec)) streamUnlikeUptoCard
end Rows
end Go.Proofs.YtkekdcaemdlmiaaDoor
