/-
  DERIVED. GIVEN WITH THE SEED: THE CARDS: each row of YtfcigggchnjkoaaDoorRows.lean that lists a variable, with what it lists TIED to the program's text (the seventh form; the later family's looks); each row that meets fmt, with fmt's text TOLD by the authors' own Lean function (tested against real Go, not proved from fmt's source: count such statements apart). THE CARD IS WHAT COUNTS. Prove the row's statement (the work); the ties are given (YtfcigggchnjkoaaDoorTie.lean); close each card by the builder's one call (the guide's Derived/Test/ToyasCard.lean, 'card_holds'). Laid BY PROGRAM, IN A SANDBOX (cutbox-door.mjs). By AI agents, Wed Nov 11 2026. No macro, syntax, notation, axiom, sorry.
-/
import Derived.Test.YtfcigggchnjkoaaDoorRows
import GoSem.ClaimSeven
namespace Go.Proofs.YtfcigggchnjkoaaDoor
namespace Rows

/-- THE TIED CARD OF 'keyholelaw02.DigestSteps'. -/
def digestStepsCard : Claim7 := { stood := { row := digestStepsRow, standIns := [], harness := (true, "aa04417856db3478ed501324de8ee3fc5432d2ff58a9f214a3b491f79de2b2e4"), looks := false }, kinds := [], alts := [], laidByText := true, laidKinds := [.data], laidTests := true, laidLooks := .later }
def DigestStepsCardSaid : Prop := Claim7.holds Tryd.pinned (.plain (OpenSpec.ofChange digestStepsSpec)) digestStepsCard

/-- THE TIED CARD OF 'keyholelaw02.DigestSums'. -/
def digestSumsCard : Claim7 := { stood := { row := digestSumsRow, standIns := [], harness := (true, "aa04417856db3478ed501324de8ee3fc5432d2ff58a9f214a3b491f79de2b2e4"), looks := false }, kinds := [], alts := [], laidByText := true, laidKinds := [.data], laidTests := true, laidLooks := .later }
def DigestSumsCardSaid : Prop := Claim7.holds Tryd.pinned (.plain (OpenSpec.ofChange digestSumsSpec)) digestSumsCard

/-- THE TIED CARD OF 'keyholelaw02.DigestWalks'. -/
def digestWalksCard : Claim7 := { stood := { row := digestWalksRow, standIns := [], harness := (true, "aa04417856db3478ed501324de8ee3fc5432d2ff58a9f214a3b491f79de2b2e4"), looks := false }, kinds := [], alts := [], laidByText := true, laidKinds := [.data], laidTests := true, laidLooks := .later }
def DigestWalksCardSaid : Prop := Claim7.holds Tryd.pinned (.plain (OpenSpec.ofChange digestWalksSpec)) digestWalksCard

/-- THE TIED CARD OF 'keyholelaw02.DigestPads'. -/
def digestPadsCard : Claim7 := { stood := { row := digestPadsRow, standIns := [], harness := (true, "aa04417856db3478ed501324de8ee3fc5432d2ff58a9f214a3b491f79de2b2e4"), looks := false }, kinds := [], alts := [], laidByText := true, laidKinds := [.data], laidTests := true, laidLooks := .later }
def DigestPadsCardSaid : Prop := Claim7.holds Tryd.pinned (.plain (OpenSpec.ofChange digestPadsSpec)) digestPadsCard

/-- THE TIED CARD OF 'keyholelaw02.DigestGoes'. -/
def digestGoesCard : Claim7 := { stood := { row := digestGoesRow, standIns := [], harness := (true, "aa04417856db3478ed501324de8ee3fc5432d2ff58a9f214a3b491f79de2b2e4"), looks := false }, kinds := [], alts := [], laidByText := true, laidKinds := [.data], laidTests := true, laidLooks := .later }
def DigestGoesCardSaid : Prop := Claim7.holds Tryd.pinned (.plain (OpenSpec.ofChange digestGoesSpec)) digestGoesCard

/-- THE SECOND FORM's CARD OF 'keyholelaw02.DigestSteps'. -/
def digestStepsUptoCard : Claim7 := { stood := { row := digestStepsUptoRow, standIns := [], harness := (true, "aa04417856db3478ed501324de8ee3fc5432d2ff58a9f214a3b491f79de2b2e4"), looks := false }, kinds := [], alts := [], laidByText := true, laidKinds := [.data], laidTests := true, laidLooks := .later }
def DigestStepsUptoCardSaid : Prop := Claim7.holds Tryd.pinned (.plain (OpenSpec.upto digestStepsSpec)) digestStepsUptoCard

/-- THE SECOND FORM's CARD OF 'keyholelaw02.DigestSums'. -/
def digestSumsUptoCard : Claim7 := { stood := { row := digestSumsUptoRow, standIns := [], harness := (true, "aa04417856db3478ed501324de8ee3fc5432d2ff58a9f214a3b491f79de2b2e4"), looks := false }, kinds := [], alts := [], laidByText := true, laidKinds := [.data], laidTests := true, laidLooks := .later }
def DigestSumsUptoCardSaid : Prop := Claim7.holds Tryd.pinned (.plain (OpenSpec.upto digestSumsSpec)) digestSumsUptoCard

/-- THE SECOND FORM's CARD OF 'keyholelaw02.DigestWalks'. -/
def digestWalksUptoCard : Claim7 := { stood := { row := digestWalksUptoRow, standIns := [], harness := (true, "aa04417856db3478ed501324de8ee3fc5432d2ff58a9f214a3b491f79de2b2e4"), looks := false }, kinds := [], alts := [], laidByText := true, laidKinds := [.data], laidTests := true, laidLooks := .later }
def DigestWalksUptoCardSaid : Prop := Claim7.holds Tryd.pinned (.plain (OpenSpec.upto digestWalksSpec)) digestWalksUptoCard

/-- THE SECOND FORM's CARD OF 'keyholelaw02.DigestPads'. -/
def digestPadsUptoCard : Claim7 := { stood := { row := digestPadsUptoRow, standIns := [], harness := (true, "aa04417856db3478ed501324de8ee3fc5432d2ff58a9f214a3b491f79de2b2e4"), looks := false }, kinds := [], alts := [], laidByText := true, laidKinds := [.data], laidTests := true, laidLooks := .later }
def DigestPadsUptoCardSaid : Prop := Claim7.holds Tryd.pinned (.plain (OpenSpec.upto digestPadsSpec)) digestPadsUptoCard

/-- THE SECOND FORM's CARD OF 'keyholelaw02.DigestGoes'. -/
def digestGoesUptoCard : Claim7 := { stood := { row := digestGoesUptoRow, standIns := [], harness := (true, "aa04417856db3478ed501324de8ee3fc5432d2ff58a9f214a3b491f79de2b2e4"), looks := false }, kinds := [], alts := [], laidByText := true, laidKinds := [.data], laidTests := true, laidLooks := .later }
def DigestGoesUptoCardSaid : Prop := Claim7.holds Tryd.pinned (.plain (OpenSpec.upto digestGoesSpec)) digestGoesUptoCard
end Rows
end Go.Proofs.YtfcigggchnjkoaaDoor
