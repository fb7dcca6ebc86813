/-
  DERIVED. GIVEN WITH THE SEED: THE CARDS: each row of YtlkdofghhibmbaaDoorRows.lean that lists a variable, with what it lists TIED to the program's text (the seventh form; the later family's looks); each row that meets fmt, with fmt's text TOLD by the authors' own Lean function (tested against real Go, not proved from fmt's source: count such statements apart). THE CARD IS WHAT COUNTS. Prove the row's statement (the work); the ties are given (YtlkdofghhibmbaaDoorTie.lean); close each card by the builder's one call (the guide's Derived/Test/ToyasCard.lean, 'card_holds'). Laid BY PROGRAM, IN A SANDBOX (cutbox-door.mjs). By AI agents, Wed Nov 11 2026. No macro, syntax, notation, axiom, sorry.
-/
import Derived.Test.YtlkdofghhibmbaaDoorRows
import GoSem.ClaimSeven
namespace Go.Proofs.YtlkdofghhibmbaaDoor
namespace Rows

/-- THE TIED CARD OF 'keyholelaw12.TapeRuns'. -/
def tapeRunsCard : Claim7 := { stood := { row := tapeRunsRow, standIns := [], harness := (true, "fc1061e3546e8ae5e7d206011c912847b183f170909a9eb6a2ec333c1d5cf563"), looks := false }, kinds := [], alts := [], laidByText := true, laidKinds := [.data, .data], laidTests := true, laidLooks := .later }
def TapeRunsCardSaid : Prop := Claim7.holds Tryd.pinned (.plain (OpenSpec.ofChange tapeRunsSpec)) tapeRunsCard

/-- THE TIED CARD OF 'keyholelaw12.TapeBlocks'. -/
def tapeBlocksCard : Claim7 := { stood := { row := tapeBlocksRow, standIns := [], harness := (true, "fc1061e3546e8ae5e7d206011c912847b183f170909a9eb6a2ec333c1d5cf563"), looks := false }, kinds := [], alts := [], laidByText := true, laidKinds := [.data, .data], laidTests := true, laidLooks := .later }
def TapeBlocksCardSaid : Prop := Claim7.holds Tryd.pinned (.plain (OpenSpec.ofChange tapeBlocksSpec)) tapeBlocksCard

/-- THE SECOND FORM's CARD OF 'keyholelaw12.TapeRuns'. -/
def tapeRunsUptoCard : Claim7 := { stood := { row := tapeRunsUptoRow, standIns := [], harness := (true, "fc1061e3546e8ae5e7d206011c912847b183f170909a9eb6a2ec333c1d5cf563"), looks := false }, kinds := [], alts := [], laidByText := true, laidKinds := [.data, .data], laidTests := true, laidLooks := .later }
def TapeRunsUptoCardSaid : Prop := Claim7.holds Tryd.pinned (.plain (OpenSpec.upto tapeRunsSpec)) tapeRunsUptoCard

/-- THE SECOND FORM's CARD OF 'keyholelaw12.TapeBlocks'. -/
def tapeBlocksUptoCard : Claim7 := { stood := { row := tapeBlocksUptoRow, standIns := [], harness := (true, "fc1061e3546e8ae5e7d206011c912847b183f170909a9eb6a2ec333c1d5cf563"), looks := false }, kinds := [], alts := [], laidByText := true, laidKinds := [.data, .data], laidTests := true, laidLooks := .later }
def TapeBlocksUptoCardSaid : Prop := Claim7.holds Tryd.pinned (.plain (OpenSpec.upto tapeBlocksSpec)) tapeBlocksUptoCard
end Rows
end Go.Proofs.YtlkdofghhibmbaaDoor
