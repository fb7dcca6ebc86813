/-
  DERIVED. GIVEN WITH THE SEED: THE CARDS: each row of YtgcohoonhklkbaaDoorRows.lean that lists a variable, with what it lists TIED to the program's text (the seventh form; the later family's looks); each row that meets fmt, with fmt's text TOLD by the authors' own Lean function (tested against real Go, not proved from fmt's source: count such statements apart). THE CARD IS WHAT COUNTS. Prove the row's statement (the work); the ties are given (YtgcohoonhklkbaaDoorTie.lean); close each card by the builder's one call (the guide's Derived/Test/ToyasCard.lean, 'card_holds'). Laid BY PROGRAM, IN A SANDBOX (cutbox-door.mjs). By AI agents, Wed Nov 11 2026. No macro, syntax, notation, axiom, sorry.
-/
import Derived.Test.YtgcohoonhklkbaaDoorRows
import GoSem.ClaimSeven
namespace Go.Proofs.YtgcohoonhklkbaaDoor
namespace Rows

/-- THE TIED CARD OF 'keyholelaw11.TreeRoots'. -/
def treeRootsCard : Claim7 := { stood := { row := treeRootsRow, standIns := [], harness := (true, "ab24709dff1a35a6e5247b2ffd0bf0550a74f5101ea959ca2df007badf8efa70"), looks := false }, kinds := [], alts := [], laidByText := true, laidKinds := [.data], laidTests := true, laidLooks := .later }
def TreeRootsCardSaid : Prop := Claim7.holds Tryd.pinned (.plain (OpenSpec.ofChange treeRootsSpec)) treeRootsCard

/-- THE TIED CARD OF 'keyholelaw11.TreeClimbs'. -/
def treeClimbsCard : Claim7 := { stood := { row := treeClimbsRow, standIns := [], harness := (true, "ab24709dff1a35a6e5247b2ffd0bf0550a74f5101ea959ca2df007badf8efa70"), looks := false }, kinds := [], alts := [], laidByText := true, laidKinds := [.data], laidTests := true, laidLooks := .later }
def TreeClimbsCardSaid : Prop := Claim7.holds Tryd.pinned (.plain (OpenSpec.ofChange treeClimbsSpec)) treeClimbsCard

/-- THE TIED CARD OF 'keyholelaw11.TreeShows'. -/
def treeShowsCard : Claim7 := { stood := { row := treeShowsRow, standIns := [], harness := (true, "ab24709dff1a35a6e5247b2ffd0bf0550a74f5101ea959ca2df007badf8efa70"), looks := false }, kinds := [], alts := [], laidByText := true, laidKinds := [.data], laidTests := true, laidLooks := .later }
def TreeShowsCardSaid : Prop := Claim7.holds Tryd.pinned (.plain (OpenSpec.ofChange treeShowsSpec)) treeShowsCard

/-- THE TIED CARD OF 'keyholelaw11.TreeTold'. -/
def treeToldCard : Claim7 := { stood := { row := treeToldRow, standIns := [], harness := (true, "ab24709dff1a35a6e5247b2ffd0bf0550a74f5101ea959ca2df007badf8efa70"), looks := false }, kinds := [], alts := [], laidByText := true, laidKinds := [.data], laidTests := true, laidLooks := .later }
def TreeToldCardSaid : Prop := Claim7.holds Tryd.pinned (.plain (OpenSpec.ofChange treeToldSpec)) treeToldCard

/-- THE SECOND FORM's CARD OF 'keyholelaw11.TreeRoots'. -/
def treeRootsUptoCard : Claim7 := { stood := { row := treeRootsUptoRow, standIns := [], harness := (true, "ab24709dff1a35a6e5247b2ffd0bf0550a74f5101ea959ca2df007badf8efa70"), looks := false }, kinds := [], alts := [], laidByText := true, laidKinds := [.data], laidTests := true, laidLooks := .later }
def TreeRootsUptoCardSaid : Prop := Claim7.holds Tryd.pinned (.plain (OpenSpec.upto treeRootsSpec)) treeRootsUptoCard

/-- THE SECOND FORM's CARD OF 'keyholelaw11.TreeClimbs'. -/
def treeClimbsUptoCard : Claim7 := { stood := { row := treeClimbsUptoRow, standIns := [], harness := (true, "ab24709dff1a35a6e5247b2ffd0bf0550a74f5101ea959ca2df007badf8efa70"), looks := false }, kinds := [], alts := [], laidByText := true, laidKinds := [.data], laidTests := true, laidLooks := .later }
def TreeClimbsUptoCardSaid : Prop := Claim7.holds Tryd.pinned (.plain (OpenSpec.upto treeClimbsSpec)) treeClimbsUptoCard

/-- THE SECOND FORM's CARD OF 'keyholelaw11.TreeShows'. -/
def treeShowsUptoCard : Claim7 := { stood := { row := treeShowsUptoRow, standIns := [], harness := (true, "ab24709dff1a35a6e5247b2ffd0bf0550a74f5101ea959ca2df007badf8efa70"), looks := false }, kinds := [], alts := [], laidByText := true, laidKinds := [.data], laidTests := true, laidLooks := .later }
def TreeShowsUptoCardSaid : Prop := Claim7.holds Tryd.pinned (.plain (OpenSpec.upto treeShowsSpec)) treeShowsUptoCard

/-- THE SECOND FORM's CARD OF 'keyholelaw11.TreeTold'. -/
def treeToldUptoCard : Claim7 := { stood := { row := treeToldUptoRow, standIns := [], harness := (true, "ab24709dff1a35a6e5247b2ffd0bf0550a74f5101ea959ca2df007badf8efa70"), looks := false }, kinds := [], alts := [], laidByText := true, laidKinds := [.data], laidTests := true, laidLooks := .later }
def TreeToldUptoCardSaid : Prop := Claim7.holds Tryd.pinned (.plain (OpenSpec.upto treeToldSpec)) treeToldUptoCard
end Rows
end Go.Proofs.YtgcohoonhklkbaaDoor
