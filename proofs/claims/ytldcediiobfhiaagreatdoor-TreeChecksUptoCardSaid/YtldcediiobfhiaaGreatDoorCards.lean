/-
  DERIVED. GIVEN WITH THE SEED: THE CARDS: each row of YtldcediiobfhiaaGreatDoorRows.lean that lists a variable, with what it lists TIED to the program's text (the seventh form; the later family's looks); each row that meets fmt, with fmt's text TOLD by the authors' own Lean function (tested against real Go, not proved from fmt's source: count such statements apart). THE CARD IS WHAT COUNTS. Prove the row's statement (the work); the ties are given (YtldcediiobfhiaaGreatDoorTie.lean); close each card by the builder's one call (the guide's Derived/Test/ToyasCard.lean, 'card_holds'). Laid BY PROGRAM, IN A SANDBOX (cutbox-door.mjs). By AI agents, Wed Nov 11 2026. No macro, syntax, notation, axiom, sorry.
-/
import Derived.Test.YtldcediiobfhiaaGreatDoorRows
import GoSem.ClaimSeven
namespace Go.Proofs.YtldcediiobfhiaaGreatDoor
namespace Rows

/-- THE TIED CARD OF 'coldpluglaw04.TreeChecks'. -/
def treeChecksCard : Claim7 := { stood := { row := treeChecksRow, standIns := [], harness := (true, "51cfded296cb5a850dfeb7e042f89a490c20da34092b138c1b0cae9855fb21ce"), looks := false }, kinds := [], alts := [], laidByText := true, laidKinds := [.data, .pinned], laidTests := true, laidLooks := .later }
def TreeChecksCardSaid : Prop := Claim7.holds Tryz.pinned (.plain (OpenSpec.ofChange treeChecksSpec)) treeChecksCard

/-- THE TIED CARD OF 'coldpluglaw04.TreeFinds'. -/
def treeFindsCard : Claim7 := { stood := { row := treeFindsRow, standIns := [], harness := (true, "51cfded296cb5a850dfeb7e042f89a490c20da34092b138c1b0cae9855fb21ce"), looks := false }, kinds := [], alts := [], laidByText := true, laidKinds := [.data, .pinned], laidTests := true, laidLooks := .later }
def TreeFindsCardSaid : Prop := Claim7.holds Tryz.pinned (.plain (OpenSpec.ofChange treeFindsSpec)) treeFindsCard

/-- THE TIED CARD OF 'coldpluglaw04.TreePaths'. -/
def treePathsCard : Claim7 := { stood := { row := treePathsRow, standIns := [], harness := (true, "51cfded296cb5a850dfeb7e042f89a490c20da34092b138c1b0cae9855fb21ce"), looks := false }, kinds := [], alts := [], laidByText := true, laidKinds := [.data, .pinned], laidTests := true, laidLooks := .later }
def TreePathsCardSaid : Prop := Claim7.holds Tryz.pinned (.plain (OpenSpec.ofChange treePathsSpec)) treePathsCard

/-- THE TIED CARD OF 'coldpluglaw04.TreeRelatives'. -/
def treeRelativesCard : Claim7 := { stood := { row := treeRelativesRow, standIns := [], harness := (true, "51cfded296cb5a850dfeb7e042f89a490c20da34092b138c1b0cae9855fb21ce"), looks := false }, kinds := [], alts := [], laidByText := true, laidKinds := [.data, .pinned], laidTests := true, laidLooks := .later }
def TreeRelativesCardSaid : Prop := Claim7.holds Tryz.pinned (.plain (OpenSpec.ofChange treeRelativesSpec)) treeRelativesCard

/-- THE TIED CARD OF 'coldpluglaw04.TreeInserts'. -/
def treeInsertsCard : Claim7 := { stood := { row := treeInsertsRow, standIns := [], harness := (true, "51cfded296cb5a850dfeb7e042f89a490c20da34092b138c1b0cae9855fb21ce"), looks := false }, kinds := [], alts := [], laidByText := true, laidKinds := [.data, .pinned], laidTests := true, laidLooks := .later }
def TreeInsertsCardSaid : Prop := Claim7.holds Tryz.pinned (.plain (OpenSpec.ofChange treeInsertsSpec)) treeInsertsCard

/-- THE TIED CARD OF 'coldpluglaw04.TreeChanges'. -/
def treeChangesCard : Claim7 := { stood := { row := treeChangesRow, standIns := [], harness := (true, "51cfded296cb5a850dfeb7e042f89a490c20da34092b138c1b0cae9855fb21ce"), looks := false }, kinds := [], alts := [], laidByText := true, laidKinds := [.data, .pinned], laidTests := true, laidLooks := .later }
def TreeChangesCardSaid : Prop := Claim7.holds Tryz.pinned (.plain (OpenSpec.ofChange treeChangesSpec)) treeChangesCard

/-- THE TIED CARD OF 'coldpluglaw04.TreeStays'. -/
def treeStaysCard : Claim7 := { stood := { row := treeStaysRow, standIns := [], harness := (true, "51cfded296cb5a850dfeb7e042f89a490c20da34092b138c1b0cae9855fb21ce"), looks := false }, kinds := [], alts := [], laidByText := true, laidKinds := [.data, .pinned], laidTests := true, laidLooks := .later }
def TreeStaysCardSaid : Prop := Claim7.holds Tryz.pinned (.plain (OpenSpec.ofChange treeStaysSpec)) treeStaysCard

/-- THE TIED CARD OF 'coldpluglaw04.TreeBuilds'. -/
def treeBuildsCard : Claim7 := { stood := { row := treeBuildsRow, standIns := [], harness := (true, "51cfded296cb5a850dfeb7e042f89a490c20da34092b138c1b0cae9855fb21ce"), looks := false }, kinds := [], alts := [], laidByText := true, laidKinds := [.data, .pinned], laidTests := true, laidLooks := .later }
def TreeBuildsCardSaid : Prop := Claim7.holds Tryz.pinned (.plain (OpenSpec.ofChange treeBuildsSpec)) treeBuildsCard

/-- THE TIED CARD OF 'coldpluglaw04.TreeNeighbours'. -/
def treeNeighboursCard : Claim7 := { stood := { row := treeNeighboursRow, standIns := [], harness := (true, "51cfded296cb5a850dfeb7e042f89a490c20da34092b138c1b0cae9855fb21ce"), looks := false }, kinds := [], alts := [], laidByText := true, laidKinds := [.data, .pinned], laidTests := true, laidLooks := .later }
def TreeNeighboursCardSaid : Prop := Claim7.holds Tryz.pinned (.plain (OpenSpec.ofChange treeNeighboursSpec)) treeNeighboursCard

/-- THE SECOND FORM's CARD OF 'coldpluglaw04.TreeChecks'. -/
def treeChecksUptoCard : Claim7 := { stood := { row := treeChecksUptoRow, standIns := [], harness := (true, "51cfded296cb5a850dfeb7e042f89a490c20da34092b138c1b0cae9855fb21ce"), looks := false }, kinds := [], alts := [], laidByText := true, laidKinds := [.data, .pinned], laidTests := true, laidLooks := .later }
def TreeChecksUptoCardSaid : Prop := Claim7.holds Tryz.pinned (.plain (OpenSpec.upto treeChecksSpec)) treeChecksUptoCard

/-- THE SECOND FORM's CARD OF 'coldpluglaw04.TreeFinds'. -/
def treeFindsUptoCard : Claim7 := { stood := { row := treeFindsUptoRow, standIns := [], harness := (true, "51cfded296cb5a850dfeb7e042f89a490c20da34092b138c1b0cae9855fb21ce"), looks := false }, kinds := [], alts := [], laidByText := true, laidKinds := [.data, .pinned], laidTests := true, laidLooks := .later }
def TreeFindsUptoCardSaid : Prop := Claim7.holds Tryz.pinned (.plain (OpenSpec.upto treeFindsSpec)) treeFindsUptoCard

/-- THE SECOND FORM's CARD OF 'coldpluglaw04.TreePaths'. -/
def treePathsUptoCard : Claim7 := { stood := { row := treePathsUptoRow, standIns := [], harness := (true, "51cfded296cb5a850dfeb7e042f89a490c20da34092b138c1b0cae9855fb21ce"), looks := false }, kinds := [], alts := [], laidByText := true, laidKinds := [.data, .pinned], laidTests := true, laidLooks := .later }
def TreePathsUptoCardSaid : Prop := Claim7.holds Tryz.pinned (.plain (OpenSpec.upto treePathsSpec)) treePathsUptoCard

/-- THE SECOND FORM's CARD OF 'coldpluglaw04.TreeRelatives'. -/
def treeRelativesUptoCard : Claim7 := { stood := { row := treeRelativesUptoRow, standIns := [], harness := (true, "51cfded296cb5a850dfeb7e042f89a490c20da34092b138c1b0cae9855fb21ce"), looks := false }, kinds := [], alts := [], laidByText := true, laidKinds := [.data, .pinned], laidTests := true, laidLooks := .later }
def TreeRelativesUptoCardSaid : Prop := Claim7.holds Tryz.pinned (.plain (OpenSpec.upto treeRelativesSpec)) treeRelativesUptoCard

/-- THE SECOND FORM's CARD OF 'coldpluglaw04.TreeInserts'. -/
def treeInsertsUptoCard : Claim7 := { stood := { row := treeInsertsUptoRow, standIns := [], harness := (true, "51cfded296cb5a850dfeb7e042f89a490c20da34092b138c1b0cae9855fb21ce"), looks := false }, kinds := [], alts := [], laidByText := true, laidKinds := [.data, .pinned], laidTests := true, laidLooks := .later }
def TreeInsertsUptoCardSaid : Prop := Claim7.holds Tryz.pinned (.plain (OpenSpec.upto treeInsertsSpec)) treeInsertsUptoCard

/-- THE SECOND FORM's CARD OF 'coldpluglaw04.TreeChanges'. -/
def treeChangesUptoCard : Claim7 := { stood := { row := treeChangesUptoRow, standIns := [], harness := (true, "51cfded296cb5a850dfeb7e042f89a490c20da34092b138c1b0cae9855fb21ce"), looks := false }, kinds := [], alts := [], laidByText := true, laidKinds := [.data, .pinned], laidTests := true, laidLooks := .later }
def TreeChangesUptoCardSaid : Prop := Claim7.holds Tryz.pinned (.plain (OpenSpec.upto treeChangesSpec)) treeChangesUptoCard

/-- THE SECOND FORM's CARD OF 'coldpluglaw04.TreeStays'. -/
def treeStaysUptoCard : Claim7 := { stood := { row := treeStaysUptoRow, standIns := [], harness := (true, "51cfded296cb5a850dfeb7e042f89a490c20da34092b138c1b0cae9855fb21ce"), looks := false }, kinds := [], alts := [], laidByText := true, laidKinds := [.data, .pinned], laidTests := true, laidLooks := .later }
def TreeStaysUptoCardSaid : Prop := Claim7.holds Tryz.pinned (.plain (OpenSpec.upto treeStaysSpec)) treeStaysUptoCard

/-- THE SECOND FORM's CARD OF 'coldpluglaw04.TreeBuilds'. -/
def treeBuildsUptoCard : Claim7 := { stood := { row := treeBuildsUptoRow, standIns := [], harness := (true, "51cfded296cb5a850dfeb7e042f89a490c20da34092b138c1b0cae9855fb21ce"), looks := false }, kinds := [], alts := [], laidByText := true, laidKinds := [.data, .pinned], laidTests := true, laidLooks := .later }
def TreeBuildsUptoCardSaid : Prop := Claim7.holds Tryz.pinned (.plain (OpenSpec.upto treeBuildsSpec)) treeBuildsUptoCard

/-- THE SECOND FORM's CARD OF 'coldpluglaw04.TreeNeighbours'. -/
def treeNeighboursUptoCard : Claim7 := { stood := { row := treeNeighboursUptoRow, standIns := [], harness := (true, "51cfded296cb5a850dfeb7e042f89a490c20da34092b138c1b0cae9855fb21ce"), looks := false }, kinds := [], alts := [], laidByText := true, laidKinds := [.data, .pinned], laidTests := true, laidLooks := .later }
def TreeNeighboursUptoCardSaid : Prop := Claim7.holds Tryz.pinned (.plain (OpenSpec.upto treeNeighboursSpec)) treeNeighboursUptoCard
end Rows
end Go.Proofs.YtldcediiobfhiaaGreatDoor
