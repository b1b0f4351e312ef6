/-
  DERIVED. GIVEN WITH THE SEED: THE CARDS: each row of YthdnbcgomepgaaaDoorRows.lean that lists a variable, with what it lists TIED to the program's text (the seventh form; the later family's looks); each row that meets fmt, with fmt's text TOLD by the authors' own Lean function (tested against real Go, not proved from fmt's source: count such statements apart). THE CARD IS WHAT COUNTS. Prove the row's statement (the work); the ties are given (YthdnbcgomepgaaaDoorTie.lean); close each card by the builder's one call (the guide's Derived/Test/ToyasCard.lean, 'card_holds'). Laid BY PROGRAM, IN A SANDBOX (cutbox-door.mjs). By AI agents, Wed Nov 11 2026. No macro, syntax, notation, axiom, sorry.
-/
import Derived.Test.YthdnbcgomepgaaaDoorRows
import GoSem.ClaimSeven
namespace Go.Proofs.YthdnbcgomepgaaaDoor
namespace Rows

/-- THE TIED CARD OF 'coldpluglaw03.DeviceChecks'. -/
def deviceChecksCard : Claim7 := { stood := { row := deviceChecksRow, standIns := [], harness := (true, "d7a769c6a357656b65a4587ec1915e226b76859ceb003d41acc7e1cf28fc4c8c"), looks := false }, kinds := [], alts := [], laidByText := true, laidKinds := [.data, .pinned], laidTests := true, laidLooks := .later }
def DeviceChecksCardSaid : Prop := Claim7.holds Tryd.pinned (.plain (OpenSpec.ofChange deviceChecksSpec)) deviceChecksCard

/-- THE TIED CARD OF 'coldpluglaw03.DeviceGets'. -/
def deviceGetsCard : Claim7 := { stood := { row := deviceGetsRow, standIns := [], harness := (true, "d7a769c6a357656b65a4587ec1915e226b76859ceb003d41acc7e1cf28fc4c8c"), looks := false }, kinds := [], alts := [], laidByText := true, laidKinds := [.data, .pinned], laidTests := true, laidLooks := .later }
def DeviceGetsCardSaid : Prop := Claim7.holds Tryd.pinned (.plain (OpenSpec.ofChange deviceGetsSpec)) deviceGetsCard

/-- THE TIED CARD OF 'coldpluglaw03.DeviceSets'. -/
def deviceSetsCard : Claim7 := { stood := { row := deviceSetsRow, standIns := [], harness := (true, "d7a769c6a357656b65a4587ec1915e226b76859ceb003d41acc7e1cf28fc4c8c"), looks := false }, kinds := [], alts := [], laidByText := true, laidKinds := [.data, .pinned], laidTests := true, laidLooks := .later }
def DeviceSetsCardSaid : Prop := Claim7.holds Tryd.pinned (.plain (OpenSpec.ofChange deviceSetsSpec)) deviceSetsCard

/-- THE TIED CARD OF 'coldpluglaw03.DeviceSetMeans'. -/
def deviceSetMeansCard : Claim7 := { stood := { row := deviceSetMeansRow, standIns := [], harness := (true, "d7a769c6a357656b65a4587ec1915e226b76859ceb003d41acc7e1cf28fc4c8c"), looks := false }, kinds := [], alts := [], laidByText := true, laidKinds := [.data, .pinned], laidTests := true, laidLooks := .later }
def DeviceSetMeansCardSaid : Prop := Claim7.holds Tryd.pinned (.plain (OpenSpec.ofChange deviceSetMeansSpec)) deviceSetMeansCard

/-- THE TIED CARD OF 'coldpluglaw03.DeviceNodes'. -/
def deviceNodesCard : Claim7 := { stood := { row := deviceNodesRow, standIns := [], harness := (true, "d7a769c6a357656b65a4587ec1915e226b76859ceb003d41acc7e1cf28fc4c8c"), looks := false }, kinds := [], alts := [], laidByText := true, laidKinds := [.data, .pinned], laidTests := true, laidLooks := .later }
def DeviceNodesCardSaid : Prop := Claim7.holds Tryd.pinned (.plain (OpenSpec.ofChange deviceNodesSpec)) deviceNodesCard

/-- THE TIED CARD OF 'coldpluglaw03.DeviceSames'. -/
def deviceSamesCard : Claim7 := { stood := { row := deviceSamesRow, standIns := [], harness := (true, "d7a769c6a357656b65a4587ec1915e226b76859ceb003d41acc7e1cf28fc4c8c"), looks := false }, kinds := [], alts := [], laidByText := true, laidKinds := [.data, .pinned], laidTests := true, laidLooks := .later }
def DeviceSamesCardSaid : Prop := Claim7.holds Tryd.pinned (.plain (OpenSpec.ofChange deviceSamesSpec)) deviceSamesCard

/-- THE TIED CARD OF 'coldpluglaw03.DeviceChanges'. -/
def deviceChangesCard : Claim7 := { stood := { row := deviceChangesRow, standIns := [], harness := (true, "d7a769c6a357656b65a4587ec1915e226b76859ceb003d41acc7e1cf28fc4c8c"), looks := false }, kinds := [], alts := [], laidByText := true, laidKinds := [.data, .pinned], laidTests := true, laidLooks := .later }
def DeviceChangesCardSaid : Prop := Claim7.holds Tryd.pinned (.plain (OpenSpec.ofChange deviceChangesSpec)) deviceChangesCard

/-- THE SECOND FORM's CARD OF 'coldpluglaw03.DeviceChecks'. -/
def deviceChecksUptoCard : Claim7 := { stood := { row := deviceChecksUptoRow, standIns := [], harness := (true, "d7a769c6a357656b65a4587ec1915e226b76859ceb003d41acc7e1cf28fc4c8c"), looks := false }, kinds := [], alts := [], laidByText := true, laidKinds := [.data, .pinned], laidTests := true, laidLooks := .later }
def DeviceChecksUptoCardSaid : Prop := Claim7.holds Tryd.pinned (.plain (OpenSpec.upto deviceChecksSpec)) deviceChecksUptoCard

/-- THE SECOND FORM's CARD OF 'coldpluglaw03.DeviceGets'. -/
def deviceGetsUptoCard : Claim7 := { stood := { row := deviceGetsUptoRow, standIns := [], harness := (true, "d7a769c6a357656b65a4587ec1915e226b76859ceb003d41acc7e1cf28fc4c8c"), looks := false }, kinds := [], alts := [], laidByText := true, laidKinds := [.data, .pinned], laidTests := true, laidLooks := .later }
def DeviceGetsUptoCardSaid : Prop := Claim7.holds Tryd.pinned (.plain (OpenSpec.upto deviceGetsSpec)) deviceGetsUptoCard

/-- THE SECOND FORM's CARD OF 'coldpluglaw03.DeviceSets'. -/
def deviceSetsUptoCard : Claim7 := { stood := { row := deviceSetsUptoRow, standIns := [], harness := (true, "d7a769c6a357656b65a4587ec1915e226b76859ceb003d41acc7e1cf28fc4c8c"), looks := false }, kinds := [], alts := [], laidByText := true, laidKinds := [.data, .pinned], laidTests := true, laidLooks := .later }
def DeviceSetsUptoCardSaid : Prop := Claim7.holds Tryd.pinned (.plain (OpenSpec.upto deviceSetsSpec)) deviceSetsUptoCard

/-- THE SECOND FORM's CARD OF 'coldpluglaw03.DeviceSetMeans'. -/
def deviceSetMeansUptoCard : Claim7 := { stood := { row := deviceSetMeansUptoRow, standIns := [], harness := (true, "d7a769c6a357656b65a4587ec1915e226b76859ceb003d41acc7e1cf28fc4c8c"), looks := false }, kinds := [], alts := [], laidByText := true, laidKinds := [.data, .pinned], laidTests := true, laidLooks := .later }
def DeviceSetMeansUptoCardSaid : Prop := Claim7.holds Tryd.pinned (.plain (OpenSpec.upto deviceSetMeansSpec)) deviceSetMeansUptoCard

/-- THE SECOND FORM's CARD OF 'coldpluglaw03.DeviceNodes'. -/
def deviceNodesUptoCard : Claim7 := { stood := { row := deviceNodesUptoRow, standIns := [], harness := (true, "d7a769c6a357656b65a4587ec1915e226b76859ceb003d41acc7e1cf28fc4c8c"), looks := false }, kinds := [], alts := [], laidByText := true, laidKinds := [.data, .pinned], laidTests := true, laidLooks := .later }
def DeviceNodesUptoCardSaid : Prop := Claim7.holds Tryd.pinned (.plain (OpenSpec.upto deviceNodesSpec)) deviceNodesUptoCard

/-- THE SECOND FORM's CARD OF 'coldpluglaw03.DeviceSames'. -/
def deviceSamesUptoCard : Claim7 := { stood := { row := deviceSamesUptoRow, standIns := [], harness := (true, "d7a769c6a357656b65a4587ec1915e226b76859ceb003d41acc7e1cf28fc4c8c"), looks := false }, kinds := [], alts := [], laidByText := true, laidKinds := [.data, .pinned], laidTests := true, laidLooks := .later }
def DeviceSamesUptoCardSaid : Prop := Claim7.holds Tryd.pinned (.plain (OpenSpec.upto deviceSamesSpec)) deviceSamesUptoCard

/-- THE SECOND FORM's CARD OF 'coldpluglaw03.DeviceChanges'. -/
def deviceChangesUptoCard : Claim7 := { stood := { row := deviceChangesUptoRow, standIns := [], harness := (true, "d7a769c6a357656b65a4587ec1915e226b76859ceb003d41acc7e1cf28fc4c8c"), looks := false }, kinds := [], alts := [], laidByText := true, laidKinds := [.data, .pinned], laidTests := true, laidLooks := .later }
def DeviceChangesUptoCardSaid : Prop := Claim7.holds Tryd.pinned (.plain (OpenSpec.upto deviceChangesSpec)) deviceChangesUptoCard
end Rows
end Go.Proofs.YthdnbcgomepgaaaDoor
