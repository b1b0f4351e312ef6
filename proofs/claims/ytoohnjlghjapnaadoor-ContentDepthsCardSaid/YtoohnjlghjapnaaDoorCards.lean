/-
  DERIVED. GIVEN WITH THE SEED: THE CARDS: each row of YtoohnjlghjapnaaDoorRows.lean that lists a variable, with what it lists TIED to the program's text (the seventh form; the later family's looks); each row that meets fmt, with fmt's text TOLD by the authors' own Lean function (tested against real Go, not proved from fmt's source: count such statements apart). THE CARD IS WHAT COUNTS. Prove the row's statement (the work); the ties are given (YtoohnjlghjapnaaDoorTie.lean); close each card by the builder's one call (the guide's Derived/Test/ToyasCard.lean, 'card_holds'). Laid BY PROGRAM, IN A SANDBOX (cutbox-door.mjs). By AI agents, Wed Nov 11 2026. No macro, syntax, notation, axiom, sorry.
-/
import Derived.Test.YtoohnjlghjapnaaDoorRows
import GoSem.ClaimSeven
namespace Go.Proofs.YtoohnjlghjapnaaDoor
namespace Rows

/-- THE TIED CARD OF 'coldpluglaw07.ContentFormats'. -/
def contentFormatsCard : Claim7 := { stood := { row := contentFormatsRow, standIns := [], harness := (true, "4dc08c673375e6a9b423ba3cf8a941d0f9c48bafe99fa592d8a1d2793295566c"), looks := true }, kinds := [], alts := [], laidByText := true, laidKinds := [.data, .data, .data, .sentinel, .sentinel], laidTests := true, laidLooks := .later }
def ContentFormatsCardSaid : Prop := Claim7.holds Tryd.pinned (.plain (OpenSpec.ofChange contentFormatsSpec)) contentFormatsCard

/-- THE TIED CARD OF 'coldpluglaw07.ContentBack'. -/
def contentBackCard : Claim7 := { stood := { row := contentBackRow, standIns := [], harness := (true, "4dc08c673375e6a9b423ba3cf8a941d0f9c48bafe99fa592d8a1d2793295566c"), looks := true }, kinds := [], alts := [], laidByText := true, laidKinds := [.data, .data, .data, .sentinel, .sentinel], laidTests := true, laidLooks := .later }
def ContentBackCardSaid : Prop := Claim7.holds Tryd.pinned (.plain (OpenSpec.ofChange contentBackSpec)) contentBackCard

/-- THE TIED CARD OF 'coldpluglaw07.ContentDepths'. -/
def contentDepthsCard : Claim7 := { stood := { row := contentDepthsRow, standIns := [], harness := (true, "4dc08c673375e6a9b423ba3cf8a941d0f9c48bafe99fa592d8a1d2793295566c"), looks := true }, kinds := [], alts := [], laidByText := true, laidKinds := [.data, .data, .data, .sentinel, .sentinel], laidTests := true, laidLooks := .later }
def ContentDepthsCardSaid : Prop := Claim7.holds Tryd.pinned (.plain (OpenSpec.ofChange contentDepthsSpec)) contentDepthsCard

/-- THE TIED CARD OF 'coldpluglaw07.ContentSames'. -/
def contentSamesCard : Claim7 := { stood := { row := contentSamesRow, standIns := [], harness := (true, "4dc08c673375e6a9b423ba3cf8a941d0f9c48bafe99fa592d8a1d2793295566c"), looks := true }, kinds := [], alts := [], laidByText := true, laidKinds := [.data, .data, .data, .sentinel, .sentinel], laidTests := true, laidLooks := .later }
def ContentSamesCardSaid : Prop := Claim7.holds Tryd.pinned (.plain (OpenSpec.ofChange contentSamesSpec)) contentSamesCard

/-- THE TIED CARD OF 'coldpluglaw07.ContentNests'. -/
def contentNestsCard : Claim7 := { stood := { row := contentNestsRow, standIns := [], harness := (true, "4dc08c673375e6a9b423ba3cf8a941d0f9c48bafe99fa592d8a1d2793295566c"), looks := true }, kinds := [], alts := [], laidByText := true, laidKinds := [.data, .data, .data, .sentinel, .sentinel], laidTests := true, laidLooks := .later }
def ContentNestsCardSaid : Prop := Claim7.holds Tryd.pinned (.plain (OpenSpec.ofChange contentNestsSpec)) contentNestsCard

/-- THE SECOND FORM's CARD OF 'coldpluglaw07.ContentFormats'. -/
def contentFormatsUptoCard : Claim7 := { stood := { row := contentFormatsUptoRow, standIns := [], harness := (true, "4dc08c673375e6a9b423ba3cf8a941d0f9c48bafe99fa592d8a1d2793295566c"), looks := true }, kinds := [], alts := [], laidByText := true, laidKinds := [.data, .data, .data, .sentinel, .sentinel], laidTests := true, laidLooks := .later }
def ContentFormatsUptoCardSaid : Prop := Claim7.holds Tryd.pinned (.plain (OpenSpec.upto contentFormatsSpec)) contentFormatsUptoCard

/-- THE SECOND FORM's CARD OF 'coldpluglaw07.ContentBack'. -/
def contentBackUptoCard : Claim7 := { stood := { row := contentBackUptoRow, standIns := [], harness := (true, "4dc08c673375e6a9b423ba3cf8a941d0f9c48bafe99fa592d8a1d2793295566c"), looks := true }, kinds := [], alts := [], laidByText := true, laidKinds := [.data, .data, .data, .sentinel, .sentinel], laidTests := true, laidLooks := .later }
def ContentBackUptoCardSaid : Prop := Claim7.holds Tryd.pinned (.plain (OpenSpec.upto contentBackSpec)) contentBackUptoCard

/-- THE SECOND FORM's CARD OF 'coldpluglaw07.ContentDepths'. -/
def contentDepthsUptoCard : Claim7 := { stood := { row := contentDepthsUptoRow, standIns := [], harness := (true, "4dc08c673375e6a9b423ba3cf8a941d0f9c48bafe99fa592d8a1d2793295566c"), looks := true }, kinds := [], alts := [], laidByText := true, laidKinds := [.data, .data, .data, .sentinel, .sentinel], laidTests := true, laidLooks := .later }
def ContentDepthsUptoCardSaid : Prop := Claim7.holds Tryd.pinned (.plain (OpenSpec.upto contentDepthsSpec)) contentDepthsUptoCard

/-- THE SECOND FORM's CARD OF 'coldpluglaw07.ContentSames'. -/
def contentSamesUptoCard : Claim7 := { stood := { row := contentSamesUptoRow, standIns := [], harness := (true, "4dc08c673375e6a9b423ba3cf8a941d0f9c48bafe99fa592d8a1d2793295566c"), looks := true }, kinds := [], alts := [], laidByText := true, laidKinds := [.data, .data, .data, .sentinel, .sentinel], laidTests := true, laidLooks := .later }
def ContentSamesUptoCardSaid : Prop := Claim7.holds Tryd.pinned (.plain (OpenSpec.upto contentSamesSpec)) contentSamesUptoCard

/-- THE SECOND FORM's CARD OF 'coldpluglaw07.ContentNests'. -/
def contentNestsUptoCard : Claim7 := { stood := { row := contentNestsUptoRow, standIns := [], harness := (true, "4dc08c673375e6a9b423ba3cf8a941d0f9c48bafe99fa592d8a1d2793295566c"), looks := true }, kinds := [], alts := [], laidByText := true, laidKinds := [.data, .data, .data, .sentinel, .sentinel], laidTests := true, laidLooks := .later }
def ContentNestsUptoCardSaid : Prop := Claim7.holds Tryd.pinned (.plain (OpenSpec.upto contentNestsSpec)) contentNestsUptoCard
end Rows
end Go.Proofs.YtoohnjlghjapnaaDoor
