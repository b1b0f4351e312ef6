/-
  DERIVED. GIVEN WITH THE SEED: THE CARDS: each row of YtkkibibecgcbmaaGreatDoorRows.lean that lists a variable, with what it lists TIED to the program's text (the seventh form; the later family's looks); each row that meets fmt, with fmt's text TOLD by the authors' own Lean function (tested against real Go, not proved from fmt's source: count such statements apart). THE CARD IS WHAT COUNTS. Prove the row's statement (the work); the ties are given (YtkkibibecgcbmaaGreatDoorTie.lean); close each card by the builder's one call (the guide's Derived/Test/ToyasCard.lean, 'card_holds'). Laid BY PROGRAM, IN A SANDBOX (cutbox-door.mjs). By AI agents, Wed Nov 11 2026. No macro, syntax, notation, axiom, sorry.
-/
import Derived.Test.YtkkibibecgcbmaaGreatDoorRows
import GoSem.ClaimSeven
namespace Go.Proofs.YtkkibibecgcbmaaGreatDoor
namespace Rows

/-- THE TIED CARD OF 'coldpluglaw10.GrammarChecks'. -/
def grammarChecksCard : Claim7 := { stood := { row := grammarChecksRow, standIns := [], harness := (true, "c04029905b43065fc0647d0af09f83dfc71a3e1c0d56a47b9b4a193cf29027cb"), looks := true }, kinds := [], alts := [], laidByText := true, laidKinds := [.data, .data, .data, .data, .sentinel, .sentinel, .listed, .data, .pinned], laidTests := true, laidLooks := .later }
def GrammarChecksCardSaid : Prop := Claim7.holds Tryz.pinned (.plain (OpenSpec.ofChange grammarChecksSpec)) grammarChecksCard

/-- THE TIED CARD OF 'coldpluglaw10.GrammarParses'. -/
def grammarParsesCard : Claim7 := { stood := { row := grammarParsesRow, standIns := [], harness := (true, "c04029905b43065fc0647d0af09f83dfc71a3e1c0d56a47b9b4a193cf29027cb"), looks := true }, kinds := [], alts := [], laidByText := true, laidKinds := [.data, .data, .data, .data, .sentinel, .sentinel, .listed, .data, .pinned], laidTests := true, laidLooks := .later }
def GrammarParsesCardSaid : Prop := Claim7.holds Tryz.pinned (.plain (OpenSpec.ofChange grammarParsesSpec)) grammarParsesCard

/-- THE TIED CARD OF 'coldpluglaw10.GrammarFormats'. -/
def grammarFormatsCard : Claim7 := { stood := { row := grammarFormatsRow, standIns := [], harness := (true, "c04029905b43065fc0647d0af09f83dfc71a3e1c0d56a47b9b4a193cf29027cb"), looks := true }, kinds := [], alts := [], laidByText := true, laidKinds := [.data, .data, .data, .data, .sentinel, .sentinel, .listed, .data, .pinned], laidTests := true, laidLooks := .later }
def GrammarFormatsCardSaid : Prop := Claim7.holds Tryz.pinned (.plain (OpenSpec.ofChange grammarFormatsSpec)) grammarFormatsCard

/-- THE TIED CARD OF 'coldpluglaw10.GrammarBack'. -/
def grammarBackCard : Claim7 := { stood := { row := grammarBackRow, standIns := [], harness := (true, "c04029905b43065fc0647d0af09f83dfc71a3e1c0d56a47b9b4a193cf29027cb"), looks := true }, kinds := [], alts := [], laidByText := true, laidKinds := [.data, .data, .data, .data, .sentinel, .sentinel, .listed, .data, .pinned], laidTests := true, laidLooks := .later }
def GrammarBackCardSaid : Prop := Claim7.holds Tryz.pinned (.plain (OpenSpec.ofChange grammarBackSpec)) grammarBackCard

/-- THE TIED CARD OF 'coldpluglaw10.GrammarScripts'. -/
def grammarScriptsCard : Claim7 := { stood := { row := grammarScriptsRow, standIns := [], harness := (true, "c04029905b43065fc0647d0af09f83dfc71a3e1c0d56a47b9b4a193cf29027cb"), looks := true }, kinds := [], alts := [], laidByText := true, laidKinds := [.data, .data, .data, .data, .sentinel, .sentinel, .listed, .data, .pinned], laidTests := true, laidLooks := .later }
def GrammarScriptsCardSaid : Prop := Claim7.holds Tryz.pinned (.plain (OpenSpec.ofChange grammarScriptsSpec)) grammarScriptsCard

/-- THE TIED CARD OF 'coldpluglaw10.GrammarLinks'. -/
def grammarLinksCard : Claim7 := { stood := { row := grammarLinksRow, standIns := [], harness := (true, "c04029905b43065fc0647d0af09f83dfc71a3e1c0d56a47b9b4a193cf29027cb"), looks := true }, kinds := [], alts := [], laidByText := true, laidKinds := [.data, .data, .data, .data, .sentinel, .sentinel, .listed, .data, .pinned], laidTests := true, laidLooks := .later }
def GrammarLinksCardSaid : Prop := Claim7.holds Tryz.pinned (.plain (OpenSpec.ofChange grammarLinksSpec)) grammarLinksCard

/-- THE TIED CARD OF 'coldpluglaw10.GrammarReaches'. -/
def grammarReachesCard : Claim7 := { stood := { row := grammarReachesRow, standIns := [], harness := (true, "c04029905b43065fc0647d0af09f83dfc71a3e1c0d56a47b9b4a193cf29027cb"), looks := true }, kinds := [], alts := [], laidByText := true, laidKinds := [.data, .data, .data, .data, .sentinel, .sentinel, .listed, .data, .pinned], laidTests := true, laidLooks := .later }
def GrammarReachesCardSaid : Prop := Claim7.holds Tryz.pinned (.plain (OpenSpec.ofChange grammarReachesSpec)) grammarReachesCard

/-- THE TIED CARD OF 'coldpluglaw10.GrammarPriorities'. -/
def grammarPrioritiesCard : Claim7 := { stood := { row := grammarPrioritiesRow, standIns := [], harness := (true, "c04029905b43065fc0647d0af09f83dfc71a3e1c0d56a47b9b4a193cf29027cb"), looks := true }, kinds := [], alts := [], laidByText := true, laidKinds := [.data, .data, .data, .data, .sentinel, .sentinel, .listed, .data, .pinned], laidTests := true, laidLooks := .later }
def GrammarPrioritiesCardSaid : Prop := Claim7.holds Tryz.pinned (.plain (OpenSpec.ofChange grammarPrioritiesSpec)) grammarPrioritiesCard

/-- THE SECOND FORM's CARD OF 'coldpluglaw10.GrammarChecks'. -/
def grammarChecksUptoCard : Claim7 := { stood := { row := grammarChecksUptoRow, standIns := [], harness := (true, "c04029905b43065fc0647d0af09f83dfc71a3e1c0d56a47b9b4a193cf29027cb"), looks := true }, kinds := [], alts := [], laidByText := true, laidKinds := [.data, .data, .data, .data, .sentinel, .sentinel, .listed, .data, .pinned], laidTests := true, laidLooks := .later }
def GrammarChecksUptoCardSaid : Prop := Claim7.holds Tryz.pinned (.plain (OpenSpec.upto grammarChecksSpec)) grammarChecksUptoCard

/-- THE SECOND FORM's CARD OF 'coldpluglaw10.GrammarParses'. -/
def grammarParsesUptoCard : Claim7 := { stood := { row := grammarParsesUptoRow, standIns := [], harness := (true, "c04029905b43065fc0647d0af09f83dfc71a3e1c0d56a47b9b4a193cf29027cb"), looks := true }, kinds := [], alts := [], laidByText := true, laidKinds := [.data, .data, .data, .data, .sentinel, .sentinel, .listed, .data, .pinned], laidTests := true, laidLooks := .later }
def GrammarParsesUptoCardSaid : Prop := Claim7.holds Tryz.pinned (.plain (OpenSpec.upto grammarParsesSpec)) grammarParsesUptoCard

/-- THE SECOND FORM's CARD OF 'coldpluglaw10.GrammarFormats'. -/
def grammarFormatsUptoCard : Claim7 := { stood := { row := grammarFormatsUptoRow, standIns := [], harness := (true, "c04029905b43065fc0647d0af09f83dfc71a3e1c0d56a47b9b4a193cf29027cb"), looks := true }, kinds := [], alts := [], laidByText := true, laidKinds := [.data, .data, .data, .data, .sentinel, .sentinel, .listed, .data, .pinned], laidTests := true, laidLooks := .later }
def GrammarFormatsUptoCardSaid : Prop := Claim7.holds Tryz.pinned (.plain (OpenSpec.upto grammarFormatsSpec)) grammarFormatsUptoCard

/-- THE SECOND FORM's CARD OF 'coldpluglaw10.GrammarBack'. -/
def grammarBackUptoCard : Claim7 := { stood := { row := grammarBackUptoRow, standIns := [], harness := (true, "c04029905b43065fc0647d0af09f83dfc71a3e1c0d56a47b9b4a193cf29027cb"), looks := true }, kinds := [], alts := [], laidByText := true, laidKinds := [.data, .data, .data, .data, .sentinel, .sentinel, .listed, .data, .pinned], laidTests := true, laidLooks := .later }
def GrammarBackUptoCardSaid : Prop := Claim7.holds Tryz.pinned (.plain (OpenSpec.upto grammarBackSpec)) grammarBackUptoCard

/-- THE SECOND FORM's CARD OF 'coldpluglaw10.GrammarScripts'. -/
def grammarScriptsUptoCard : Claim7 := { stood := { row := grammarScriptsUptoRow, standIns := [], harness := (true, "c04029905b43065fc0647d0af09f83dfc71a3e1c0d56a47b9b4a193cf29027cb"), looks := true }, kinds := [], alts := [], laidByText := true, laidKinds := [.data, .data, .data, .data, .sentinel, .sentinel, .listed, .data, .pinned], laidTests := true, laidLooks := .later }
def GrammarScriptsUptoCardSaid : Prop := Claim7.holds Tryz.pinned (.plain (OpenSpec.upto grammarScriptsSpec)) grammarScriptsUptoCard

/-- THE SECOND FORM's CARD OF 'coldpluglaw10.GrammarLinks'. -/
def grammarLinksUptoCard : Claim7 := { stood := { row := grammarLinksUptoRow, standIns := [], harness := (true, "c04029905b43065fc0647d0af09f83dfc71a3e1c0d56a47b9b4a193cf29027cb"), looks := true }, kinds := [], alts := [], laidByText := true, laidKinds := [.data, .data, .data, .data, .sentinel, .sentinel, .listed, .data, .pinned], laidTests := true, laidLooks := .later }
def GrammarLinksUptoCardSaid : Prop := Claim7.holds Tryz.pinned (.plain (OpenSpec.upto grammarLinksSpec)) grammarLinksUptoCard

/-- THE SECOND FORM's CARD OF 'coldpluglaw10.GrammarReaches'. -/
def grammarReachesUptoCard : Claim7 := { stood := { row := grammarReachesUptoRow, standIns := [], harness := (true, "c04029905b43065fc0647d0af09f83dfc71a3e1c0d56a47b9b4a193cf29027cb"), looks := true }, kinds := [], alts := [], laidByText := true, laidKinds := [.data, .data, .data, .data, .sentinel, .sentinel, .listed, .data, .pinned], laidTests := true, laidLooks := .later }
def GrammarReachesUptoCardSaid : Prop := Claim7.holds Tryz.pinned (.plain (OpenSpec.upto grammarReachesSpec)) grammarReachesUptoCard

/-- THE SECOND FORM's CARD OF 'coldpluglaw10.GrammarPriorities'. -/
def grammarPrioritiesUptoCard : Claim7 := { stood := { row := grammarPrioritiesUptoRow, standIns := [], harness := (true, "c04029905b43065fc0647d0af09f83dfc71a3e1c0d56a47b9b4a193cf29027cb"), looks := true }, kinds := [], alts := [], laidByText := true, laidKinds := [.data, .data, .data, .data, .sentinel, .sentinel, .listed, .data, .pinned], laidTests := true, laidLooks := .later }
def GrammarPrioritiesUptoCardSaid : Prop := Claim7.holds Tryz.pinned (.plain (OpenSpec.upto grammarPrioritiesSpec)) grammarPrioritiesUptoCard
end Rows
end Go.Proofs.YtkkibibecgcbmaaGreatDoor
