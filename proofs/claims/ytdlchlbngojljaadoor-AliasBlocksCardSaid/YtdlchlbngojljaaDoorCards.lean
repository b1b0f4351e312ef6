/-
  DERIVED. GIVEN WITH THE SEED: THE CARDS: each row of YtdlchlbngojljaaDoorRows.lean that lists a variable, with what it lists TIED to the program's text (the seventh form; the later family's looks); each row that meets fmt, with fmt's text TOLD by the authors' own Lean function (tested against real Go, not proved from fmt's source: count such statements apart). THE CARD IS WHAT COUNTS. Prove the row's statement (the work); the ties are given (YtdlchlbngojljaaDoorTie.lean); close each card by the builder's one call (the guide's Derived/Test/ToyasCard.lean, 'card_holds'). Laid BY PROGRAM, IN A SANDBOX (cutbox-door.mjs). By AI agents, Wed Nov 11 2026. No macro, syntax, notation, axiom, sorry.
-/
import Derived.Test.YtdlchlbngojljaaDoorRows
import GoSem.ClaimSeven
namespace Go.Proofs.YtdlchlbngojljaaDoor
namespace Rows

/-- THE TIED CARD OF 'coldpluglaw18.AliasFinds'. -/
def aliasFindsCard : Claim7 := { stood := { row := aliasFindsRow, standIns := [], harness := (true, "6affe74ce9ca27720babc4499f447a56ac9f007164702c6913e129123832fee9"), looks := false }, kinds := [], alts := [], laidByText := true, laidKinds := [.data], laidTests := true, laidLooks := .later }
def AliasFindsCardSaid : Prop := Claim7.holds Tryd.pinned (.plain (OpenSpec.ofChange aliasFindsSpec)) aliasFindsCard

/-- THE TIED CARD OF 'coldpluglaw18.AliasShares'. -/
def aliasSharesCard : Claim7 := { stood := { row := aliasSharesRow, standIns := [], harness := (true, "6affe74ce9ca27720babc4499f447a56ac9f007164702c6913e129123832fee9"), looks := false }, kinds := [], alts := [], laidByText := true, laidKinds := [.data], laidTests := true, laidLooks := .later }
def AliasSharesCardSaid : Prop := Claim7.holds Tryd.pinned (.plain (OpenSpec.ofChange aliasSharesSpec)) aliasSharesCard

/-- THE TIED CARD OF 'coldpluglaw18.AliasMeets'. -/
def aliasMeetsCard : Claim7 := { stood := { row := aliasMeetsRow, standIns := [], harness := (true, "6affe74ce9ca27720babc4499f447a56ac9f007164702c6913e129123832fee9"), looks := false }, kinds := [], alts := [], laidByText := true, laidKinds := [.data], laidTests := true, laidLooks := .later }
def AliasMeetsCardSaid : Prop := Claim7.holds Tryd.pinned (.plain (OpenSpec.ofChange aliasMeetsSpec)) aliasMeetsCard

/-- THE TIED CARD OF 'coldpluglaw18.AliasBlocks'. -/
def aliasBlocksCard : Claim7 := { stood := { row := aliasBlocksRow, standIns := [], harness := (true, "6affe74ce9ca27720babc4499f447a56ac9f007164702c6913e129123832fee9"), looks := false }, kinds := [], alts := [], laidByText := true, laidKinds := [.data], laidTests := true, laidLooks := .later }
def AliasBlocksCardSaid : Prop := Claim7.holds Tryd.pinned (.plain (OpenSpec.ofChange aliasBlocksSpec)) aliasBlocksCard

/-- THE SECOND FORM's CARD OF 'coldpluglaw18.AliasFinds'. -/
def aliasFindsUptoCard : Claim7 := { stood := { row := aliasFindsUptoRow, standIns := [], harness := (true, "6affe74ce9ca27720babc4499f447a56ac9f007164702c6913e129123832fee9"), looks := false }, kinds := [], alts := [], laidByText := true, laidKinds := [.data], laidTests := true, laidLooks := .later }
def AliasFindsUptoCardSaid : Prop := Claim7.holds Tryd.pinned (.plain (OpenSpec.upto aliasFindsSpec)) aliasFindsUptoCard

/-- THE SECOND FORM's CARD OF 'coldpluglaw18.AliasShares'. -/
def aliasSharesUptoCard : Claim7 := { stood := { row := aliasSharesUptoRow, standIns := [], harness := (true, "6affe74ce9ca27720babc4499f447a56ac9f007164702c6913e129123832fee9"), looks := false }, kinds := [], alts := [], laidByText := true, laidKinds := [.data], laidTests := true, laidLooks := .later }
def AliasSharesUptoCardSaid : Prop := Claim7.holds Tryd.pinned (.plain (OpenSpec.upto aliasSharesSpec)) aliasSharesUptoCard

/-- THE SECOND FORM's CARD OF 'coldpluglaw18.AliasMeets'. -/
def aliasMeetsUptoCard : Claim7 := { stood := { row := aliasMeetsUptoRow, standIns := [], harness := (true, "6affe74ce9ca27720babc4499f447a56ac9f007164702c6913e129123832fee9"), looks := false }, kinds := [], alts := [], laidByText := true, laidKinds := [.data], laidTests := true, laidLooks := .later }
def AliasMeetsUptoCardSaid : Prop := Claim7.holds Tryd.pinned (.plain (OpenSpec.upto aliasMeetsSpec)) aliasMeetsUptoCard

/-- THE SECOND FORM's CARD OF 'coldpluglaw18.AliasBlocks'. -/
def aliasBlocksUptoCard : Claim7 := { stood := { row := aliasBlocksUptoRow, standIns := [], harness := (true, "6affe74ce9ca27720babc4499f447a56ac9f007164702c6913e129123832fee9"), looks := false }, kinds := [], alts := [], laidByText := true, laidKinds := [.data], laidTests := true, laidLooks := .later }
def AliasBlocksUptoCardSaid : Prop := Claim7.holds Tryd.pinned (.plain (OpenSpec.upto aliasBlocksSpec)) aliasBlocksUptoCard
end Rows
end Go.Proofs.YtdlchlbngojljaaDoor
