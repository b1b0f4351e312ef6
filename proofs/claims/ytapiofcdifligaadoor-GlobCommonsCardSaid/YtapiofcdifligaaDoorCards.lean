/-
  DERIVED. GIVEN WITH THE SEED: THE CARDS: each row of YtapiofcdifligaaDoorRows.lean that lists a variable, with what it lists TIED to the program's text (the seventh form; the later family's looks); each row that meets fmt, with fmt's text TOLD by the authors' own Lean function (tested against real Go, not proved from fmt's source: count such statements apart). THE CARD IS WHAT COUNTS. Prove the row's statement (the work); the ties are given (YtapiofcdifligaaDoorTie.lean); close each card by the builder's one call (the guide's Derived/Test/ToyasCard.lean, 'card_holds'). Laid BY PROGRAM, IN A SANDBOX (cutbox-door.mjs). By AI agents, Wed Nov 11 2026. No macro, syntax, notation, axiom, sorry.
-/
import Derived.Test.YtapiofcdifligaaDoorRows
import GoSem.ClaimSeven
namespace Go.Proofs.YtapiofcdifligaaDoor
namespace Rows

/-- THE TIED CARD OF 'coldpluglaw02.GlobChecks'. -/
def globChecksCard : Claim7 := { stood := { row := globChecksRow, standIns := [], harness := (true, "e57bc4c4889d42830014faf1aa59d95cfb2fe58f1cde7b89b721a261420d5873"), looks := false }, kinds := [], alts := [], laidByText := true, laidKinds := [.data], laidTests := true, laidLooks := .later }
def GlobChecksCardSaid : Prop := Claim7.holds Tryd.pinned (.plain (OpenSpec.ofChange globChecksSpec)) globChecksCard

/-- THE TIED CARD OF 'coldpluglaw02.GlobMatches'. -/
def globMatchesCard : Claim7 := { stood := { row := globMatchesRow, standIns := [], harness := (true, "e57bc4c4889d42830014faf1aa59d95cfb2fe58f1cde7b89b721a261420d5873"), looks := false }, kinds := [], alts := [], laidByText := true, laidKinds := [.data], laidTests := true, laidLooks := .later }
def GlobMatchesCardSaid : Prop := Claim7.holds Tryd.pinned (.plain (OpenSpec.ofChange globMatchesSpec)) globMatchesCard

/-- THE TIED CARD OF 'coldpluglaw02.GlobLiterals'. -/
def globLiteralsCard : Claim7 := { stood := { row := globLiteralsRow, standIns := [], harness := (true, "e57bc4c4889d42830014faf1aa59d95cfb2fe58f1cde7b89b721a261420d5873"), looks := false }, kinds := [], alts := [], laidByText := true, laidKinds := [.data], laidTests := true, laidLooks := .later }
def GlobLiteralsCardSaid : Prop := Claim7.holds Tryd.pinned (.plain (OpenSpec.ofChange globLiteralsSpec)) globLiteralsCard

/-- THE TIED CARD OF 'coldpluglaw02.GlobCommons'. -/
def globCommonsCard : Claim7 := { stood := { row := globCommonsRow, standIns := [], harness := (true, "e57bc4c4889d42830014faf1aa59d95cfb2fe58f1cde7b89b721a261420d5873"), looks := false }, kinds := [], alts := [], laidByText := true, laidKinds := [.data], laidTests := true, laidLooks := .later }
def GlobCommonsCardSaid : Prop := Claim7.holds Tryd.pinned (.plain (OpenSpec.ofChange globCommonsSpec)) globCommonsCard

/-- THE TIED CARD OF 'coldpluglaw02.GlobMeets'. -/
def globMeetsCard : Claim7 := { stood := { row := globMeetsRow, standIns := [], harness := (true, "e57bc4c4889d42830014faf1aa59d95cfb2fe58f1cde7b89b721a261420d5873"), looks := false }, kinds := [], alts := [], laidByText := true, laidKinds := [.data], laidTests := true, laidLooks := .later }
def GlobMeetsCardSaid : Prop := Claim7.holds Tryd.pinned (.plain (OpenSpec.ofChange globMeetsSpec)) globMeetsCard

/-- THE TIED CARD OF 'coldpluglaw02.GlobTurns'. -/
def globTurnsCard : Claim7 := { stood := { row := globTurnsRow, standIns := [], harness := (true, "e57bc4c4889d42830014faf1aa59d95cfb2fe58f1cde7b89b721a261420d5873"), looks := false }, kinds := [], alts := [], laidByText := true, laidKinds := [.data], laidTests := true, laidLooks := .later }
def GlobTurnsCardSaid : Prop := Claim7.holds Tryd.pinned (.plain (OpenSpec.ofChange globTurnsSpec)) globTurnsCard

/-- THE TIED CARD OF 'coldpluglaw02.GlobBegins'. -/
def globBeginsCard : Claim7 := { stood := { row := globBeginsRow, standIns := [], harness := (true, "e57bc4c4889d42830014faf1aa59d95cfb2fe58f1cde7b89b721a261420d5873"), looks := false }, kinds := [], alts := [], laidByText := true, laidKinds := [.data], laidTests := true, laidLooks := .later }
def GlobBeginsCardSaid : Prop := Claim7.holds Tryd.pinned (.plain (OpenSpec.ofChange globBeginsSpec)) globBeginsCard

/-- THE TIED CARD OF 'coldpluglaw02.GlobChoices'. -/
def globChoicesCard : Claim7 := { stood := { row := globChoicesRow, standIns := [], harness := (true, "e57bc4c4889d42830014faf1aa59d95cfb2fe58f1cde7b89b721a261420d5873"), looks := false }, kinds := [], alts := [], laidByText := true, laidKinds := [.data], laidTests := true, laidLooks := .later }
def GlobChoicesCardSaid : Prop := Claim7.holds Tryd.pinned (.plain (OpenSpec.ofChange globChoicesSpec)) globChoicesCard

/-- THE TIED CARD OF 'coldpluglaw02.GlobJoins'. -/
def globJoinsCard : Claim7 := { stood := { row := globJoinsRow, standIns := [], harness := (true, "e57bc4c4889d42830014faf1aa59d95cfb2fe58f1cde7b89b721a261420d5873"), looks := false }, kinds := [], alts := [], laidByText := true, laidKinds := [.data], laidTests := true, laidLooks := .later }
def GlobJoinsCardSaid : Prop := Claim7.holds Tryd.pinned (.plain (OpenSpec.ofChange globJoinsSpec)) globJoinsCard

/-- THE SECOND FORM's CARD OF 'coldpluglaw02.GlobChecks'. -/
def globChecksUptoCard : Claim7 := { stood := { row := globChecksUptoRow, standIns := [], harness := (true, "e57bc4c4889d42830014faf1aa59d95cfb2fe58f1cde7b89b721a261420d5873"), looks := false }, kinds := [], alts := [], laidByText := true, laidKinds := [.data], laidTests := true, laidLooks := .later }
def GlobChecksUptoCardSaid : Prop := Claim7.holds Tryd.pinned (.plain (OpenSpec.upto globChecksSpec)) globChecksUptoCard

/-- THE SECOND FORM's CARD OF 'coldpluglaw02.GlobMatches'. -/
def globMatchesUptoCard : Claim7 := { stood := { row := globMatchesUptoRow, standIns := [], harness := (true, "e57bc4c4889d42830014faf1aa59d95cfb2fe58f1cde7b89b721a261420d5873"), looks := false }, kinds := [], alts := [], laidByText := true, laidKinds := [.data], laidTests := true, laidLooks := .later }
def GlobMatchesUptoCardSaid : Prop := Claim7.holds Tryd.pinned (.plain (OpenSpec.upto globMatchesSpec)) globMatchesUptoCard

/-- THE SECOND FORM's CARD OF 'coldpluglaw02.GlobLiterals'. -/
def globLiteralsUptoCard : Claim7 := { stood := { row := globLiteralsUptoRow, standIns := [], harness := (true, "e57bc4c4889d42830014faf1aa59d95cfb2fe58f1cde7b89b721a261420d5873"), looks := false }, kinds := [], alts := [], laidByText := true, laidKinds := [.data], laidTests := true, laidLooks := .later }
def GlobLiteralsUptoCardSaid : Prop := Claim7.holds Tryd.pinned (.plain (OpenSpec.upto globLiteralsSpec)) globLiteralsUptoCard

/-- THE SECOND FORM's CARD OF 'coldpluglaw02.GlobCommons'. -/
def globCommonsUptoCard : Claim7 := { stood := { row := globCommonsUptoRow, standIns := [], harness := (true, "e57bc4c4889d42830014faf1aa59d95cfb2fe58f1cde7b89b721a261420d5873"), looks := false }, kinds := [], alts := [], laidByText := true, laidKinds := [.data], laidTests := true, laidLooks := .later }
def GlobCommonsUptoCardSaid : Prop := Claim7.holds Tryd.pinned (.plain (OpenSpec.upto globCommonsSpec)) globCommonsUptoCard

/-- THE SECOND FORM's CARD OF 'coldpluglaw02.GlobMeets'. -/
def globMeetsUptoCard : Claim7 := { stood := { row := globMeetsUptoRow, standIns := [], harness := (true, "e57bc4c4889d42830014faf1aa59d95cfb2fe58f1cde7b89b721a261420d5873"), looks := false }, kinds := [], alts := [], laidByText := true, laidKinds := [.data], laidTests := true, laidLooks := .later }
def GlobMeetsUptoCardSaid : Prop := Claim7.holds Tryd.pinned (.plain (OpenSpec.upto globMeetsSpec)) globMeetsUptoCard

/-- THE SECOND FORM's CARD OF 'coldpluglaw02.GlobTurns'. -/
def globTurnsUptoCard : Claim7 := { stood := { row := globTurnsUptoRow, standIns := [], harness := (true, "e57bc4c4889d42830014faf1aa59d95cfb2fe58f1cde7b89b721a261420d5873"), looks := false }, kinds := [], alts := [], laidByText := true, laidKinds := [.data], laidTests := true, laidLooks := .later }
def GlobTurnsUptoCardSaid : Prop := Claim7.holds Tryd.pinned (.plain (OpenSpec.upto globTurnsSpec)) globTurnsUptoCard

/-- THE SECOND FORM's CARD OF 'coldpluglaw02.GlobBegins'. -/
def globBeginsUptoCard : Claim7 := { stood := { row := globBeginsUptoRow, standIns := [], harness := (true, "e57bc4c4889d42830014faf1aa59d95cfb2fe58f1cde7b89b721a261420d5873"), looks := false }, kinds := [], alts := [], laidByText := true, laidKinds := [.data], laidTests := true, laidLooks := .later }
def GlobBeginsUptoCardSaid : Prop := Claim7.holds Tryd.pinned (.plain (OpenSpec.upto globBeginsSpec)) globBeginsUptoCard

/-- THE SECOND FORM's CARD OF 'coldpluglaw02.GlobChoices'. -/
def globChoicesUptoCard : Claim7 := { stood := { row := globChoicesUptoRow, standIns := [], harness := (true, "e57bc4c4889d42830014faf1aa59d95cfb2fe58f1cde7b89b721a261420d5873"), looks := false }, kinds := [], alts := [], laidByText := true, laidKinds := [.data], laidTests := true, laidLooks := .later }
def GlobChoicesUptoCardSaid : Prop := Claim7.holds Tryd.pinned (.plain (OpenSpec.upto globChoicesSpec)) globChoicesUptoCard

/-- THE SECOND FORM's CARD OF 'coldpluglaw02.GlobJoins'. -/
def globJoinsUptoCard : Claim7 := { stood := { row := globJoinsUptoRow, standIns := [], harness := (true, "e57bc4c4889d42830014faf1aa59d95cfb2fe58f1cde7b89b721a261420d5873"), looks := false }, kinds := [], alts := [], laidByText := true, laidKinds := [.data], laidTests := true, laidLooks := .later }
def GlobJoinsUptoCardSaid : Prop := Claim7.holds Tryd.pinned (.plain (OpenSpec.upto globJoinsSpec)) globJoinsUptoCard
end Rows
end Go.Proofs.YtapiofcdifligaaDoor
