/-
  DERIVED. GIVEN WITH THE SEED: THE CARDS: each row of YtfpkppgecmbglaaGreatDoorRows.lean that lists a variable, with what it lists TIED to the program's text (the seventh form; the later family's looks); each row that meets fmt, with fmt's text TOLD by the authors' own Lean function (tested against real Go, not proved from fmt's source: count such statements apart). THE CARD IS WHAT COUNTS. Prove the row's statement (the work); the ties are given (YtfpkppgecmbglaaGreatDoorTie.lean); close each card by the builder's one call (the guide's Derived/Test/ToyasCard.lean, 'card_holds'). Laid BY PROGRAM, IN A SANDBOX (cutbox-door.mjs). By AI agents, Wed Nov 11 2026. No macro, syntax, notation, axiom, sorry.
-/
import Derived.Test.YtfpkppgecmbglaaGreatDoorRows
import GoSem.ClaimSeven
namespace Go.Proofs.YtfpkppgecmbglaaGreatDoor
namespace Rows

/-- THE TIED CARD OF 'coldpluglaw09.SubstituteParses'. -/
def substituteParsesCard : Claim7 := { stood := { row := substituteParsesRow, standIns := [], harness := (true, "cfed21ec3f92d6c349cf6d69188250c824cb3ef9b45bf05d455a61472405bc56"), looks := true }, kinds := [], alts := [], laidByText := true, laidKinds := [.data, .data, .data, .data, .sentinel, .sentinel, .pinned], laidTests := true, laidLooks := .later }
def SubstituteParsesCardSaid : Prop := Claim7.holds Tryz.pinned (.plain (OpenSpec.ofChange substituteParsesSpec)) substituteParsesCard

/-- THE TIED CARD OF 'coldpluglaw09.SubstituteFormats'. -/
def substituteFormatsCard : Claim7 := { stood := { row := substituteFormatsRow, standIns := [], harness := (true, "cfed21ec3f92d6c349cf6d69188250c824cb3ef9b45bf05d455a61472405bc56"), looks := true }, kinds := [], alts := [], laidByText := true, laidKinds := [.data, .data, .data, .data, .sentinel, .sentinel, .pinned], laidTests := true, laidLooks := .later }
def SubstituteFormatsCardSaid : Prop := Claim7.holds Tryz.pinned (.plain (OpenSpec.ofChange substituteFormatsSpec)) substituteFormatsCard

/-- THE TIED CARD OF 'coldpluglaw09.SubstituteExpands'. -/
def substituteExpandsCard : Claim7 := { stood := { row := substituteExpandsRow, standIns := [], harness := (true, "cfed21ec3f92d6c349cf6d69188250c824cb3ef9b45bf05d455a61472405bc56"), looks := true }, kinds := [], alts := [], laidByText := true, laidKinds := [.data, .data, .data, .data, .sentinel, .sentinel, .pinned], laidTests := true, laidLooks := .later }
def SubstituteExpandsCardSaid : Prop := Claim7.holds Tryz.pinned (.plain (OpenSpec.ofChange substituteExpandsSpec)) substituteExpandsCard

/-- THE TIED CARD OF 'coldpluglaw09.SubstituteBack'. -/
def substituteBackCard : Claim7 := { stood := { row := substituteBackRow, standIns := [], harness := (true, "cfed21ec3f92d6c349cf6d69188250c824cb3ef9b45bf05d455a61472405bc56"), looks := true }, kinds := [], alts := [], laidByText := true, laidKinds := [.data, .data, .data, .data, .sentinel, .sentinel, .pinned], laidTests := true, laidLooks := .later }
def SubstituteBackCardSaid : Prop := Claim7.holds Tryz.pinned (.plain (OpenSpec.ofChange substituteBackSpec)) substituteBackCard

/-- THE TIED CARD OF 'coldpluglaw09.SubstitutePlain'. -/
def substitutePlainCard : Claim7 := { stood := { row := substitutePlainRow, standIns := [], harness := (true, "cfed21ec3f92d6c349cf6d69188250c824cb3ef9b45bf05d455a61472405bc56"), looks := true }, kinds := [], alts := [], laidByText := true, laidKinds := [.data, .data, .data, .data, .sentinel, .sentinel, .pinned], laidTests := true, laidLooks := .later }
def SubstitutePlainCardSaid : Prop := Claim7.holds Tryz.pinned (.plain (OpenSpec.ofChange substitutePlainSpec)) substitutePlainCard

/-- THE TIED CARD OF 'coldpluglaw09.SubstituteForms'. -/
def substituteFormsCard : Claim7 := { stood := { row := substituteFormsRow, standIns := [], harness := (true, "cfed21ec3f92d6c349cf6d69188250c824cb3ef9b45bf05d455a61472405bc56"), looks := true }, kinds := [], alts := [], laidByText := true, laidKinds := [.data, .data, .data, .data, .sentinel, .sentinel, .pinned], laidTests := true, laidLooks := .later }
def SubstituteFormsCardSaid : Prop := Claim7.holds Tryz.pinned (.plain (OpenSpec.ofChange substituteFormsSpec)) substituteFormsCard

/-- THE TIED CARD OF 'coldpluglaw09.SubstituteWords'. -/
def substituteWordsCard : Claim7 := { stood := { row := substituteWordsRow, standIns := [], harness := (true, "cfed21ec3f92d6c349cf6d69188250c824cb3ef9b45bf05d455a61472405bc56"), looks := true }, kinds := [], alts := [], laidByText := true, laidKinds := [.data, .data, .data, .data, .sentinel, .sentinel, .pinned], laidTests := true, laidLooks := .later }
def SubstituteWordsCardSaid : Prop := Claim7.holds Tryz.pinned (.plain (OpenSpec.ofChange substituteWordsSpec)) substituteWordsCard

/-- THE TIED CARD OF 'coldpluglaw09.SubstituteCuts'. -/
def substituteCutsCard : Claim7 := { stood := { row := substituteCutsRow, standIns := [], harness := (true, "cfed21ec3f92d6c349cf6d69188250c824cb3ef9b45bf05d455a61472405bc56"), looks := true }, kinds := [], alts := [], laidByText := true, laidKinds := [.data, .data, .data, .data, .sentinel, .sentinel, .pinned], laidTests := true, laidLooks := .later }
def SubstituteCutsCardSaid : Prop := Claim7.holds Tryz.pinned (.plain (OpenSpec.ofChange substituteCutsSpec)) substituteCutsCard

/-- THE SECOND FORM's CARD OF 'coldpluglaw09.SubstituteParses'. -/
def substituteParsesUptoCard : Claim7 := { stood := { row := substituteParsesUptoRow, standIns := [], harness := (true, "cfed21ec3f92d6c349cf6d69188250c824cb3ef9b45bf05d455a61472405bc56"), looks := true }, kinds := [], alts := [], laidByText := true, laidKinds := [.data, .data, .data, .data, .sentinel, .sentinel, .pinned], laidTests := true, laidLooks := .later }
def SubstituteParsesUptoCardSaid : Prop := Claim7.holds Tryz.pinned (.plain (OpenSpec.upto substituteParsesSpec)) substituteParsesUptoCard

/-- THE SECOND FORM's CARD OF 'coldpluglaw09.SubstituteFormats'. -/
def substituteFormatsUptoCard : Claim7 := { stood := { row := substituteFormatsUptoRow, standIns := [], harness := (true, "cfed21ec3f92d6c349cf6d69188250c824cb3ef9b45bf05d455a61472405bc56"), looks := true }, kinds := [], alts := [], laidByText := true, laidKinds := [.data, .data, .data, .data, .sentinel, .sentinel, .pinned], laidTests := true, laidLooks := .later }
def SubstituteFormatsUptoCardSaid : Prop := Claim7.holds Tryz.pinned (.plain (OpenSpec.upto substituteFormatsSpec)) substituteFormatsUptoCard

/-- THE SECOND FORM's CARD OF 'coldpluglaw09.SubstituteExpands'. -/
def substituteExpandsUptoCard : Claim7 := { stood := { row := substituteExpandsUptoRow, standIns := [], harness := (true, "cfed21ec3f92d6c349cf6d69188250c824cb3ef9b45bf05d455a61472405bc56"), looks := true }, kinds := [], alts := [], laidByText := true, laidKinds := [.data, .data, .data, .data, .sentinel, .sentinel, .pinned], laidTests := true, laidLooks := .later }
def SubstituteExpandsUptoCardSaid : Prop := Claim7.holds Tryz.pinned (.plain (OpenSpec.upto substituteExpandsSpec)) substituteExpandsUptoCard

/-- THE SECOND FORM's CARD OF 'coldpluglaw09.SubstituteBack'. -/
def substituteBackUptoCard : Claim7 := { stood := { row := substituteBackUptoRow, standIns := [], harness := (true, "cfed21ec3f92d6c349cf6d69188250c824cb3ef9b45bf05d455a61472405bc56"), looks := true }, kinds := [], alts := [], laidByText := true, laidKinds := [.data, .data, .data, .data, .sentinel, .sentinel, .pinned], laidTests := true, laidLooks := .later }
def SubstituteBackUptoCardSaid : Prop := Claim7.holds Tryz.pinned (.plain (OpenSpec.upto substituteBackSpec)) substituteBackUptoCard

/-- THE SECOND FORM's CARD OF 'coldpluglaw09.SubstitutePlain'. -/
def substitutePlainUptoCard : Claim7 := { stood := { row := substitutePlainUptoRow, standIns := [], harness := (true, "cfed21ec3f92d6c349cf6d69188250c824cb3ef9b45bf05d455a61472405bc56"), looks := true }, kinds := [], alts := [], laidByText := true, laidKinds := [.data, .data, .data, .data, .sentinel, .sentinel, .pinned], laidTests := true, laidLooks := .later }
def SubstitutePlainUptoCardSaid : Prop := Claim7.holds Tryz.pinned (.plain (OpenSpec.upto substitutePlainSpec)) substitutePlainUptoCard

/-- THE SECOND FORM's CARD OF 'coldpluglaw09.SubstituteForms'. -/
def substituteFormsUptoCard : Claim7 := { stood := { row := substituteFormsUptoRow, standIns := [], harness := (true, "cfed21ec3f92d6c349cf6d69188250c824cb3ef9b45bf05d455a61472405bc56"), looks := true }, kinds := [], alts := [], laidByText := true, laidKinds := [.data, .data, .data, .data, .sentinel, .sentinel, .pinned], laidTests := true, laidLooks := .later }
def SubstituteFormsUptoCardSaid : Prop := Claim7.holds Tryz.pinned (.plain (OpenSpec.upto substituteFormsSpec)) substituteFormsUptoCard

/-- THE SECOND FORM's CARD OF 'coldpluglaw09.SubstituteWords'. -/
def substituteWordsUptoCard : Claim7 := { stood := { row := substituteWordsUptoRow, standIns := [], harness := (true, "cfed21ec3f92d6c349cf6d69188250c824cb3ef9b45bf05d455a61472405bc56"), looks := true }, kinds := [], alts := [], laidByText := true, laidKinds := [.data, .data, .data, .data, .sentinel, .sentinel, .pinned], laidTests := true, laidLooks := .later }
def SubstituteWordsUptoCardSaid : Prop := Claim7.holds Tryz.pinned (.plain (OpenSpec.upto substituteWordsSpec)) substituteWordsUptoCard

/-- THE SECOND FORM's CARD OF 'coldpluglaw09.SubstituteCuts'. -/
def substituteCutsUptoCard : Claim7 := { stood := { row := substituteCutsUptoRow, standIns := [], harness := (true, "cfed21ec3f92d6c349cf6d69188250c824cb3ef9b45bf05d455a61472405bc56"), looks := true }, kinds := [], alts := [], laidByText := true, laidKinds := [.data, .data, .data, .data, .sentinel, .sentinel, .pinned], laidTests := true, laidLooks := .later }
def SubstituteCutsUptoCardSaid : Prop := Claim7.holds Tryz.pinned (.plain (OpenSpec.upto substituteCutsSpec)) substituteCutsUptoCard
end Rows
end Go.Proofs.YtfpkppgecmbglaaGreatDoor
