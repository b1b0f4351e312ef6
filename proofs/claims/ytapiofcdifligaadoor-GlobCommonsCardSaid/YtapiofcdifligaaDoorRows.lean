/-
  NARROWER THAN 'FOR EVERY INPUT', by the rows' own cells (each row's printed sentence says how): GlobChecks: laid · GlobMatches: laid · GlobLiterals: laid · GlobCommons: laid · GlobMeets: laid · GlobTurns: laid · GlobBegins: laid · GlobChoices: laid · GlobJoins: laid.
  DERIVED. THE GIVEN ROWS OF THIS SEAT. 9 by the template 'for every input the law returns true; each argument reads behind the call as it read before'; 0 by the template 'total and deterministic' (their statements: YtapiofcdifligaaDoorTotals.lean).
  GIVEN WITH THE SEED: the statements are not yours to turn. If you find one false, say at which input.
  Laid BY PROGRAM, IN A SANDBOX (cutbox-rows.mjs): the forced cells as the released guide's own fill.sh prints them over the translation 7cdb41041721631c… (all of the seat's roots in one cut). By AI agents, Wed Nov 11 2026. No macro, syntax, notation, axiom, sorry.
-/
import Derived.Test.YtapiofcdifligaaDoorChecked
import GoSem.Claim
import GoSem.ClaimJoined
import GoSem.ClaimMapViews
import Derived.JoinedTies
import Derived.KernelRfl
namespace Go.Proofs.YtapiofcdifligaaDoor
/- THE CELL 'sum', in the pinned program and in every row, IS THE sha256 OF THE DUMP (.gsa) THAT YtapiofcdifligaaDoorProg.lean LOADS. Nothing in Lean hashes anything: it is a label: what it is worth is what the hold of that sum in a sandbox is worth. -/
noncomputable def Tryd.pinned : Pinned := { name := "ytapiofcdifligaadoor", sum := "7cdb41041721631c2e2e5d2d279ad384b14c81ae678acf0b7c98b9bd780d7475", checked := Tryd.checked }
namespace Rows
def none {H : Type} : Left H := { results := [], args := [] }

/- WHAT THE LISTED PACKAGE-LEVEL VARIABLES READ AS WHEN THE CALL BEGINS. Each datum BY PROGRAM (the guide's laid-datum.mjs) off the statement by which the dump's own 'gosem.cut.vars' lays the variable. In a bare row this is a premise. The card (YtapiofcdifligaaDoorCards.lean) ties it to the program's text. -/
def laid_math_bits_deBruijn64tab {H : Type} : DataW H := .agg [.lit (.int .u8 0), .lit (.int .u8 1), .lit (.int .u8 56), .lit (.int .u8 2), .lit (.int .u8 57), .lit (.int .u8 49), .lit (.int .u8 28), .lit (.int .u8 3), .lit (.int .u8 61), .lit (.int .u8 58), .lit (.int .u8 42), .lit (.int .u8 50), .lit (.int .u8 38), .lit (.int .u8 29), .lit (.int .u8 17), .lit (.int .u8 4), .lit (.int .u8 62), .lit (.int .u8 47), .lit (.int .u8 59), .lit (.int .u8 36), .lit (.int .u8 45), .lit (.int .u8 43), .lit (.int .u8 51), .lit (.int .u8 22), .lit (.int .u8 53), .lit (.int .u8 39), .lit (.int .u8 33), .lit (.int .u8 30), .lit (.int .u8 24), .lit (.int .u8 18), .lit (.int .u8 12), .lit (.int .u8 5), .lit (.int .u8 63), .lit (.int .u8 55), .lit (.int .u8 48), .lit (.int .u8 27), .lit (.int .u8 60), .lit (.int .u8 41), .lit (.int .u8 37), .lit (.int .u8 16), .lit (.int .u8 46), .lit (.int .u8 35), .lit (.int .u8 44), .lit (.int .u8 21), .lit (.int .u8 52), .lit (.int .u8 32), .lit (.int .u8 23), .lit (.int .u8 11), .lit (.int .u8 54), .lit (.int .u8 26), .lit (.int .u8 40), .lit (.int .u8 15), .lit (.int .u8 34), .lit (.int .u8 20), .lit (.int .u8 31), .lit (.int .u8 10), .lit (.int .u8 25), .lit (.int .u8 14), .lit (.int .u8 19), .lit (.int .u8 9), .lit (.int .u8 13), .lit (.int .u8 8), .lit (.int .u8 7), .lit (.int .u8 6)]

/-- 'coldpluglaw02.GlobChecks': WHATEVER THE INPUT: true; the input reads as it did. -/
def globChecksSpec : ChangeSpec := { name := "globChecks", fn := fun _ => fun
  | [d] => { results := [.lit (.bool true)], args := [d] }
  | _ => none }
def globChecksRow : OpenClaim := { program := "ytapiofcdifligaadoor", sum := "7cdb41041721631c2e2e5d2d279ad384b14c81ae678acf0b7c98b9bd780d7475", func := "coldplug/coldpluglaw02.GlobChecks", spec := "globChecks", inPlace := ["internal/bytealg.IndexByteString"], unfollowed := true, recurses := true, named := ["math/bits.deBruijn64tab"], plainKeys := false, apart := false, laid := [("math/bits.deBruijn64tab", laid_math_bits_deBruijn64tab)] }
def GlobChecksSaid : Prop := globChecksRow.holds Tryd.pinned (OpenSpec.ofChange globChecksSpec)

/-- ITS FALSE NEIGHBOUR: 'it returns false'. Refute it at one input. -/
def globChecksWrong : ChangeSpec := { name := "globChecks", fn := fun _ => fun
  | [d] => { results := [.lit (.bool false)], args := [d] }
  | _ => none }
def GlobChecksWrongFalsely : Prop := globChecksRow.holds Tryd.pinned (OpenSpec.ofChange globChecksWrong)

/-- 'coldpluglaw02.GlobMatches': WHATEVER THE INPUT: true; the input reads as it did. -/
def globMatchesSpec : ChangeSpec := { name := "globMatches", fn := fun _ => fun
  | [d1, d2] => { results := [.lit (.bool true)], args := [d1, d2] }
  | _ => none }
def globMatchesRow : OpenClaim := { program := "ytapiofcdifligaadoor", sum := "7cdb41041721631c2e2e5d2d279ad384b14c81ae678acf0b7c98b9bd780d7475", func := "coldplug/coldpluglaw02.GlobMatches", spec := "globMatches", inPlace := ["internal/bytealg.IndexByteString"], unfollowed := true, recurses := true, named := ["math/bits.deBruijn64tab"], plainKeys := false, apart := false, laid := [("math/bits.deBruijn64tab", laid_math_bits_deBruijn64tab)] }
def GlobMatchesSaid : Prop := globMatchesRow.holds Tryd.pinned (OpenSpec.ofChange globMatchesSpec)

/-- ITS FALSE NEIGHBOUR: 'it returns false'. Refute it at one input. -/
def globMatchesWrong : ChangeSpec := { name := "globMatches", fn := fun _ => fun
  | [d1, d2] => { results := [.lit (.bool false)], args := [d1, d2] }
  | _ => none }
def GlobMatchesWrongFalsely : Prop := globMatchesRow.holds Tryd.pinned (OpenSpec.ofChange globMatchesWrong)

/-- 'coldpluglaw02.GlobLiterals': WHATEVER THE INPUT: true; the input reads as it did. -/
def globLiteralsSpec : ChangeSpec := { name := "globLiterals", fn := fun _ => fun
  | [d] => { results := [.lit (.bool true)], args := [d] }
  | _ => none }
def globLiteralsRow : OpenClaim := { program := "ytapiofcdifligaadoor", sum := "7cdb41041721631c2e2e5d2d279ad384b14c81ae678acf0b7c98b9bd780d7475", func := "coldplug/coldpluglaw02.GlobLiterals", spec := "globLiterals", inPlace := ["internal/bytealg.IndexByteString"], unfollowed := true, recurses := true, named := ["math/bits.deBruijn64tab"], plainKeys := false, apart := false, laid := [("math/bits.deBruijn64tab", laid_math_bits_deBruijn64tab)] }
def GlobLiteralsSaid : Prop := globLiteralsRow.holds Tryd.pinned (OpenSpec.ofChange globLiteralsSpec)

/-- ITS FALSE NEIGHBOUR: 'it returns false'. Refute it at one input. -/
def globLiteralsWrong : ChangeSpec := { name := "globLiterals", fn := fun _ => fun
  | [d] => { results := [.lit (.bool false)], args := [d] }
  | _ => none }
def GlobLiteralsWrongFalsely : Prop := globLiteralsRow.holds Tryd.pinned (OpenSpec.ofChange globLiteralsWrong)

/-- 'coldpluglaw02.GlobCommons': WHATEVER THE INPUT: true; the input reads as it did. -/
def globCommonsSpec : ChangeSpec := { name := "globCommons", fn := fun _ => fun
  | [d1, d2] => { results := [.lit (.bool true)], args := [d1, d2] }
  | _ => none }
def globCommonsRow : OpenClaim := { program := "ytapiofcdifligaadoor", sum := "7cdb41041721631c2e2e5d2d279ad384b14c81ae678acf0b7c98b9bd780d7475", func := "coldplug/coldpluglaw02.GlobCommons", spec := "globCommons", inPlace := ["internal/bytealg.IndexByteString"], unfollowed := true, recurses := true, named := ["math/bits.deBruijn64tab"], plainKeys := false, apart := false, laid := [("math/bits.deBruijn64tab", laid_math_bits_deBruijn64tab)] }
def GlobCommonsSaid : Prop := globCommonsRow.holds Tryd.pinned (OpenSpec.ofChange globCommonsSpec)

/-- ITS FALSE NEIGHBOUR: 'it returns false'. Refute it at one input. -/
def globCommonsWrong : ChangeSpec := { name := "globCommons", fn := fun _ => fun
  | [d1, d2] => { results := [.lit (.bool false)], args := [d1, d2] }
  | _ => none }
def GlobCommonsWrongFalsely : Prop := globCommonsRow.holds Tryd.pinned (OpenSpec.ofChange globCommonsWrong)

/-- 'coldpluglaw02.GlobMeets': WHATEVER THE INPUT: true; the input reads as it did. -/
def globMeetsSpec : ChangeSpec := { name := "globMeets", fn := fun _ => fun
  | [d1, d2, d3] => { results := [.lit (.bool true)], args := [d1, d2, d3] }
  | _ => none }
def globMeetsRow : OpenClaim := { program := "ytapiofcdifligaadoor", sum := "7cdb41041721631c2e2e5d2d279ad384b14c81ae678acf0b7c98b9bd780d7475", func := "coldplug/coldpluglaw02.GlobMeets", spec := "globMeets", inPlace := ["internal/bytealg.IndexByteString"], unfollowed := true, recurses := true, named := ["math/bits.deBruijn64tab"], plainKeys := false, apart := false, laid := [("math/bits.deBruijn64tab", laid_math_bits_deBruijn64tab)] }
def GlobMeetsSaid : Prop := globMeetsRow.holds Tryd.pinned (OpenSpec.ofChange globMeetsSpec)

/-- ITS FALSE NEIGHBOUR: 'it returns false'. Refute it at one input. -/
def globMeetsWrong : ChangeSpec := { name := "globMeets", fn := fun _ => fun
  | [d1, d2, d3] => { results := [.lit (.bool false)], args := [d1, d2, d3] }
  | _ => none }
def GlobMeetsWrongFalsely : Prop := globMeetsRow.holds Tryd.pinned (OpenSpec.ofChange globMeetsWrong)

/-- 'coldpluglaw02.GlobTurns': WHATEVER THE INPUT: true; the input reads as it did. -/
def globTurnsSpec : ChangeSpec := { name := "globTurns", fn := fun _ => fun
  | [d1, d2, d3] => { results := [.lit (.bool true)], args := [d1, d2, d3] }
  | _ => none }
def globTurnsRow : OpenClaim := { program := "ytapiofcdifligaadoor", sum := "7cdb41041721631c2e2e5d2d279ad384b14c81ae678acf0b7c98b9bd780d7475", func := "coldplug/coldpluglaw02.GlobTurns", spec := "globTurns", inPlace := ["internal/bytealg.IndexByteString"], unfollowed := true, recurses := true, named := ["math/bits.deBruijn64tab"], plainKeys := false, apart := false, laid := [("math/bits.deBruijn64tab", laid_math_bits_deBruijn64tab)] }
def GlobTurnsSaid : Prop := globTurnsRow.holds Tryd.pinned (OpenSpec.ofChange globTurnsSpec)

/-- ITS FALSE NEIGHBOUR: 'it returns false'. Refute it at one input. -/
def globTurnsWrong : ChangeSpec := { name := "globTurns", fn := fun _ => fun
  | [d1, d2, d3] => { results := [.lit (.bool false)], args := [d1, d2, d3] }
  | _ => none }
def GlobTurnsWrongFalsely : Prop := globTurnsRow.holds Tryd.pinned (OpenSpec.ofChange globTurnsWrong)

/-- 'coldpluglaw02.GlobBegins': WHATEVER THE INPUT: true; the input reads as it did. -/
def globBeginsSpec : ChangeSpec := { name := "globBegins", fn := fun _ => fun
  | [d1, d2] => { results := [.lit (.bool true)], args := [d1, d2] }
  | _ => none }
def globBeginsRow : OpenClaim := { program := "ytapiofcdifligaadoor", sum := "7cdb41041721631c2e2e5d2d279ad384b14c81ae678acf0b7c98b9bd780d7475", func := "coldplug/coldpluglaw02.GlobBegins", spec := "globBegins", inPlace := ["internal/bytealg.IndexByteString"], unfollowed := true, recurses := true, named := ["math/bits.deBruijn64tab"], plainKeys := false, apart := false, laid := [("math/bits.deBruijn64tab", laid_math_bits_deBruijn64tab)] }
def GlobBeginsSaid : Prop := globBeginsRow.holds Tryd.pinned (OpenSpec.ofChange globBeginsSpec)

/-- ITS FALSE NEIGHBOUR: 'it returns false'. Refute it at one input. -/
def globBeginsWrong : ChangeSpec := { name := "globBegins", fn := fun _ => fun
  | [d1, d2] => { results := [.lit (.bool false)], args := [d1, d2] }
  | _ => none }
def GlobBeginsWrongFalsely : Prop := globBeginsRow.holds Tryd.pinned (OpenSpec.ofChange globBeginsWrong)

/-- 'coldpluglaw02.GlobChoices': WHATEVER THE INPUT: true; the input reads as it did. -/
def globChoicesSpec : ChangeSpec := { name := "globChoices", fn := fun _ => fun
  | [d1, d2, d3] => { results := [.lit (.bool true)], args := [d1, d2, d3] }
  | _ => none }
def globChoicesRow : OpenClaim := { program := "ytapiofcdifligaadoor", sum := "7cdb41041721631c2e2e5d2d279ad384b14c81ae678acf0b7c98b9bd780d7475", func := "coldplug/coldpluglaw02.GlobChoices", spec := "globChoices", inPlace := ["internal/bytealg.IndexByteString"], unfollowed := true, recurses := true, named := ["math/bits.deBruijn64tab"], plainKeys := false, apart := false, laid := [("math/bits.deBruijn64tab", laid_math_bits_deBruijn64tab)] }
def GlobChoicesSaid : Prop := globChoicesRow.holds Tryd.pinned (OpenSpec.ofChange globChoicesSpec)

/-- ITS FALSE NEIGHBOUR: 'it returns false'. Refute it at one input. -/
def globChoicesWrong : ChangeSpec := { name := "globChoices", fn := fun _ => fun
  | [d1, d2, d3] => { results := [.lit (.bool false)], args := [d1, d2, d3] }
  | _ => none }
def GlobChoicesWrongFalsely : Prop := globChoicesRow.holds Tryd.pinned (OpenSpec.ofChange globChoicesWrong)

/-- 'coldpluglaw02.GlobJoins': WHATEVER THE INPUT: true; the input reads as it did. -/
def globJoinsSpec : ChangeSpec := { name := "globJoins", fn := fun _ => fun
  | [d1, d2, d3] => { results := [.lit (.bool true)], args := [d1, d2, d3] }
  | _ => none }
def globJoinsRow : OpenClaim := { program := "ytapiofcdifligaadoor", sum := "7cdb41041721631c2e2e5d2d279ad384b14c81ae678acf0b7c98b9bd780d7475", func := "coldplug/coldpluglaw02.GlobJoins", spec := "globJoins", inPlace := ["internal/bytealg.IndexByteString", "internal/bytealg.IndexString"], unfollowed := true, recurses := true, named := ["internal/bytealg.MaxLen", "math/bits.deBruijn64tab"], plainKeys := false, apart := false, laid := [("math/bits.deBruijn64tab", laid_math_bits_deBruijn64tab)] }
def GlobJoinsSaid : Prop := globJoinsRow.holds Tryd.pinned (OpenSpec.ofChange globJoinsSpec)

/-- ITS FALSE NEIGHBOUR: 'it returns false'. Refute it at one input. -/
def globJoinsWrong : ChangeSpec := { name := "globJoins", fn := fun _ => fun
  | [d1, d2, d3] => { results := [.lit (.bool false)], args := [d1, d2, d3] }
  | _ => none }
def GlobJoinsWrongFalsely : Prop := globJoinsRow.holds Tryd.pinned (OpenSpec.ofChange globJoinsWrong)

/- THE SECOND FORM. 'bulk': how many values and letters a reading holds, each counted each time it is reached (what is shared counts as often as it is met; a slice's spare places count too). A statement '..UptoSaid' is the law's where the arguments, and the package variables that the reading takes, are together of bulk at most 1048576: NARROWER than '..Said'. Prove '..Said' where nothing that the law and all that it calls make is longer than what came in: it says more and counts as full. Else prove '..UptoSaid'. A law counts once. -/
mutual
def uptoBulk {H : Type} : DataW H → Nat
  | .lit (.string bytes) => bytes.length + 1
  | .lit _ => 1
  | .nil => 1
  | .ptr d => uptoBulk d + 1
  | .slice elems spare => uptoBulkAll elems + uptoBulkAll spare + 1
  | .agg parts => uptoBulkAll parts + 1
  | .iface _ d => uptoBulk d + 1
  | .map entries => uptoBulkEntries entries + 1
  | .held _ => 1
def uptoBulkAll {H : Type} : List (DataW H) → Nat
  | [] => 0
  | d :: r => uptoBulk d + uptoBulkAll r
def uptoBulkEntries {H : Type} : List (Lit × DataW H) → Nat
  | [] => 0
  | x :: r => uptoBulkEntry x + uptoBulkEntries r
def uptoBulkEntry {H : Type} : Lit × DataW H → Nat
  | (.string bytes, d) => bytes.length + uptoBulk d + 1
  | (_, d) => uptoBulk d + 1
 end
def uptoSmall : (H : Type) → List (DataW H) → Bool := fun _ ds => decide (uptoBulkAll ds ≤ 1048576)
def OpenSpec.upto (s : _root_.Go.ChangeSpec) : _root_.Go.OpenSpec := { _root_.Go.OpenSpec.ofChange s with cond := some uptoSmall }

/-- 'coldpluglaw02.GlobChecks', WHERE WHAT IT READS IS OF BULK AT MOST 1048576: true; the input reads as it did. -/
def globChecksUptoRow : OpenClaim := { program := "ytapiofcdifligaadoor", sum := "7cdb41041721631c2e2e5d2d279ad384b14c81ae678acf0b7c98b9bd780d7475", func := "coldplug/coldpluglaw02.GlobChecks", spec := "globChecks", inPlace := ["internal/bytealg.IndexByteString"], unfollowed := true, recurses := true, named := ["math/bits.deBruijn64tab"], plainKeys := false, apart := false, laid := [("math/bits.deBruijn64tab", laid_math_bits_deBruijn64tab)], narrowed := true }
def GlobChecksUptoSaid : Prop := globChecksUptoRow.holds Tryd.pinned (OpenSpec.upto globChecksSpec)

/-- 'coldpluglaw02.GlobMatches', WHERE WHAT IT READS IS OF BULK AT MOST 1048576: true; the input reads as it did. -/
def globMatchesUptoRow : OpenClaim := { program := "ytapiofcdifligaadoor", sum := "7cdb41041721631c2e2e5d2d279ad384b14c81ae678acf0b7c98b9bd780d7475", func := "coldplug/coldpluglaw02.GlobMatches", spec := "globMatches", inPlace := ["internal/bytealg.IndexByteString"], unfollowed := true, recurses := true, named := ["math/bits.deBruijn64tab"], plainKeys := false, apart := false, laid := [("math/bits.deBruijn64tab", laid_math_bits_deBruijn64tab)], narrowed := true }
def GlobMatchesUptoSaid : Prop := globMatchesUptoRow.holds Tryd.pinned (OpenSpec.upto globMatchesSpec)

/-- 'coldpluglaw02.GlobLiterals', WHERE WHAT IT READS IS OF BULK AT MOST 1048576: true; the input reads as it did. -/
def globLiteralsUptoRow : OpenClaim := { program := "ytapiofcdifligaadoor", sum := "7cdb41041721631c2e2e5d2d279ad384b14c81ae678acf0b7c98b9bd780d7475", func := "coldplug/coldpluglaw02.GlobLiterals", spec := "globLiterals", inPlace := ["internal/bytealg.IndexByteString"], unfollowed := true, recurses := true, named := ["math/bits.deBruijn64tab"], plainKeys := false, apart := false, laid := [("math/bits.deBruijn64tab", laid_math_bits_deBruijn64tab)], narrowed := true }
def GlobLiteralsUptoSaid : Prop := globLiteralsUptoRow.holds Tryd.pinned (OpenSpec.upto globLiteralsSpec)

/-- 'coldpluglaw02.GlobCommons', WHERE WHAT IT READS IS OF BULK AT MOST 1048576: true; the input reads as it did. -/
def globCommonsUptoRow : OpenClaim := { program := "ytapiofcdifligaadoor", sum := "7cdb41041721631c2e2e5d2d279ad384b14c81ae678acf0b7c98b9bd780d7475", func := "coldplug/coldpluglaw02.GlobCommons", spec := "globCommons", inPlace := ["internal/bytealg.IndexByteString"], unfollowed := true, recurses := true, named := ["math/bits.deBruijn64tab"], plainKeys := false, apart := false, laid := [("math/bits.deBruijn64tab", laid_math_bits_deBruijn64tab)], narrowed := true }
def GlobCommonsUptoSaid : Prop := globCommonsUptoRow.holds Tryd.pinned (OpenSpec.upto globCommonsSpec)

/-- 'coldpluglaw02.GlobMeets', WHERE WHAT IT READS IS OF BULK AT MOST 1048576: true; the input reads as it did. -/
def globMeetsUptoRow : OpenClaim := { program := "ytapiofcdifligaadoor", sum := "7cdb41041721631c2e2e5d2d279ad384b14c81ae678acf0b7c98b9bd780d7475", func := "coldplug/coldpluglaw02.GlobMeets", spec := "globMeets", inPlace := ["internal/bytealg.IndexByteString"], unfollowed := true, recurses := true, named := ["math/bits.deBruijn64tab"], plainKeys := false, apart := false, laid := [("math/bits.deBruijn64tab", laid_math_bits_deBruijn64tab)], narrowed := true }
def GlobMeetsUptoSaid : Prop := globMeetsUptoRow.holds Tryd.pinned (OpenSpec.upto globMeetsSpec)

/-- 'coldpluglaw02.GlobTurns', WHERE WHAT IT READS IS OF BULK AT MOST 1048576: true; the input reads as it did. -/
def globTurnsUptoRow : OpenClaim := { program := "ytapiofcdifligaadoor", sum := "7cdb41041721631c2e2e5d2d279ad384b14c81ae678acf0b7c98b9bd780d7475", func := "coldplug/coldpluglaw02.GlobTurns", spec := "globTurns", inPlace := ["internal/bytealg.IndexByteString"], unfollowed := true, recurses := true, named := ["math/bits.deBruijn64tab"], plainKeys := false, apart := false, laid := [("math/bits.deBruijn64tab", laid_math_bits_deBruijn64tab)], narrowed := true }
def GlobTurnsUptoSaid : Prop := globTurnsUptoRow.holds Tryd.pinned (OpenSpec.upto globTurnsSpec)

/-- 'coldpluglaw02.GlobBegins', WHERE WHAT IT READS IS OF BULK AT MOST 1048576: true; the input reads as it did. -/
def globBeginsUptoRow : OpenClaim := { program := "ytapiofcdifligaadoor", sum := "7cdb41041721631c2e2e5d2d279ad384b14c81ae678acf0b7c98b9bd780d7475", func := "coldplug/coldpluglaw02.GlobBegins", spec := "globBegins", inPlace := ["internal/bytealg.IndexByteString"], unfollowed := true, recurses := true, named := ["math/bits.deBruijn64tab"], plainKeys := false, apart := false, laid := [("math/bits.deBruijn64tab", laid_math_bits_deBruijn64tab)], narrowed := true }
def GlobBeginsUptoSaid : Prop := globBeginsUptoRow.holds Tryd.pinned (OpenSpec.upto globBeginsSpec)

/-- 'coldpluglaw02.GlobChoices', WHERE WHAT IT READS IS OF BULK AT MOST 1048576: true; the input reads as it did. -/
def globChoicesUptoRow : OpenClaim := { program := "ytapiofcdifligaadoor", sum := "7cdb41041721631c2e2e5d2d279ad384b14c81ae678acf0b7c98b9bd780d7475", func := "coldplug/coldpluglaw02.GlobChoices", spec := "globChoices", inPlace := ["internal/bytealg.IndexByteString"], unfollowed := true, recurses := true, named := ["math/bits.deBruijn64tab"], plainKeys := false, apart := false, laid := [("math/bits.deBruijn64tab", laid_math_bits_deBruijn64tab)], narrowed := true }
def GlobChoicesUptoSaid : Prop := globChoicesUptoRow.holds Tryd.pinned (OpenSpec.upto globChoicesSpec)

/-- 'coldpluglaw02.GlobJoins', WHERE WHAT IT READS IS OF BULK AT MOST 1048576: true; the input reads as it did. -/
def globJoinsUptoRow : OpenClaim := { program := "ytapiofcdifligaadoor", sum := "7cdb41041721631c2e2e5d2d279ad384b14c81ae678acf0b7c98b9bd780d7475", func := "coldplug/coldpluglaw02.GlobJoins", spec := "globJoins", inPlace := ["internal/bytealg.IndexByteString", "internal/bytealg.IndexString"], unfollowed := true, recurses := true, named := ["internal/bytealg.MaxLen", "math/bits.deBruijn64tab"], plainKeys := false, apart := false, laid := [("math/bits.deBruijn64tab", laid_math_bits_deBruijn64tab)], narrowed := true }
def GlobJoinsUptoSaid : Prop := globJoinsUptoRow.holds Tryd.pinned (OpenSpec.upto globJoinsSpec)

end Rows
end Go.Proofs.YtapiofcdifligaaDoor
