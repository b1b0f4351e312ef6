/-
  No cell of these rows narrows 'for every input' (looked for: loops, veiled, ifaces, maps, wideKeys, modest, calm, conditions, laid).
  DERIVED. THE GIVEN ROWS OF THIS SEAT. 4 by the template 'for every input the law returns true; each argument reads behind the call as it read before'; 0 by the template 'total and deterministic' (their statements: YtikjbhjdpamceaaTotals.lean).
  GIVEN WITH THE SEED: the statements are not yours to turn. If you find one false, say at which input.
  Laid BY PROGRAM, IN A SANDBOX (cutbox-rows.mjs): the forced cells as the released guide's own fill.sh prints them over the translation bd521d2beb6204d0… (all of the seat's roots in one cut). By AI agents, Wed Nov 11 2026. No macro, syntax, notation, axiom, sorry.
-/
import Derived.Test.YtikjbhjdpamceaaChecked
import GoSem.Claim
import GoSem.ClaimJoined
import GoSem.ClaimMapViews
import Derived.JoinedTies
import Derived.KernelRfl
namespace Go.Proofs.Ytikjbhjdpamceaa
/- THE CELL 'sum', in the pinned program and in every row, IS THE sha256 OF THE DUMP (.gsa) THAT YtikjbhjdpamceaaProg.lean LOADS. Nothing in Lean hashes anything: it is a label: what it is worth is what the hold of that sum in a sandbox is worth. -/
noncomputable def Try.pinned : Pinned := { name := "ytikjbhjdpamceaa", sum := "bd521d2beb6204d086028d0d58d584a5c7d0ed96616199631f40069f89874532", checked := Try.checked }
namespace Rows
def none {H : Type} : Left H := { results := [], args := [] }

/-- 'coldpluglaw06.SocketPlays': WHATEVER THE INPUT: true; the input reads as it did. -/
def socketPlaysSpec : ChangeSpec := { name := "socketPlays", fn := fun _ => fun
  | [d1, d2] => { results := [.lit (.bool true)], args := [d1, d2] }
  | _ => none }
def socketPlaysRow : OpenClaim := { program := "ytikjbhjdpamceaa", sum := "bd521d2beb6204d086028d0d58d584a5c7d0ed96616199631f40069f89874532", func := "coldplug/coldpluglaw06.SocketPlays", spec := "socketPlays", apart := false }
def SocketPlaysSaid : Prop := socketPlaysRow.holds Try.pinned (OpenSpec.ofChange socketPlaysSpec)

/-- ITS FALSE NEIGHBOUR: 'it returns false'. Refute it at one input. -/
def socketPlaysWrong : ChangeSpec := { name := "socketPlays", fn := fun _ => fun
  | [d1, d2] => { results := [.lit (.bool false)], args := [d1, d2] }
  | _ => none }
def SocketPlaysWrongFalsely : Prop := socketPlaysRow.holds Try.pinned (OpenSpec.ofChange socketPlaysWrong)

/-- 'coldpluglaw06.SocketSizes': WHATEVER THE INPUT: true; the input reads as it did. -/
def socketSizesSpec : ChangeSpec := { name := "socketSizes", fn := fun _ => fun
  | [d1, d2] => { results := [.lit (.bool true)], args := [d1, d2] }
  | _ => none }
def socketSizesRow : OpenClaim := { program := "ytikjbhjdpamceaa", sum := "bd521d2beb6204d086028d0d58d584a5c7d0ed96616199631f40069f89874532", func := "coldplug/coldpluglaw06.SocketSizes", spec := "socketSizes", apart := false }
def SocketSizesSaid : Prop := socketSizesRow.holds Try.pinned (OpenSpec.ofChange socketSizesSpec)

/-- ITS FALSE NEIGHBOUR: 'it returns false'. Refute it at one input. -/
def socketSizesWrong : ChangeSpec := { name := "socketSizes", fn := fun _ => fun
  | [d1, d2] => { results := [.lit (.bool false)], args := [d1, d2] }
  | _ => none }
def SocketSizesWrongFalsely : Prop := socketSizesRow.holds Try.pinned (OpenSpec.ofChange socketSizesWrong)

/-- 'coldpluglaw06.SocketOrder': WHATEVER THE INPUT: true; the input reads as it did. -/
def socketOrderSpec : ChangeSpec := { name := "socketOrder", fn := fun _ => fun
  | [d] => { results := [.lit (.bool true)], args := [d] }
  | _ => none }
def socketOrderRow : OpenClaim := { program := "ytikjbhjdpamceaa", sum := "bd521d2beb6204d086028d0d58d584a5c7d0ed96616199631f40069f89874532", func := "coldplug/coldpluglaw06.SocketOrder", spec := "socketOrder", apart := false }
def SocketOrderSaid : Prop := socketOrderRow.holds Try.pinned (OpenSpec.ofChange socketOrderSpec)

/-- ITS FALSE NEIGHBOUR: 'it returns false'. Refute it at one input. -/
def socketOrderWrong : ChangeSpec := { name := "socketOrder", fn := fun _ => fun
  | [d] => { results := [.lit (.bool false)], args := [d] }
  | _ => none }
def SocketOrderWrongFalsely : Prop := socketOrderRow.holds Try.pinned (OpenSpec.ofChange socketOrderWrong)

/-- 'coldpluglaw06.SocketCopies': WHATEVER THE INPUT: true; the input reads as it did. -/
def socketCopiesSpec : ChangeSpec := { name := "socketCopies", fn := fun _ => fun
  | [d] => { results := [.lit (.bool true)], args := [d] }
  | _ => none }
def socketCopiesRow : OpenClaim := { program := "ytikjbhjdpamceaa", sum := "bd521d2beb6204d086028d0d58d584a5c7d0ed96616199631f40069f89874532", func := "coldplug/coldpluglaw06.SocketCopies", spec := "socketCopies", apart := false }
def SocketCopiesSaid : Prop := socketCopiesRow.holds Try.pinned (OpenSpec.ofChange socketCopiesSpec)

/-- ITS FALSE NEIGHBOUR: 'it returns false'. Refute it at one input. -/
def socketCopiesWrong : ChangeSpec := { name := "socketCopies", fn := fun _ => fun
  | [d] => { results := [.lit (.bool false)], args := [d] }
  | _ => none }
def SocketCopiesWrongFalsely : Prop := socketCopiesRow.holds Try.pinned (OpenSpec.ofChange socketCopiesWrong)

/- THE SECOND FORM. 'bulk': how many values and letters a reading holds, each counted each time it is reached (what is shared counts as often as it is met; a slice's spare places count too). A statement '..UptoSaid' is the law's where the arguments, and the package variables that the reading takes, are together of bulk at most 1048576: NARROWER than '..Said'. Prove '..Said' where nothing that the law and all that it calls make is longer than what came in: it says more and counts as full. Else prove '..UptoSaid'. A law counts once. -/
mutual
def uptoBulk {H : Type} : DataW H → Nat
  | .lit (.string bytes) => bytes.length + 1
  | .lit _ => 1
  | .nil => 1
  | .ptr d => uptoBulk d + 1
  | .slice elems spare => uptoBulkAll elems + uptoBulkAll spare + 1
  | .agg parts => uptoBulkAll parts + 1
  | .iface _ d => uptoBulk d + 1
  | .map entries => uptoBulkEntries entries + 1
  | .held _ => 1
def uptoBulkAll {H : Type} : List (DataW H) → Nat
  | [] => 0
  | d :: r => uptoBulk d + uptoBulkAll r
def uptoBulkEntries {H : Type} : List (Lit × DataW H) → Nat
  | [] => 0
  | x :: r => uptoBulkEntry x + uptoBulkEntries r
def uptoBulkEntry {H : Type} : Lit × DataW H → Nat
  | (.string bytes, d) => bytes.length + uptoBulk d + 1
  | (_, d) => uptoBulk d + 1
 end
def uptoSmall : (H : Type) → List (DataW H) → Bool := fun _ ds => decide (uptoBulkAll ds ≤ 1048576)
def OpenSpec.upto (s : _root_.Go.ChangeSpec) : _root_.Go.OpenSpec := { _root_.Go.OpenSpec.ofChange s with cond := some uptoSmall }

/-- 'coldpluglaw06.SocketPlays', WHERE WHAT IT READS IS OF BULK AT MOST 1048576: true; the input reads as it did. -/
def socketPlaysUptoRow : OpenClaim := { program := "ytikjbhjdpamceaa", sum := "bd521d2beb6204d086028d0d58d584a5c7d0ed96616199631f40069f89874532", func := "coldplug/coldpluglaw06.SocketPlays", spec := "socketPlays", apart := false, narrowed := true }
def SocketPlaysUptoSaid : Prop := socketPlaysUptoRow.holds Try.pinned (OpenSpec.upto socketPlaysSpec)

/-- 'coldpluglaw06.SocketSizes', WHERE WHAT IT READS IS OF BULK AT MOST 1048576: true; the input reads as it did. -/
def socketSizesUptoRow : OpenClaim := { program := "ytikjbhjdpamceaa", sum := "bd521d2beb6204d086028d0d58d584a5c7d0ed96616199631f40069f89874532", func := "coldplug/coldpluglaw06.SocketSizes", spec := "socketSizes", apart := false, narrowed := true }
def SocketSizesUptoSaid : Prop := socketSizesUptoRow.holds Try.pinned (OpenSpec.upto socketSizesSpec)

/-- 'coldpluglaw06.SocketOrder', WHERE WHAT IT READS IS OF BULK AT MOST 1048576: true; the input reads as it did. -/
def socketOrderUptoRow : OpenClaim := { program := "ytikjbhjdpamceaa", sum := "bd521d2beb6204d086028d0d58d584a5c7d0ed96616199631f40069f89874532", func := "coldplug/coldpluglaw06.SocketOrder", spec := "socketOrder", apart := false, narrowed := true }
def SocketOrderUptoSaid : Prop := socketOrderUptoRow.holds Try.pinned (OpenSpec.upto socketOrderSpec)

/-- 'coldpluglaw06.SocketCopies', WHERE WHAT IT READS IS OF BULK AT MOST 1048576: true; the input reads as it did. -/
def socketCopiesUptoRow : OpenClaim := { program := "ytikjbhjdpamceaa", sum := "bd521d2beb6204d086028d0d58d584a5c7d0ed96616199631f40069f89874532", func := "coldplug/coldpluglaw06.SocketCopies", spec := "socketCopies", apart := false, narrowed := true }
def SocketCopiesUptoSaid : Prop := socketCopiesUptoRow.holds Try.pinned (OpenSpec.upto socketCopiesSpec)

end Rows
end Go.Proofs.Ytikjbhjdpamceaa
