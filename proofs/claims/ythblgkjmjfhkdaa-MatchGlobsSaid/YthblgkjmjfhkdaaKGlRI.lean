/- The reference's one. -/
import Derived.Test.YthblgkjmjfhkdaaKGlRH
namespace Go.Proofs.Ythblgkjmjfhkdaa.Gl
open Go.RowKit

def hitB (l : List El) (j : Nat) (c : UInt8) : Bool := match l[j]? with | some e => !e.star && e.set c | none => false
end Go.Proofs.Ythblgkjmjfhkdaa.Gl
