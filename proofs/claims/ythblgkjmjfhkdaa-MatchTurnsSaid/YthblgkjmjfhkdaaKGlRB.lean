/- The reference's set, on lists of bytes: its place in a pattern, member by member; rows of 128 truth values. -/
import Derived.Test.YthblgkjmjfhkdaaKGlRA
namespace Go.Proofs.Ythblgkjmjfhkdaa.Gl
open Go.RowKit

def boolRow (S : UInt8 → Bool) : Array Value := ((List.range 128).map fun c => Value.bool (S (UInt8.ofNat c))).toArray
theorem boolRow_size (S : UInt8 → Bool) : (boolRow S).size = 128 := by simp [boolRow]
theorem boolRow_get (S : UInt8 → Bool) (c : Nat) (h : c < 128) : (boolRow S)[c]? = some (.bool (S (UInt8.ofNat c))) := by
  simp [boolRow, h]
end Go.Proofs.Ythblgkjmjfhkdaa.Gl
