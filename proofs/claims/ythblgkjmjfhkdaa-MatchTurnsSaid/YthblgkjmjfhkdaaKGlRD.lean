/- The reference's set. -/
import Derived.Test.YthblgkjmjfhkdaaKGlRB
namespace Go.Proofs.Ythblgkjmjfhkdaa.Gl
open Go.RowKit

/-- An element's row: star, literal, the set. -/
def elRow (st li : Bool) (S : UInt8 → Bool) : Array Value := #[.bool st, .bool li] ++ boolRow S
theorem elRow_size (st li : Bool) (S : UInt8 → Bool) : (elRow st li S).size = 130 := by simp [elRow, boolRow_size]

theorem elRow_get (st li : Bool) (S : UInt8 → Bool) (c : Nat) (h : c < 128) : (elRow st li S)[2 + c]? = some (.bool (S (UInt8.ofNat c))) := by
  unfold elRow
  rw [Array.getElem?_append_right (by simp), ← boolRow_get S c h]
  congr 1
  simp

end Go.Proofs.Ythblgkjmjfhkdaa.Gl
