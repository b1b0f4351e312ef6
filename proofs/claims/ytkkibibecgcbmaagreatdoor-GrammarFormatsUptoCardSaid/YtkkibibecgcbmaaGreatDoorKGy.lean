/- The reference's Value. -/
import Derived.Test.YtkkibibecgcbmaaGreatDoorKGx
namespace Go.Proofs.YtkkibibecgcbmaaGreatDoor
open Go.RowKit
/-- The value of the first term with a key. -/
def valO (l : List Tm) (k : Int) : Option (List UInt8) := (l.find? fun t => t.key == k).map (·.val)
end Go.Proofs.YtkkibibecgcbmaaGreatDoor
