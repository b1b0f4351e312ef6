/- The reference's way of matching, on lists: sets of places in an alternative, byte by byte. -/
import Derived.Test.YtkkibibecgcbmaaGreatDoorKGlRB
namespace Go.Proofs.YtkkibibecgcbmaaGreatDoor.Gl
open Go.RowKit
end Go.Proofs.YtkkibibecgcbmaaGreatDoor.Gl
