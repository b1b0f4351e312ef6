/- Faults in memory; SameFaults of equal lists. -/
import Derived.Test.YtkkibibecgcbmaaGreatDoorKHa
namespace Go.Proofs.YtkkibibecgcbmaaGreatDoor
open Go.RowKit
end Go.Proofs.YtkkibibecgcbmaaGreatDoor
