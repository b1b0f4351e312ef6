/- The reference's Children. The reference's Ancestors. The reference's Below and Subtree. The reference's Subtree. -/
import Derived.Test.YtldcediiobfhiaaGreatDoorQRd
import Derived.Deep.RegionHeld
namespace Go.Proofs.YtldcediiobfhiaaGreatDoor.De
open Go.RowKit
end Go.Proofs.YtldcediiobfhiaaGreatDoor.De
namespace Go.Proofs.YtldcediiobfhiaaGreatDoor.De
open Go.RowKit
end Go.Proofs.YtldcediiobfhiaaGreatDoor.De
namespace Go.Proofs.YtldcediiobfhiaaGreatDoor.De
open Go.RowKit
end Go.Proofs.YtldcediiobfhiaaGreatDoor.De
namespace Go.Proofs.YtldcediiobfhiaaGreatDoor.De
open Go.RowKit
end Go.Proofs.YtldcediiobfhiaaGreatDoor.De
