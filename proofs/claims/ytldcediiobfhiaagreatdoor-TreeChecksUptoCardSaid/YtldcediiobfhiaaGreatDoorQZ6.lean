/- Remove of the reference. slices.Grow of the nil slice, slices.Concat of two rows of devices. -/
import Derived.Test.YtldcediiobfhiaaGreatDoorQZ3
import Derived.Test.YtldcediiobfhiaaGreatDoorQRr
import Derived.Test.YtldcediiobfhiaaGreatDoorQMg
import Derived.Deep.MidRow
namespace Go.Proofs.YtldcediiobfhiaaGreatDoor
open Go.RowKit
end Go.Proofs.YtldcediiobfhiaaGreatDoor
namespace Go.Proofs.YtldcediiobfhiaaGreatDoor
open Go.RowKit
end Go.Proofs.YtldcediiobfhiaaGreatDoor
