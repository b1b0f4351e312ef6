/- Relatives of a device, on lists; same. -/
import Derived.Test.YtldcediiobfhiaaGreatDoorKY1
import Derived.Test.YtldcediiobfhiaaGreatDoorKV8
import Derived.Test.YtldcediiobfhiaaGreatDoorKWa
import Derived.Test.YtldcediiobfhiaaGreatDoorKRfDS
import Derived.Test.YtldcediiobfhiaaGreatDoorKRr
namespace Go.Proofs.YtldcediiobfhiaaGreatDoor.De
open Go.RowKit
end Go.Proofs.YtldcediiobfhiaaGreatDoor.De
namespace Go.Proofs.YtldcediiobfhiaaGreatDoor
open Go.RowKit
end Go.Proofs.YtldcediiobfhiaaGreatDoor
