/- At. The order of origins. The place of an origin in a valid tree. -/
import Derived.Test.YtldcediiobfhiaaGreatDoorKV2
import Derived.Test.YtldcediiobfhiaaGreatDoorKDeDL
import Derived.Test.YtldcediiobfhiaaGreatDoorKU4
import Derived.Test.YtldcediiobfhiaaGreatDoorKV8
namespace Go.Proofs.YtldcediiobfhiaaGreatDoor.De
open Go.RowKit Go.Maps
end Go.Proofs.YtldcediiobfhiaaGreatDoor.De
namespace Go.Proofs.YtldcediiobfhiaaGreatDoor.Nm
end Go.Proofs.YtldcediiobfhiaaGreatDoor.Nm
namespace Go.Proofs.YtldcediiobfhiaaGreatDoor
open Go.RowKit
end Go.Proofs.YtldcediiobfhiaaGreatDoor
