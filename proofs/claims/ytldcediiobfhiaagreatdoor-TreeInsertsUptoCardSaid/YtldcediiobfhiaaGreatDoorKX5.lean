/- Node of the reference. What is found, as the law compares it. -/
import Derived.Test.YtldcediiobfhiaaGreatDoorKX3
import Derived.Test.YtldcediiobfhiaaGreatDoorKRf
import Derived.Test.YtldcediiobfhiaaGreatDoorKX2
import Derived.Test.YtldcediiobfhiaaGreatDoorKX4
import Derived.Test.YtldcediiobfhiaaGreatDoorKV8
import Derived.Test.YtldcediiobfhiaaGreatDoorKX1
namespace Go.Proofs.YtldcediiobfhiaaGreatDoor
open Go.RowKit
end Go.Proofs.YtldcediiobfhiaaGreatDoor
namespace Go.Proofs.YtldcediiobfhiaaGreatDoor
open Go.RowKit
theorem dhas_ats {W : World} {v : Value} {l : List De.DV} (h : De.DHas W v l) (x : De.DV) (hx : x ∈ l) : De.Has W x.2 x.1.ats := by
 rcases h with ⟨a, c, -, rfl⟩ | ⟨g, o, c, -, -, -, hr⟩
 ·cases hx
 ·exact hr.ats x hx
end Go.Proofs.YtldcediiobfhiaaGreatDoor
