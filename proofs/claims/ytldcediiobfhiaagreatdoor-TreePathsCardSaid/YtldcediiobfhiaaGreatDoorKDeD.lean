/- Copies of attributes. -/
import Derived.Test.YtldcediiobfhiaaGreatDoorKDb
import Derived.Test.YtldcediiobfhiaaGreatDoorKSh
namespace Go.Proofs.YtldcediiobfhiaaGreatDoor.De
open Go.RowKit
def Bel (v : Value) (w : World) (e : Ending) (w' : World) : Prop := e = .returned v ∧ Below w.heap.size w w'
end Go.Proofs.YtldcediiobfhiaaGreatDoor.De
