/- Relatives of a device, on lists; same. A subtree as a row of neighbours, and origins below an origin. -/
import Derived.Test.YtldcediiobfhiaaGreatDoorQY1
import Derived.Test.YtldcediiobfhiaaGreatDoorQV8
import Derived.Test.YtldcediiobfhiaaGreatDoorQWa
import Derived.Test.YtldcediiobfhiaaGreatDoorQX1
import Derived.Test.YtldcediiobfhiaaGreatDoorQRr
import Derived.Test.YtldcediiobfhiaaGreatDoorQX4
import Derived.Test.YtldcediiobfhiaaGreatDoorQNp
namespace Go.Proofs.YtldcediiobfhiaaGreatDoor.De
open Go.RowKit
end Go.Proofs.YtldcediiobfhiaaGreatDoor.De
namespace Go.Proofs.YtldcediiobfhiaaGreatDoor
open Go.RowKit
end Go.Proofs.YtldcediiobfhiaaGreatDoor
namespace Go.Proofs.YtldcediiobfhiaaGreatDoor
open Go.RowKit
theorem row_of {W : World} {va : Option Addr} {N vc p : Nat} {l : List De.DV} {d : De.DV} (h : De.DHas W (.slice va N vc) l) (hd : l[p]? = some d) : ∃ g o, va = some ⟨g, o, none⟩ ∧ l.length ≤ vc ∧ g < W.heap.size ∧ De.DRow W g o l := by
 obtain ⟨a, c, hv, hr⟩ := h.form
 injection hv with e1 e2 e3
 subst e1
 subst e3
 exact hr (fun e => by rw [e] at hd; simp at hd)
end Go.Proofs.YtldcediiobfhiaaGreatDoor
