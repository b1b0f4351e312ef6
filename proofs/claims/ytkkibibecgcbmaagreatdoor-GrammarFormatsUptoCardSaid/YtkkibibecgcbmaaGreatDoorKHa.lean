/- SameRules, SameFaults, of equal lists. -/
import Derived.Test.YtkkibibecgcbmaaGreatDoorKGz
namespace Go.Proofs.YtkkibibecgcbmaaGreatDoor
open Go.RowKit
def RV.pl (x : RV) : List UInt8 × Int × List Tm := (x.file, x.line, x.l)
/-- The terms lie where the rule says. -/
def InH (w : World) (x : RV) : Prop := tmT.Has w (.slice x.a x.n x.c) x.l ∧ x.l.length ≤ 1000000
theorem InH.kp0 {w w' : World} {x : RV} (h : InH w x) (hk : Kp [] w w') : InH w' x := ⟨h.1.kp0 hk, h.2⟩
end Go.Proofs.YtkkibibecgcbmaaGreatDoor
