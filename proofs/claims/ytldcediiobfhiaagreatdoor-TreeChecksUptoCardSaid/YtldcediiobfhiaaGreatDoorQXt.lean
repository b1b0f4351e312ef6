/- What Insert, Remove and Change of a drawn tree leave, in memory: TreeStays' contracts. -/
import Derived.Test.YtldcediiobfhiaaGreatDoorQZ9
import Derived.Test.YtldcediiobfhiaaGreatDoorQXr
import Derived.Test.YtldcediiobfhiaaGreatDoorQZ8
import Derived.Test.YtldcediiobfhiaaGreatDoorQSe
namespace Go.Proofs.YtldcediiobfhiaaGreatDoor
open Go.RowKit
/-- A small device. -/
def SmA (a : De.ADev) : Prop := SmX (vDev a) a.ats ∧ a.ats.length ≤ 1000
theorem sma_of {x : De.DV} (h : Sml x) : SmA x.1 := ⟨⟨h.1.n, h.1.o, h.1.s, h.1.r, h.1.i, h.1.a⟩, h.2⟩
theorem sma_dev {d : De.Dev} {la : List De.Atr} (h : SmX d la) (hl : la.length ≤ 1000) : SmA (aOf d la) := ⟨⟨h.n, h.o, h.s, h.r, h.i, h.a⟩, hl⟩
theorem sma_smx {a : De.ADev} (h : SmA a) (u : Value) : SmX (De.devOf a u) a.ats := ⟨h.1.n, h.1.o, h.1.s, h.1.r, h.1.i, h.1.a⟩
theorem dhas_len {W : World} {a : Option Addr} {m c : Nat} {L : List De.DV} (h : De.DHas W (.slice a m c) L) : L.length = m := by
 obtain ⟨a', c', e, -⟩ := h.form
 injection e with _ e _
 exact e.symm
end Go.Proofs.YtldcediiobfhiaaGreatDoor
