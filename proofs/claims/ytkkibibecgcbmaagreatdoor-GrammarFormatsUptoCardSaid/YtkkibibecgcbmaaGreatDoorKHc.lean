/- A row put behind a single element; what linking is, on lists. -/
import Derived.Test.YtkkibibecgcbmaaGreatDoorKHb
import Derived.Deep.Upon
namespace Go.Proofs.YtkkibibecgcbmaaGreatDoor
open Go.RowKit
/-- A slice that may be nil, or a row. -/
def RT.Any {α : Type} (r : RT α) (w : World) (v : Value) (l : List α) : Prop := (v = .slice none 0 0 ∧ l = []) ∨ ∃ b p c, v = .slice (some ⟨b, p, none⟩) l.length c ∧ r.Row w b p l
theorem RT.Own.any {α : Type} {r : RT α} {w : World} {B : Nat} {v : Value} {l : List α} (h : r.Own w B v l) : r.Any w v l := by
 rcases h.form2 with ⟨h1, h2⟩ | ⟨g, cap, h1, _, _, _, _, h2⟩
 ·exact .inl ⟨h1, h2⟩
 ·exact .inr ⟨g, 0, cap, h1, h2⟩
/-- Where a rule jumps to; its label. -/
def RV.to (x : RV) : Option (List UInt8) := valO x.l 24
end Go.Proofs.YtkkibibecgcbmaaGreatDoor
