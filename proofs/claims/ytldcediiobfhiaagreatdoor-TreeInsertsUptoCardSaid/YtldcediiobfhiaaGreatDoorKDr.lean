/- A draft that is drawn. -/
import Derived.Test.YtldcediiobfhiaaGreatDoorKMg
import Derived.Test.YtldcediiobfhiaaGreatDoorKGG
namespace Go.Proofs.YtldcediiobfhiaaGreatDoor
open Go.RowKit
theorem hasT {W W' : World} {tb : Nat} {v : Value} {l : List De.Atr} (h : De.Has W v l) (hk : Kp [tb] W W') (hn : ∀ b, v.ownBlock = some b → b ≠ tb) : De.Has W' v l := h.keep hk.size fun b hb e => hk.block b hb (by simpa using hn b e)
theorem hasS {W : World} {D : Nat} {v : Value} {l : List De.Atr} (h : De.Has W v l) (hn : ∀ b, v.ownBlock = some b → b ≠ D) (o : Nat) (x : Value) : De.Has (W.setCell ⟨D, o, none⟩ x) v l := h.keep (by simp [World.setCell]) fun b _ e => Below.heap_setCell _ _ _ _ (hn b e)
theorem Tp.setD {W : World} {tb k D : Nat} (h : Tp W tb k) (hD : tb < D) (o : Nat) (x : Value) : Tp (W.setCell ⟨D, o, none⟩ x) tb k := h.keep fun b hb => Below.heap_setCell _ _ _ _ (by simp; omega)
end Go.Proofs.YtldcediiobfhiaaGreatDoor
