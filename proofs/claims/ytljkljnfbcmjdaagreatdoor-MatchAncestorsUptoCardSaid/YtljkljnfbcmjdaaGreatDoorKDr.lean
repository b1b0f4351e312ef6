/- A draft that is drawn. -/
import Derived.Test.YtljkljnfbcmjdaaGreatDoorKMg
import Derived.Test.YtljkljnfbcmjdaaGreatDoorKGu
namespace Go.Proofs.YtljkljnfbcmjdaaGreatDoor
open Go.RowKit
theorem DAt.kpT {W W' : World} {D tb : Nat} {d : Dra} (h : DAt W D d) (hk : Kp [tb] W W') (ht : tb < D) : DAt W' D d := (hk.block D (block_lt h) (by simp; omega)).trans h
theorem DAt.grown {W W' : World} {D : Nat} {d : Dra} {v : Value} (h : DAt W D d) (g : W.grownBy W' v.ownBlock) (hne : ∀ b, v.ownBlock = some b → b ≠ D) : DAt W' D d := (g.block D (block_lt h) (fun e => hne D e.symm rfl)).trans h
theorem hasT {W W' : World} {tb : Nat} {v : Value} {l : List De.Atr} (h : De.Has W v l) (hk : Kp [tb] W W') (hn : ∀ b, v.ownBlock = some b → b ≠ tb) : De.Has W' v l := h.keep hk.size fun b hb e => hk.block b hb (by simpa using hn b e)
theorem hasS {W : World} {D : Nat} {v : Value} {l : List De.Atr} (h : De.Has W v l) (hn : ∀ b, v.ownBlock = some b → b ≠ D) (o : Nat) (x : Value) : De.Has (W.setCell ⟨D, o, none⟩ x) v l := h.keep (by simp [World.setCell]) fun b _ e => Below.heap_setCell _ _ _ _ (hn b e)
theorem Tp.setD {W : World} {tb k D : Nat} (h : Tp W tb k) (hD : tb < D) (o : Nat) (x : Value) : Tp (W.setCell ⟨D, o, none⟩ x) tb k := h.keep fun b hb => Below.heap_setCell _ _ _ _ (by simp; omega)
def dd (pr s : Sl) (res : ByteArray) : Dra := ⟨pr, s, ⟨none, 0, 0⟩, ⟨none, 0, 0⟩, ⟨none, 0, 0⟩, ⟨#[]⟩, 0, ⟨#[]⟩, ⟨#[]⟩, 0, res, 0, 0, ⟨none, 0, 0⟩⟩
end Go.Proofs.YtljkljnfbcmjdaaGreatDoor
