/- Draft of the reference. -/
import Derived.Test.YtljkljnfbcmjdaaGreatDoorKMf
namespace Go.Proofs.YtljkljnfbcmjdaaGreatDoor
open Go.RowKit
theorem cell_kp {w w' : World} {b o : Nat} {u : Value} (hk : Kp [] w w') (h : w.cell? ⟨b, o, none⟩ = some u) : w'.cell? ⟨b, o, none⟩ = some u := by
 have hl : b < w.heap.size := World.block_lt_of_cell? _ _ h
 simp only [World.cell?, hk.block b hl (by simp)] at h ⊢
 exact h
end Go.Proofs.YtljkljnfbcmjdaaGreatDoor
