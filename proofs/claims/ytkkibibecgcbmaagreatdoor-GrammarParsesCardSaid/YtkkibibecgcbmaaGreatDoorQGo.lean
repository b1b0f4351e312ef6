/- Go -/
import Derived.Test.YtkkibibecgcbmaaGreatDoorQI
namespace Go.Proofs.YtkkibibecgcbmaaGreatDoor
open Go.RowKit
theorem tok_push {w W W7 : World} {Nb : Nat} {x : Lx.Tok} {v : Value} {xs : List Lx.Tok} {B : Nat} (hk : Kp [] w W) (ho : Lx.tokT.Own W B v xs) (hN : W.heap.size = Nb) (hW : W.alloc (.cells (Lx.tokC x) 81) = W7) : Kp [] w W7 ∧ Lx.tokT.Own W7 B v xs ∧ W7.rangeAt Nb 0 (Lx.tokT.cf x) := by
 have hk1 : Kp [] W W7 := by rw [← hW]; exact (Kp.refl [] _).alloc _
 refine ⟨hk.trans hk1, ho.kp0 hk1, ?_⟩
 have h : Lx.TAt (W.alloc (.cells (Lx.tokC x) 81)) W.heap.size x := heap_alloc_last W _
 rw [hW, hN] at h
 exact Lx.TAt.range h
end Go.Proofs.YtkkibibecgcbmaaGreatDoor
