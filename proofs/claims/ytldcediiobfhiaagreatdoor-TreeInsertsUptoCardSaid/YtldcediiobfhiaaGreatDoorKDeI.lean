/- Ancestors. -/
import Derived.Test.YtldcediiobfhiaaGreatDoorKDf
namespace Go.Proofs.YtldcediiobfhiaaGreatDoor.De
open Go.RowKit Go.Maps
theorem anc_any (V : Nat) (a : ADev) (v : Value) (w : World) : Calls Tryz.prog 76 #[.pointer (some ⟨V, 0, none⟩), .agg (dvC a v).toArray] w fun e w' =>
  e = .returned (.func (.func 110) #[] #[.pointer (some ⟨w.heap.size + 1, 0, none⟩), .pointer (some ⟨w.heap.size, 0, none⟩)]) ∧ w' = (w.alloc (.cells #[.pointer (some ⟨V, 0, none⟩)] 64)).alloc (.cells (dvC a v).toArray 34) := by
 unfold dvC
 go_enter Tryz.func76, Tryz.ntmps76
 go_wp2
 go_ret
 exact ⟨rfl, rfl⟩
end Go.Proofs.YtldcediiobfhiaaGreatDoor.De
