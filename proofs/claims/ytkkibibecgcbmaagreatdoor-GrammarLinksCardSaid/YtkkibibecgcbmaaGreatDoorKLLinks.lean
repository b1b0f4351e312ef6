/- GrammarLinks: the walk. -/
import Derived.Test.YtkkibibecgcbmaaGreatDoorKHk
namespace Go.Proofs.YtkkibibecgcbmaaGreatDoor
open Go.RowKit
theorem grammarLinks_walk (a : Option Addr) (n c : Nat) (w : World) (hE : Env w) (hi : Ints w w.heap.size (.slice a n c)) : Calls Tryz.prog 8 #[.slice a n c] w fun e w' => e = .returned (.bool true) ∧ Below w.heap.size w w' :=
  (grammarLinks_list leftOut_any a n c w hE hi).mono fun _ _ ⟨h1, h2⟩ => ⟨h1, h2.below (Nat.le_refl _) (by simp)⟩
end Go.Proofs.YtkkibibecgcbmaaGreatDoor
