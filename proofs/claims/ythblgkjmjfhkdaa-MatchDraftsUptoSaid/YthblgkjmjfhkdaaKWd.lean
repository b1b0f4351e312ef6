/- A device that is drawn, for an empty tree. -/
import Derived.Test.YthblgkjmjfhkdaaKDr
import Derived.Test.YthblgkjmjfhkdaaKDeDF
namespace Go.Proofs.Ythblgkjmjfhkdaa
open Go.RowKit

/-- Between two steps. -/
structure WS (w : World) (tb r D kk : Nat) (c : Array Value) (u : Value) (l : List De.Atr) (W : World) : Prop where
  bx : De.BoxAt W D c
  tp : Tp W tb kk
  kp : Kp [tb] w W
  rr : De.BoxAt W (r + 1) De.zeroC
  at_ : De.Has W u l
theorem WS.set {w W : World} {tb r D kk : Nat} {c : Array Value} {u : Value} {l : List De.Atr} (h : WS w tb r D kk c u l W) (i : Nat) (v : Value) {c' : Array Value} (hc : c.setIfInBounds i v = c') (h1 : tb < D) (h2 : r + 1 ≠ D) (h3 : ∀ b, u.ownBlock = some b → b ≠ D) (h4 : w.heap.size ≤ D) : WS w tb r D kk c' u l (W.setCell ⟨D, i, none⟩ v) :=
  ⟨by rw [← hc]; exact h.bx.set i v, h.tp.setD h1 i v, h.kp.setCell (.inr h4) v, (Below.heap_setCell _ _ _ _ h2).trans h.rr, hasS h.at_ h3 i v⟩
end Go.Proofs.Ythblgkjmjfhkdaa
