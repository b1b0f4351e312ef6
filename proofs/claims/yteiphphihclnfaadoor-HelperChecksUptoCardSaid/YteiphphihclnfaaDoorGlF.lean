/- Rows of bytes; beginning. -/
import Derived.Test.YteiphphihclnfaaDoorGlE
import Derived.Maps.AppendAt
import Derived.Laws.BytesString
import Derived.Laws.BytesArg
namespace Go.Proofs.YteiphphihclnfaaDoor.Gl
open Go.RowKit

theorem ownsRow_below {w w' : World} {B : Nat} {t : TypeId} {k n : Nat} {v : Value} {xs : List Value} (h : w.ownsRow B t k v n xs) (hb : Below w.heap.size w w') : w'.ownsRow B t k v n xs := by
  refine ⟨h.1, ?_⟩
  rcases h.2 with h1 | ⟨g, cap, cur, hv, hB, hg, rest⟩
  · exact Or.inl h1
  · refine Or.inr ⟨g, cap, cur, hv, hB, ?_, rest⟩
    rw [hb.block g, hg]
    exact (Array.getElem?_eq_some_iff.1 hg).1

end Go.Proofs.YteiphphihclnfaaDoor.Gl
