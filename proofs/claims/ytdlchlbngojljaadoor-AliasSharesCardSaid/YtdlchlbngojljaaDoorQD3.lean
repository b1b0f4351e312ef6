/- An alias that is drawn; what the walks of the laws want. -/
import Derived.Test.YtdlchlbngojljaaDoorQD2
namespace Go.Proofs.YtdlchlbngojljaaDoor
open Go.RowKit Go.Maps
theorem sub_ty {C : Cf} (h : C.mods.Sublist allMd) (h1 : C.bl.length ≤ 1000) (h2 : C.ex.length ≤ 1000) (h3 : ∀ s ∈ C.bl, s.length ≤ 1000) (h4 : ∀ e ∈ C.ex, e.1.length ≤ 1000 ∧ e.2.length ≤ 1000) : CTy C := by
 have hall : allMd.length = 8 ∧ ∀ m ∈ allMd, m.al.length ≤ 100 ∧ m.name.length ≤ 1000 ∧ ∀ p ∈ m.al, p.length ≤ 16 := by decide
 exact ⟨by have := h.length_le; omega, fun m hm => (hall.2 m (h.subset hm)).1, fun m hm => (hall.2 m (h.subset hm)).2.1, fun m hm => (hall.2 m (h.subset hm)).2.2, h1, h3, h2, h4⟩
theorem kp_bel {w w' : World} {tb : Nat} (h : Kp [tb] w w') (htb : w.heap.size ≤ tb) : Below w.heap.size w w' := h.below (Nat.le_refl _) (by simpa using htb)
/-- A tape that was just made. -/
theorem tp_new {w : World} {lv : Value} (h : Ints w w.heap.size lv) : Tp (w.alloc (.cells #[lv, .int .i64 0] 26)) w.heap.size 0 := by
 refine ⟨lv, heap_alloc_last w _, h.keep fun b hb => ?_⟩
 exact ((Kp.refl [] w).alloc _).block b hb (by simp)
end Go.Proofs.YtdlchlbngojljaaDoor
