/- The reference's places and one. -/
import Derived.Test.YthblgkjmjfhkdaaKGlRG
import Derived.Deep.OwnRows
import Derived.Deep.QuietTactic
import Derived.BigQuiet
namespace Go.Proofs.Ythblgkjmjfhkdaa.Gl
open Go.RowKit

/-- A row of truth values at the beginning of a block. -/
def BRow (w : World) (b n : Nat) (f : Nat → Bool) : Prop := ∃ c : Array Value, w.heap[b]? = some (.cells c 4 (0, 0)) ∧ ∀ i, i < n → c[i]? = some (.bool (f i))
theorem BRow.cell {w : World} {b n : Nat} {f : Nat → Bool} (h : BRow w b n f) (i : Nat) (hi : i < n) : w.cell? ⟨b, i, none⟩ = some (.bool (f i)) := by
  obtain ⟨c, hb, hc⟩ := h
  rw [cell_of_row w b i c _ _ hb, hc i hi]
theorem BRow.frozen {w : World} {b n : Nat} {f : Nat → Bool} (h : BRow w b n f) (i : Nat) : w.frozen? ⟨b, i, none⟩ = false := by
  obtain ⟨c, hb, _⟩ := h
  exact frozen_of_row w b i _ _ hb
theorem BRow.lt {w : World} {b n : Nat} {f : Nat → Bool} (h : BRow w b n f) : b < w.heap.size := by
  obtain ⟨c, hb, _⟩ := h
  exact (Array.getElem?_eq_some_iff.1 hb).1
theorem BRow.congr {w : World} {b n : Nat} {f g : Nat → Bool} (h : BRow w b n f) (e : ∀ i, i < n → f i = g i) : BRow w b n g := by
  obtain ⟨c, hb, hc⟩ := h
  exact ⟨c, hb, fun i hi => by rw [hc i hi, e i hi]⟩
theorem BRow.of_block {w w' : World} {b n : Nat} {f : Nat → Bool} (h : BRow w b n f) (e : w'.heap[b]? = w.heap[b]?) : BRow w' b n f := by
  obtain ⟨c, hb, hc⟩ := h
  exact ⟨c, e.trans hb, hc⟩
theorem BRow.below {w w' : World} {b n B : Nat} {f : Nat → Bool} (h : BRow w b n f) (hb : Below B w w') (hB : b < B) : BRow w' b n f := h.of_block (hb.block b hB)
theorem BRow.set {w : World} {b n : Nat} {f : Nat → Bool} (h : BRow w b n f) (i : Nat) (v : Bool) : BRow (w.setCell ⟨b, i, none⟩ (.bool v)) b n (fun j => if j = i then v else f j) := by
  obtain ⟨c, hb, hc⟩ := h
  refine ⟨c.setIfInBounds i (.bool v), block_setCell4 hb _, fun j hj => ?_⟩
  have hjs : j < c.size := by
    have := hc j hj
    exact (Array.getElem?_eq_some_iff.1 this).1
  rw [Array.getElem?_setIfInBounds]
  by_cases e : i = j
  · subst e
    simp [hjs]
  · rw [if_neg e, hc j hj]
    simp only [if_neg (fun h : j = i => e h.symm)]
theorem BRow.made {w : World} {n : Nat} : BRow (w.alloc (.cells (madeCells #[.bool false] n) 4)) w.heap.size n (fun _ => false) := by
  obtain ⟨c, hb, _, hc⟩ := World.rowIs_made w (.bool false) n 4
  exact ⟨c, hb, fun i hi => hc i hi⟩
/-- An alternative, as a value. -/
def PSl (w : World) (v : Value) (a : List El) : Prop := ∃ aj cj gj, v = .slice aj a.length cj ∧ (0 < a.length → aj = some ⟨gj, 0, none⟩) ∧ gj < w.heap.size ∧ PElsAt w gj a
theorem PElsAt.below {w w' : World} {g B : Nat} {l : List El} (h : PElsAt w g l) (hb : Below B w w') (hB : g < B) : PElsAt w' g l := fun i e he =>
  ⟨(hb.cell (p := ⟨g, i * 130, none⟩) hB).trans (h i e he).1, (hb.cell (p := ⟨g, i * 130 + 1, none⟩) hB).trans (h i e he).2.1, fun c hc => (hb.cell (p := ⟨g, i * 130 + (2 + c), none⟩) hB).trans ((h i e he).2.2 c hc)⟩
theorem PSl.below {w w' : World} {v : Value} {a : List El} (h : PSl w v a) (hb : Below w.heap.size w w') : PSl w' v a := by
  obtain ⟨aj, cj, gj, h1, h2, h3, h4⟩ := h
  exact ⟨aj, cj, gj, h1, h2, Nat.lt_of_lt_of_le h3 hb.size, h4.below hb h3⟩

end Go.Proofs.Ythblgkjmjfhkdaa.Gl
