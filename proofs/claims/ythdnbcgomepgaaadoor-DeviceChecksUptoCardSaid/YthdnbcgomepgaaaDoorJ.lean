/- What the walks of the statements share: the tape's beginning, one of four names, lists that stay. -/
import Derived.Test.YthdnbcgomepgaaaDoorI
namespace Go.Proofs.YthdnbcgomepgaaaDoor
open Go.RowKit

def N4 : List ByteArray := [⟨#[97]⟩, ⟨#[98]⟩, ⟨#[99, 111, 110, 116, 101, 110, 116]⟩, ⟨#[121]⟩]
theorem oneN4 (tb k : Nat) (w : World) (hk : k ≤ 1000000) (h : Tape w tb k) :
    Calls Tryd.prog 16 #[.pointer (some ⟨tb, 0, none⟩), .slice (some ⟨w.heap.size, 0, none⟩) 4 4] (w.alloc (.cells #[.string ⟨#[97]⟩, .string ⟨#[98]⟩, .string ⟨#[99, 111, 110, 116, 101, 110, 116]⟩, .string ⟨#[121]⟩] 9)) fun e w' =>
      ∃ x, x ∈ N4 ∧ e = .returned (.string x) ∧ Tape w' tb (k + 1) ∧ w.grownBy w' (some tb) := by
  have ha : ((N4 : List ByteArray).map Value.string).toArray = #[.string ⟨#[97]⟩, .string ⟨#[98]⟩, .string ⟨#[99, 111, 110, 116, 101, 110, 116]⟩, .string ⟨#[121]⟩] := rfl
  have hn : N4.length = 4 := rfl
  have hlt := h.lt
  have h1 := one_any tb k w.heap.size 4 N4 (w.alloc (.cells (N4.map Value.string).toArray 9)) (by rw [hn]; omega) (by rw [hn]; omega) hk (h.below ((Below.refl _ w).alloc (Nat.le_refl _) _)) (by omega) (strs_new w N4 9)
  rw [ha, hn] at h1
  exact h1.mono fun e w' ⟨x, hx, he, hT, hg, _⟩ => ⟨x, hx, he, hT, (World.grownBy_alloc _ _ _).trans hg⟩

/-- A tape that begins in a new block. -/
theorem tape_new (w : World) (lv : Value) (h : Ints w w.heap.size lv) : Tape (w.alloc (.cells #[lv, .int .i64 0] 30)) w.heap.size 0 :=
  ⟨lv, heap_last w _, h.keep fun b hb => Below.heap_alloc w _ b hb⟩
theorem below_tape {B : Nat} {a w w' : World} {tb : Nat} (h : Below B a w) (hB : B ≤ w.heap.size) (ht : B ≤ tb) (hg : w.grownBy w' (some tb)) : Below B a w' := h.grown hg hB fun k hk => by cases hk; exact ht
theorem Owns.grown {w w' : World} {B : Nat} {v : Value} {l : List Atr} (h : Owns w B v l) (hg : w.grownBy w' none) : Owns w' B v l := h.keep fun k hk _ => hg.block k hk (by simp)
end Go.Proofs.YthdnbcgomepgaaaDoor
