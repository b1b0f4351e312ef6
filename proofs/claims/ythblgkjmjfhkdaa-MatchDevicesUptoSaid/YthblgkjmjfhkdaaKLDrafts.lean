/- MatchDrafts: a term holds for an action and a draft as the reference says. -/
import Derived.Test.YthblgkjmjfhkdaaKLTurns
import Derived.Test.YthblgkjmjfhkdaaKTe
namespace Go.Proofs.Ythblgkjmjfhkdaa
open Go.RowKit

theorem tape_new2 {w : World} {lv : Value} {B : Nat} (hi : Ints w B lv) (hB : B ≤ w.heap.size) : Tp (w.alloc (.cells #[lv, .int .i64 0] 31)) w.heap.size 0 :=
  tape_new (by
    rcases hi with h | ⟨b, o, n, c, e, hb, hr⟩
    · exact .inl h
    · exact .inr ⟨b, o, n, c, e, by omega, hr⟩)
theorem DrIn.tape {W W' : World} {tb k : Nat} {d : Dra} {pl : List De.Atr} {tl : List (List UInt8)} (h : DrIn W d pl tl) (hT : Tp W tb k) (hk : Kp [tb] W W') : DrIn W' d pl tl := ⟨has_tape h.p hT hk, tags_tape h.t hT hk⟩
/-- The three terms, in a block of their own. -/
def TR (W : World) (g : Nat) (x : Nat → Tm) : Prop := ∀ i, i < 3 → W.cell? ⟨g, i * 4, none⟩ = some (.int .i64 (x i).key) ∧ W.cell? ⟨g, i * 4 + 1, none⟩ = some (.string (bs (x i).name)) ∧ W.cell? ⟨g, i * 4 + 2, none⟩ = some (.int .i64 (x i).op) ∧ W.cell? ⟨g, i * 4 + 3, none⟩ = some (.string (bs (x i).val))
def pk (x0 x1 x2 : Tm) : Nat → Tm | 0 => x0 | 1 => x1 | _ => x2
theorem TR.new {W : World} {g : Nat} {x0 x1 x2 : Tm} (h : W.heap[g]? = some (.cells #[.int .i64 x0.key, .string (bs x0.name), .int .i64 x0.op, .string (bs x0.val), .int .i64 x1.key, .string (bs x1.name), .int .i64 x1.op, .string (bs x1.val), .int .i64 x2.key, .string (bs x2.name), .int .i64 x2.op, .string (bs x2.val)] 23 (0, 0))) : TR W g (pk x0 x1 x2) := fun i hi => by
  have hc : i = 0 ∨ i = 1 ∨ i = 2 := by omega
  rcases hc with rfl | rfl | rfl <;> (refine ⟨?_, ?_, ?_, ?_⟩ <;> (rw [cell_of_row _ _ _ _ _ _ h]; rfl))
theorem TR.kp0 {W W' : World} {g : Nat} {x : Nat → Tm} (h : TR W g x) (hk : Kp [] W W') : TR W' g x := fun i hi => ⟨cell_kp hk (h i hi).1, cell_kp hk (h i hi).2.1, cell_kp hk (h i hi).2.2.1, cell_kp hk (h i hi).2.2.2⟩
end Go.Proofs.Ythblgkjmjfhkdaa
