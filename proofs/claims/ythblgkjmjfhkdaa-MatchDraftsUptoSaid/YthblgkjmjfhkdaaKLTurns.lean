/- MatchTurns: of a match and the one with the other op just one holds. -/
import Derived.Test.YthblgkjmjfhkdaaKWd
import Derived.Test.YthblgkjmjfhkdaaKGsO
import Derived.Test.YthblgkjmjfhkdaaKKn
namespace Go.Proofs.Ythblgkjmjfhkdaa
open Go.RowKit

theorem tape_new {w : World} {lv : Value} (hi : Ints w w.heap.size lv) : Tp (w.alloc (.cells #[lv, .int .i64 0] 31)) w.heap.size 0 :=
  ⟨lv, heap_alloc_last _ _, hi.keep fun b hb => by have := ((Kp.refl [] w).alloc (.cells #[lv, .int .i64 0] 31)).block b hb (by simp); exact this⟩
theorem mB {op : Int} (ho : op = 1 ∨ op = 2) : matchB op = true ∧ matchB (3 - op) = true := by
  rcases ho with rfl | rfl <;> exact ⟨rfl, rfl⟩
/-- The rows of a draft do not lie in the tape. -/
theorem has_tape {W W' : World} {tb k : Nat} {v : Value} {l : List De.Atr} (h : De.Has W v l) (hT : Tp W tb k) (hk : Kp [tb] W W') : De.Has W' v l := by
  rcases h with ⟨a, c, rfl, rfl⟩ | ⟨b, o, c, rfl, hb, hr⟩
  · exact .inl ⟨a, c, rfl, rfl⟩
  · cases l with
    | nil => exact .inl ⟨_, c, rfl, rfl⟩
    | cons x l =>
      refine hasT (.inr ⟨b, o, c, rfl, hb, hr⟩) hk fun b' hb' e => ?_
      cases hb'
      subst e
      obtain ⟨lv, hh, hi⟩ := hT
      have h1 := (hr 0 x rfl).1
      rw [cell_of_row _ _ _ _ _ _ hh] at h1
      have ho : o = 0 ∨ o = 1 ∨ 2 ≤ o := by omega
      rcases ho with rfl | rfl | ho
      · obtain ⟨a', n', c', hlv⟩ : ∃ a n c, lv = .slice a n c := by
          rcases hi with ⟨a, c, e⟩ | ⟨b, o, n, c, e, _⟩
          · exact ⟨_, _, _, e⟩
          · exact ⟨_, _, _, e⟩
        subst hlv
        cases h1
      · cases h1
      · rw [Array.getElem?_eq_none (by simp; omega)] at h1
        cases h1
theorem tags_tape {W W' : World} {tb k : Nat} {v : Value} {l : List (List UInt8)} (h : stT.Has W v l) (hT : Tp W tb k) (hk : Kp [tb] W W') : stT.Has W' v l := by
  rcases h with ⟨a, c, rfl, rfl⟩ | ⟨b, o, c, rfl, hb, hr⟩
  · exact .inl ⟨a, c, rfl, rfl⟩
  · cases l with
    | nil => exact .inl ⟨_, c, rfl, rfl⟩
    | cons x l =>
      refine RT.Has.kp (r := stT) (.inr ⟨b, o, c, rfl, hb, hr⟩) hk fun b' hb' e => ?_
      cases hb'
      obtain rfl : b = tb := by simpa using e
      obtain ⟨lv, hh, hi⟩ := hT
      have h1 := hr 0 x rfl 0 (.string (bs x)) rfl
      rw [cell_of_row _ _ _ _ _ _ hh] at h1
      have ho : o = 0 ∨ o = 1 ∨ 2 ≤ o := by omega
      rcases ho with rfl | rfl | ho
      · obtain ⟨a', n', c', hlv⟩ : ∃ a n c, lv = .slice a n c := by
          rcases hi with ⟨a, c, e⟩ | ⟨b, o, n, c, e, _⟩
          · exact ⟨_, _, _, e⟩
          · exact ⟨_, _, _, e⟩
        subst hlv
        cases h1
      · cases h1
      · rw [Array.getElem?_eq_none (by simp; omega)] at h1
        cases h1
end Go.Proofs.Ythblgkjmjfhkdaa
