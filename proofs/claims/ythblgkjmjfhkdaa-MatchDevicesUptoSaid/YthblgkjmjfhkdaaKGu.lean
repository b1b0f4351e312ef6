/- What the append of rows keeps. -/
import Derived.Test.YthblgkjmjfhkdaaKGs
namespace Go.Proofs.Ythblgkjmjfhkdaa
open Go.RowKit
theorem oneB {w : World} {tb k sb : Nat} (xs : List (List UInt8)) (n : Nat) (hn : xs.length = n) (h1 : 1 ≤ xs.length) (h2 : xs.length ≤ 1000000) (hx : ∀ x ∈ xs, x.length ≤ 300) (hk : k ≤ 1000000) (h : Tp w tb k) (hne : tb < sb) {A : Array Value} (hb : w.heap[sb]? = some (.cells A 9 (0, 0))) (hA : A = (xs.map fun x => Value.string (bs x)).toArray) :
    Calls Try.prog 22 #[.pointer (some ⟨tb, 0, none⟩), .slice (some ⟨sb, 0, none⟩) n n] w fun e w' => ∃ x : List UInt8, x.length ≤ 300 ∧ e = .returned (.string (bs x)) ∧ Tp w' tb (k + 1) ∧ Kp [tb] w w' := by
  subst hA
  subst hn
  refine (one_any xs h1 h2 hk h (by omega) (block_lt hb) fun j x hj => ?_).mono fun e w' ⟨x, hx', he, ht, hkp⟩ => ⟨x, hx x hx', he, ht, hkp⟩
  rw [cell_of_row _ _ _ _ _ _ hb]
  simp [hj]
theorem Tq.kp0 {w w' : World} {tb n : Nat} (h : Tq w tb n) (hk : Kp [] w w') : Tq w' tb n := by
  obtain ⟨k, hk1, h⟩ := h
  exact ⟨k, hk1, h.kp hk (by simp)⟩
theorem RT.Row.all {α : Type} {r : RT α} {w : World} {b : Nat} : ∀ {l : List α} {o : Nat}, r.Row w b o l → ∀ (j : Nat) u, (r.cells l)[j]? = some u → w.cell? ⟨b, o + j, none⟩ = some u
  | [], o, _, j, u, hj => by simp [RT.cells] at hj
  | x :: l, o, h, j, u, hj => by
    rw [RT.cells_cons] at hj
    by_cases hl : j < r.sz
    · rw [List.getElem?_append_left (by rw [r.len]; exact hl)] at hj
      have := h 0 x rfl j u hj
      simpa using this
    · rw [List.getElem?_append_right (by rw [r.len]; omega), r.len] at hj
      have h2 : r.Row w b (o + r.sz) l := fun q y hy m v hv => by
        have := h (q + 1) y (by simpa using hy) m v hv
        rw [Nat.add_mul, Nat.one_mul] at this
        rw [show o + r.sz + q * r.sz + m = o + (q * r.sz + r.sz) + m by omega]
        exact this
      have := RT.Row.all h2 (j - r.sz) u hj
      rwa [show o + r.sz + (j - r.sz) = o + j by omega] at this
/-- A slice that may be nil, or a row. -/
def RT.Any {α : Type} (r : RT α) (w : World) (v : Value) (l : List α) : Prop := (v = .slice none 0 0 ∧ l = []) ∨ ∃ b p c, v = .slice (some ⟨b, p, none⟩) l.length c ∧ r.Row w b p l
theorem RT.Own.any {α : Type} {r : RT α} {w : World} {B : Nat} {v : Value} {l : List α} (h : r.Own w B v l) : r.Any w v l := by
  rcases h.form2 with ⟨h1, h2⟩ | ⟨g, cap, h1, _, _, _, _, h2⟩
  · exact .inl ⟨h1, h2⟩
  · exact .inr ⟨g, 0, cap, h1, h2⟩
end Go.Proofs.Ythblgkjmjfhkdaa
