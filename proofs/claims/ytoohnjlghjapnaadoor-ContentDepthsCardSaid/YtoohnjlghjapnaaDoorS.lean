/- One of several texts off the tape. -/
import Derived.Test.YtoohnjlghjapnaaDoorQ
namespace Go.Proofs.YtoohnjlghjapnaaDoor
open Go.RowKit

theorem next_kp {w : World} {tb k : Nat} (n : Nat) (h1 : 1 ≤ n) (h2 : n ≤ 1000000) (hk : k ≤ 1000000) (h : Tape w tb k) :
    Calls Tryd.prog 24 #[.pointer (some ⟨tb, 0, none⟩), .int .i64 n] w fun e w' => ∃ r : Nat, r < n ∧ e = .returned (.int .i64 r) ∧ Tape w' tb (k + 1) ∧ Kp [tb] w w' :=
  (next_any tb k n w h1 h2 hk h).mono fun _ _ ⟨r, hr, he, ht, hg, _⟩ => ⟨r, hr, he, ht, Kp.of_grown hg⟩
theorem Tape.kp {w w' : World} {tb k : Nat} {S : List Nat} (h : Tape w tb k) (hk : Kp S w w') (hs : ∀ x ∈ S, tb < x) : Tape w' tb k :=
  h.keep fun b hb => hk.block b (Nat.lt_of_le_of_lt hb h.lt) fun e => by have := hs b e; omega
set_option maxHeartbeats 1000000 in
set_option maxRecDepth 100000 in
/-- One: one of these texts. -/
theorem one_any {w : World} {tb k sb c : Nat} (xs : List (List UInt8)) (h1 : 1 ≤ xs.length) (h2 : xs.length ≤ 1000000) (hk : k ≤ 1000000) (h : Tape w tb k) (hne : sb ≠ tb) (hsb : sb < w.heap.size)
    (hx : ∀ (j : Nat) x, xs[j]? = some x → w.cell? ⟨sb, j, none⟩ = some (.string (bs x))) :
    Calls Tryd.prog 25 #[.pointer (some ⟨tb, 0, none⟩), .slice (some ⟨sb, 0, none⟩) xs.length c] w fun e w' =>
      ∃ x, x ∈ xs ∧ e = .returned (.string (bs x)) ∧ Tape w' tb (k + 1) ∧ Kp [tb] w w' := by
  have HN := Lib.hid (next_kp xs.length h1 h2 hk h)
  have HX := Lib.hid hx
  have hz : ¬ ((xs.length : Int) = 0) := by omega
  have hz' : ((xs.length : Int) == 0) = false := beq_false_of_ne hz
  clear hx
  go_enter Tryd.func25, Tryd.ntmps25
  go_wp2_with fail
  refine HN.out.mono ?_
  rintro e W ⟨r, hr, rfl, hT, hg⟩
  obtain ⟨x, hx⟩ : ∃ x, xs[r]? = some x := ⟨_, List.getElem?_eq_getElem hr⟩
  have hb := hg.block sb hsb (by simpa using hne)
  have hc : W.cell? ⟨sb, r, none⟩ = some (.string (bs x)) := by
    have := HX.out r x hx
    simp only [World.cell?, hb] at this ⊢
    exact this
  have hri : (r : Int) < (xs.length : Int) := by omega
  have HT := Lib.hid hT
  have HG := Lib.hid hg
  have Hx := Lib.hid hx
  clear hT hg hx h hb
  go_wp2
  go_ret
  exact ⟨x, List.mem_of_getElem? Hx.out, rfl, HT.out, HG.out⟩
/-- .. in a row that was just made. -/
theorem one_new {w : World} {tb k : Nat} (xs : List (List UInt8)) (h1 : 1 ≤ xs.length) (h2 : xs.length ≤ 1000000) (hk : k ≤ 1000000) (h : Tape w tb k) :
    Calls Tryd.prog 25 #[.pointer (some ⟨tb, 0, none⟩), .slice (some ⟨w.heap.size, 0, none⟩) xs.length xs.length] (w.alloc (.cells (xs.map fun x => Value.string (bs x)).toArray 9)) fun e w' =>
      ∃ x, x ∈ xs ∧ e = .returned (.string (bs x)) ∧ Tape w' tb (k + 1) ∧ Kp [tb] w w' := by
  have hal : Kp [] w (w.alloc (.cells (xs.map fun x => Value.string (bs x)).toArray 9)) := (Kp.refl [] w).alloc _
  have hlt := h.lt
  refine (one_any xs h1 h2 hk (h.kp hal (by simp)) (by omega) (by rw [al_size]; omega) (fun j x hx => ?_)).mono fun e w' ⟨x, hx, he, ht, hk2⟩ => ⟨x, hx, he, ht, (hal.mono (by simp)).trans hk2⟩
  rw [cell_of_row _ _ j _ _ _ (al_new w _), List.getElem?_toArray, List.getElem?_map, hx]
  rfl
/-- How many numbers a content of some depth may take off the tape. -/
def tapeN : Nat → Nat
  | 0 => 2
  | d + 1 => 10 + 3 * tapeN d
theorem tapeN_mono : ∀ d, tapeN d ≤ tapeN (d + 1)
  | 0 => by decide
  | d + 1 => by have := tapeN_mono d; unfold tapeN; omega
theorem tapeN5 : ∀ d, d ≤ 5 → tapeN d ≤ 2000 := fun d h => by
  have : d = 0 ∨ d = 1 ∨ d = 2 ∨ d = 3 ∨ d = 4 ∨ d = 5 := by omega
  rcases this with rfl | rfl | rfl | rfl | rfl | rfl <;> decide +kernel
end Go.Proofs.YtoohnjlghjapnaaDoor
