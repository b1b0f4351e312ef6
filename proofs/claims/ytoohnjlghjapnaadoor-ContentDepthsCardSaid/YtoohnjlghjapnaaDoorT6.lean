/- Contents as trees: what stands in a walk; contents that are put into others. Plain facts: no memory, no seat. -/
import Derived.Test.YtoohnjlghjapnaaDoorT3
namespace Go.Proofs.YtoohnjlghjapnaaDoor

theorem valN_inner {d : Nat} {c x : Con} (h : valN d c = true) (hx : x ∈ c.inner) : c.kind ≠ 0 ∧ ∃ e, d = e + 1 ∧ valN e x = true := by
  match d with
  | 0 =>
    unfold valN at h
    split at h
    · rename_i hk
      rw [none_eq h hk] at hx
      cases hx
    · cases h
  | e + 1 =>
    unfold valN at h
    split at h
    · rename_i hk
      rw [none_eq h hk] at hx
      cases hx
    · rename_i hk
      simp only [Bool.and_eq_true] at h
      exact ⟨hk, e, rfl, List.all_eq_true.1 h.2 x hx⟩
/-- What stands in a valid content's walk is valid, and no deeper. -/
theorem walk_val : ∀ (d : Nat) (c x : Con), valN d c = true → x ∈ c.walk → valN d x = true ∧ x.dep ≤ c.dep
  | d, c, x, h, hx => by
    rw [walk_eq] at hx
    rcases List.mem_cons.1 hx with rfl | hx
    · exact ⟨h, Nat.le_refl _⟩
    · obtain ⟨y, hy, hxy⟩ := List.mem_flatMap.1 hx
      obtain ⟨hk, e, rfl, hv⟩ := valN_inner h hy
      obtain ⟨h1, h2⟩ := walk_val e y x hv hxy
      exact ⟨valN_up e (e + 1) x h1 (by have := valN_dep e x h1; omega), Nat.le_of_lt (Nat.lt_of_le_of_lt h2 (dep_inner hk hy))⟩
termination_by d => d
decreasing_by omega
/-- THOSE INSIDE ARE LESS DEEP. -/
theorem walk_less {d : Nat} {c x : Con} (h : valN d c = true) (hx : x ∈ c.inner.flatMap Con.walk) : x.dep < c.dep := by
  obtain ⟨y, hy, hxy⟩ := List.mem_flatMap.1 hx
  obtain ⟨hk, e, rfl, hv⟩ := valN_inner h hy
  exact Nat.lt_of_le_of_lt (walk_val e y x hv hxy).2 (dep_inner hk hy)
theorem walk_get {d : Nat} {c x : Con} {i : Nat} (h : valN d c = true) (hi : 0 < i) (hx : c.walk[i]? = some x) : x.dep < c.dep := by
  rw [walk_eq] at hx
  match i, hi with
  | i + 1, _ => exact walk_less h (List.mem_of_getElem? (by simpa using hx))
/-- A content in a layer that is opened by a key. -/
def wrap (k : List UInt8) (c : Con) : Con := .mk 3 k [] 0 0 0 [c]
theorem wrap_dep (k : List UInt8) (c : Con) : (wrap k c).dep = c.dep + 1 := by
  rw [dep_eq]
  simp [wrap, Con.kind, Con.inner, depL]
theorem wrap_val {d : Nat} {k : List UInt8} {c : Con} (hk : isID k = true) : valN (d + 1) (wrap k c) = valN d c := by
  simp [valN, wrap, Con.kind, Con.id, Con.inner, hk, headOK, Con.lab, none0, Con.tot, Con.slot, Con.lst]
/-- A VALID CONTENT CAN BE PUT INTO ANOTHER ONE UNLESS IT IS AS DEEP AS IT MAY BE. -/
theorem wrap_iff {m : Nat} {k : List UInt8} {c : Con} (hk : isID k = true) (hc : valN (m + 1) c = true) : valN (m + 1) (wrap k c) = decide (c.dep < m + 1) := by
  rw [wrap_val hk]
  by_cases h : c.dep < m + 1
  · rw [decide_eq_true h]
    exact valN_up (m + 1) m c hc (by omega)
  · rw [decide_eq_false h]
    cases e : valN m c with
    | false => rfl
    | true => exact absurd (valN_dep m c e) (by omega)
end Go.Proofs.YtoohnjlghjapnaaDoor
