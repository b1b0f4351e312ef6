/- The order of paths, byte by byte: plain facts. -/
import Derived.Test.YtfcfooipoiomkaaDoorF
namespace Go.Proofs.YtfcfooipoiomkaaDoor

theorem rankI_bound (x : UInt8) : -1 ≤ rankI x ∧ rankI x ≤ 255 := by
  unfold rankI
  have := UInt8.toNat_lt x
  split <;> omega
theorem rankI_inj {x y : UInt8} (h : rankI x = rankI y) : x = y := by
  unfold rankI at h
  by_cases hx : x = 47
  · by_cases hy : y = 47
    · rw [hx, hy]
    · rw [if_pos hx, if_neg hy] at h; omega
  · by_cases hy : y = 47
    · rw [if_neg hx, if_pos hy] at h; omega
    · rw [if_neg hx, if_neg hy] at h
      exact UInt8.toNat_inj.1 (by omega)
theorem cmpI_neg (x y : Int) : Lib.compareInt y x = -Lib.compareInt x y := by
  unfold Lib.compareInt
  split <;> split <;> (try split) <;> (try split) <;> omega
theorem cmpI_bound (x y : Int) : -1 ≤ Lib.compareInt x y ∧ Lib.compareInt x y ≤ 1 := by
  unfold Lib.compareInt
  split <;> (try split) <;> omega
theorem cmpI_zero {x y : Int} (h : Lib.compareInt x y = 0) : x = y := by
  unfold Lib.compareInt at h
  split at h
  · omega
  · split at h <;> omega
theorem cmpI_le {x y : Int} : Lib.compareInt x y ≤ 0 ↔ x ≤ y := by
  unfold Lib.compareInt
  split
  · omega
  · split <;> omega
theorem cmpI_lt {x y : Int} : Lib.compareInt x y < 0 ↔ x < y := by
  unfold Lib.compareInt
  split
  · omega
  · split <;> omega

theorem cmpL_neg : ∀ a b, cmpL b a = -cmpL a b
  | [], [] => rfl
  | [], _ :: _ => rfl
  | _ :: _, [] => rfl
  | x :: a, y :: b => by
    rw [cmpL, cmpL]
    by_cases h : x = y
    · rw [if_pos h, if_pos h.symm, cmpL_neg a b]
    · rw [if_neg h, if_neg fun e => h e.symm, cmpI_neg]
theorem cmpL_bound : ∀ a b, -1 ≤ cmpL a b ∧ cmpL a b ≤ 1
  | [], [] => by simp [cmpL]
  | [], _ :: _ => by simp [cmpL]
  | _ :: _, [] => by simp [cmpL]
  | x :: a, y :: b => by
    rw [cmpL]
    split
    · exact cmpL_bound a b
    · exact cmpI_bound _ _
theorem cmpL_zero : ∀ {a b}, cmpL a b = 0 → a = b
  | [], [], _ => rfl
  | [], _ :: _, h => by simp [cmpL] at h
  | _ :: _, [], h => by simp [cmpL] at h
  | x :: a, y :: b, h => by
    rw [cmpL] at h
    split at h
    · rename_i e; rw [e, cmpL_zero h]
    · rename_i e; exact absurd (rankI_inj (cmpI_zero h)) e
theorem cmpL_self : ∀ a, cmpL a a = 0
  | [] => rfl
  | x :: a => by rw [cmpL, if_pos rfl, cmpL_self a]
theorem cmpL_trans : ∀ {a b c}, cmpL a b ≤ 0 → cmpL b c ≤ 0 → cmpL a c ≤ 0
  | [], _, [], _, _ => by simp [cmpL]
  | [], _, _ :: _, _, _ => by simp [cmpL]
  | x :: a, [], _, h, _ => by simp [cmpL] at h
  | x :: a, y :: b, [], _, h => by simp [cmpL] at h
  | x :: a, y :: b, z :: c, h1, h2 => by
    rw [cmpL] at h1 h2 ⊢
    by_cases e1 : x = y
    · subst e1
      rw [if_pos rfl] at h1
      by_cases e2 : x = z
      · rw [if_pos e2] at h2 ⊢; exact cmpL_trans h1 h2
      · rw [if_neg e2] at h2 ⊢; exact h2
    · rw [if_neg e1] at h1
      by_cases e2 : y = z
      · subst e2; rw [if_neg e1]; exact h1
      · rw [if_neg e2] at h2
        rw [cmpI_le] at h1 h2
        by_cases e3 : x = z
        · subst e3
          exact absurd (rankI_inj (Int.le_antisymm h1 h2)) e1
        · rw [if_neg e3, cmpI_le]; omega
theorem cmpL_ltrans {a b c} (h1 : cmpL a b < 0) (h2 : cmpL b c < 0) : cmpL a c < 0 := by
  have h3 := cmpL_trans (a := a) (b := b) (c := c) (by omega) (by omega)
  have h4 := cmpL_bound a c
  rcases Int.lt_or_eq_of_le h3 with h | h
  · exact h
  · have := cmpL_zero h
    subst this
    have := cmpL_neg a b
    omega
/-- What stands between a path and one below it lies below it, too. -/
theorem cmpL_between : ∀ {a b c : List UInt8}, benB a c = true → cmpL a b < 0 → cmpL b c ≤ 0 → benB a b = true
  | [], b, c, h, h1, h2 => by
    obtain ⟨r, rfl⟩ := (benB_iff _ _).1 h
    cases b with
    | nil => simp [cmpL] at h1
    | cons y b =>
      rw [List.nil_append, cmpL] at h2
      by_cases e : y = 47
      · rw [benB_iff]; exact ⟨b, by rw [e]; rfl⟩
      · rw [if_neg e, cmpI_le] at h2
        have h3 := rankI_bound y
        have h4 : rankI 47 = -1 := by unfold rankI; simp
        exact absurd (rankI_inj (show rankI y = rankI 47 by omega)) e
  | x :: a, b, c, h, h1, h2 => by
    obtain ⟨r, rfl⟩ := (benB_iff _ _).1 h
    cases b with
    | nil => simp [cmpL] at h1
    | cons y b =>
      rw [cmpL] at h1
      rw [List.cons_append, cmpL] at h2
      by_cases e : x = y
      · subst e
        rw [if_pos rfl] at h1 h2
        have := cmpL_between (a := a) (b := b) (c := a ++ 47 :: r) ((benB_iff _ _).2 ⟨r, rfl⟩) h1 h2
        obtain ⟨q, hq⟩ := (benB_iff _ _).1 this
        rw [benB_iff]
        exact ⟨q, by rw [hq]; rfl⟩
      · rw [if_neg e, cmpI_lt] at h1
        rw [if_neg fun e' => e e'.symm, cmpI_le] at h2
        omega
end Go.Proofs.YtfcfooipoiomkaaDoor
