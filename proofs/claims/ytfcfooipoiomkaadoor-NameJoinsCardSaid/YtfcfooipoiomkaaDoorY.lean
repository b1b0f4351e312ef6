/- The reference's Clean, in plain words, is the project's. -/
import Derived.Test.YtfcfooipoiomkaaDoorV
namespace Go.Proofs.YtfcfooipoiomkaaDoor

def clean2 (b : UInt8) : UInt8 := if b = 47 then 47 else clean1 LinkSet b
def keep (p : List UInt8) : Bool := !(p == []) && !(p == [46])
def cleaned (p : List UInt8) : List UInt8 := p.map (clean1 LinkSet)

theorem clean1_ne {b : UInt8} : clean1 LinkSet b ≠ 47 := by
  intro h
  have := clean1_mem b
  rw [h] at this
  revert this
  decide
theorem pieces_clean : ∀ l : List UInt8, pieces 47 (l.map clean2) = (pieces 47 l).map cleaned
  | [] => rfl
  | x :: r => by
    have ih := pieces_clean r
    rw [List.map_cons, pieces, pieces, ih]
    by_cases h : x = 47
    · subst h
      rw [if_pos rfl, clean2, if_pos rfl, if_pos rfl]
      rfl
    · rw [if_neg h, clean2, if_neg h, if_neg clean1_ne]
      cases hp : pieces 47 r with
      | nil => exact absurd hp (pieces_ne 47 r)
      | cons p ps => rfl

theorem clean1_46 : clean1 LinkSet 46 = 46 := by decide
theorem cleaned_eq {p : List UInt8} {n : Nat} : cleaned p = List.replicate n 46 ↔ p = List.replicate n 46 := by
  constructor
  · induction p generalizing n with
    | nil => intro h; exact h
    | cons x r ih =>
      intro h
      cases n with
      | zero => cases h
      | succ n =>
        rw [cleaned, List.map_cons, List.replicate_succ] at h
        injection h with h1 h2
        rw [clean1_eq46 h1, ih h2, List.replicate_succ]
  · rintro rfl
    simp [cleaned, clean1_46]
theorem cleaned_nil {p : List UInt8} : cleaned p = [] ↔ p = [] := cleaned_eq (n := 0)
theorem cleaned_dot {p : List UInt8} : cleaned p = [46] ↔ p = [46] := cleaned_eq (n := 1)
theorem cleaned_dots {p : List UInt8} : cleaned p = [46, 46] ↔ p = [46, 46] := cleaned_eq (n := 2)
theorem keep_cleaned (p : List UInt8) : keep (cleaned p) = keep p := by
  unfold keep
  congr 2
  · rw [Bool.eq_iff_iff, beq_iff_eq, beq_iff_eq]; exact cleaned_nil
  · rw [Bool.eq_iff_iff, beq_iff_eq, beq_iff_eq]; exact cleaned_dot
theorem keep_iff {p : List UInt8} : keep p = true ↔ p ≠ [] ∧ p ≠ [46] := by simp [keep]

/-- acc with the components behind it, however long. -/
def ext (acc : List UInt8) (ps : List (List UInt8)) : List UInt8 := ps.foldl (fun a p => if keep p then (if a = [] then [] else a ++ [47]) ++ cleaned p else a) acc
theorem ext_cons (acc p : List UInt8) (ps : List (List UInt8)) : ext acc (p :: ps) = ext (if keep p then (if acc = [] then [] else acc ++ [47]) ++ cleaned p else acc) ps := rfl
theorem ext_le : ∀ (ps : List (List UInt8)) (acc : List UInt8), acc.length ≤ (ext acc ps).length
  | [], _ => Nat.le_refl _
  | p :: ps, acc => by
    rw [ext_cons]
    refine Nat.le_trans ?_ (ext_le ps _)
    split
    · split
      · rename_i h; rw [h]; simp
      · simp
    · exact Nat.le_refl _

theorem foldC_ext : ∀ (ps : List (List UInt8)) (acc : List UInt8), acc.length ≤ 256 →
    foldC ps acc = if [46, 46] ∈ ps then none else if (ext acc ps).length ≤ 256 then some (ext acc ps) else none
  | [], acc, h => by rw [foldC, if_neg (by simp), ext, List.foldl_nil, if_pos h]
  | p :: ps, acc, h => by
    rw [foldC, ext_cons]
    by_cases h2 : p = [46, 46]
    · subst h2
      rw [show stepC acc [46, 46] = none from rfl, if_pos (List.mem_cons_self ..)]
      try rfl
    · have hm : [46, 46] ∈ p :: ps ↔ [46, 46] ∈ ps := by simp [Ne.symm h2]
      simp only [hm]
      by_cases hk : keep p = true
      · obtain ⟨k0, k1⟩ := keep_iff.1 hk
        rw [stepC_else' k0 k1 h2, if_pos hk]
        by_cases hl : ((if acc = [] then [] else acc ++ [47]) ++ p.map (clean1 LinkSet)).length ≤ 256
        · rw [if_pos hl]
          exact foldC_ext ps _ hl
        · rw [if_neg hl]
          have := ext_le ps ((if acc = [] then [] else acc ++ [47]) ++ cleaned p)
          rw [if_neg (show ¬ (ext ((if acc = [] then [] else acc ++ [47]) ++ cleaned p) ps).length ≤ 256 from fun h => hl (Nat.le_trans this h))]
          simp
      · rw [if_neg hk, show stepC acc p = some acc from by
          unfold stepC
          rw [if_pos]
          rw [keep_iff] at hk
          exact Decidable.byContradiction fun h => hk ⟨fun e => h (.inl e), fun e => h (.inr e)⟩]
        exact foldC_ext ps acc h

theorem ext_flat : ∀ (ps : List (List UInt8)) (acc : List UInt8), acc ≠ [] → ext acc ps = acc ++ ((ps.filter keep).map cleaned).flatMap fun q => 47 :: q
  | [], acc, _ => by simp [ext]
  | p :: ps, acc, h => by
    rw [ext_cons]
    by_cases hk : keep p = true
    · rw [if_pos hk, if_neg h, ext_flat ps _ (by simp), List.filter_cons_of_pos hk]
      simp
    · rw [if_neg hk, ext_flat ps acc h, List.filter_cons_of_neg hk]
theorem ext_join : ∀ ps : List (List UInt8), ext [] ps = joinP 47 ((ps.filter keep).map cleaned)
  | [] => rfl
  | p :: ps => by
    rw [ext_cons]
    by_cases hk : keep p = true
    · rw [if_pos hk, if_pos rfl, List.nil_append, List.filter_cons_of_pos hk, List.map_cons, joinP, ext_flat]
      intro e
      exact (keep_iff.1 hk).1 (cleaned_nil.1 e)
    · rw [if_neg hk, ext_join ps, List.filter_cons_of_neg hk]

/-- The reference's words: clean all bytes, cut, leave out, join. -/
def refCleanB (l : List UInt8) : List UInt8 × Bool :=
  if [46, 46] ∈ pieces 47 (l.map clean2) then ([], false)
  else if joinP 47 ((pieces 47 (l.map clean2)).filter keep) = [] ∨ 256 < (joinP 47 ((pieces 47 (l.map clean2)).filter keep)).length then ([], false)
  else (joinP 47 ((pieces 47 (l.map clean2)).filter keep), true)

theorem filter_cleaned (ps : List (List UInt8)) : (ps.map cleaned).filter keep = (ps.filter keep).map cleaned := by
  induction ps with
  | nil => rfl
  | cons p ps ih =>
    rw [List.map_cons]
    by_cases hk : keep p = true
    · rw [List.filter_cons_of_pos (by rw [keep_cleaned]; exact hk), List.filter_cons_of_pos hk, List.map_cons, ih]
    · rw [List.filter_cons_of_neg (by rw [keep_cleaned]; exact hk), List.filter_cons_of_neg hk, ih]
theorem dots_cleaned (ps : List (List UInt8)) : [46, 46] ∈ ps.map cleaned ↔ [46, 46] ∈ ps := by
  rw [List.mem_map]
  constructor
  · rintro ⟨p, hp, he⟩; rw [cleaned_dots] at he; rw [← he]; exact hp
  · intro h; exact ⟨_, h, cleaned_dots.2 rfl⟩

theorem refClean_eq (l : List UInt8) : refCleanB l = cleanB l := by
  unfold refCleanB cleanB
  rw [pieces_clean, filter_cleaned, ← ext_join, foldC_ext _ _ (by simp)]
  simp only [dots_cleaned]
  by_cases h1 : [46, 46] ∈ pieces 47 l
  · rw [if_pos h1, if_pos h1]
  · rw [if_neg h1, if_neg h1]
    generalize ext [] (pieces 47 l) = t
    by_cases h2 : t.length ≤ 256
    · rw [if_pos h2]
      by_cases h3 : t = []
      · rw [if_pos (.inl h3), h3]
        rfl
      · rw [if_neg (by rintro (h | h); exact h3 h; omega)]
        show (t, true) = (t, decide (0 < t.length))
        rw [decide_eq_true (List.length_pos_iff.2 h3)]
    · rw [if_neg h2, if_pos (.inr (by omega))]

theorem flat_len_le (ps : List (List UInt8)) : ((ps.filter keep).flatMap fun q => (47 : UInt8) :: q).length ≤ (ps.flatMap fun q => (47 : UInt8) :: q).length := by
  induction ps with
  | nil => simp
  | cons p ps ih =>
    by_cases hk : keep p = true
    · rw [List.filter_cons_of_pos hk, List.flatMap_cons, List.flatMap_cons, List.length_append, List.length_append]; omega
    · rw [List.filter_cons_of_neg hk, List.flatMap_cons, List.length_append]; omega
theorem joinP_len (ps : List (List UInt8)) : (joinP 47 ps).length ≤ (ps.flatMap fun q => (47 : UInt8) :: q).length := by
  cases ps with
  | nil => simp [joinP]
  | cons p ps => rw [← joinP_flat]; simp
theorem join_kept_len (l : List UInt8) : (joinP 47 ((pieces 47 l).filter keep)).length ≤ l.length + 1 := by
  have h1 := joinP_len ((pieces 47 l).filter keep)
  have h2 := flat_len_le (pieces 47 l)
  rw [pieces_flat_self] at h2
  simp only [List.length_cons] at h2
  omega
theorem lib_join (p : List UInt8) (ps : List (List UInt8)) : Lib.join (p :: ps) [47] = joinP 47 (p :: ps) := by
  rw [Lib.join_cons, joinP, Lib.joinTail, List.flatMap_def]
  rfl
end Go.Proofs.YtfcfooipoiomkaaDoor
