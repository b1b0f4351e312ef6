/- The logical lines of a text, on lists of bytes. Plain facts: no memory, no seat. -/
import Derived.Lib.Hide
namespace Go.Proofs.YtccmlodocfpbhaaDoor

/-- The pieces between line feeds. -/
def piecesL : List UInt8 → List (List UInt8)
  | [] => [[]]
  | b :: s => if b = 10 then [] :: piecesL s else match piecesL s with | [] => [[b]] | p :: l => (b :: p) :: l
theorem piecesL_ne : ∀ s, piecesL s ≠ []
  | [] => by simp [piecesL]
  | b :: s => by
    unfold piecesL
    split
    · simp
    · split <;> simp
theorem piecesL_feed (s : List UInt8) : piecesL (10 :: s) = [] :: piecesL s := by rw [piecesL, if_pos rfl]
theorem piecesL_cons {c : UInt8} (hc : c ≠ 10) {s p : List UInt8} {l : List (List UInt8)} (h : piecesL s = p :: l) : piecesL (c :: s) = (c :: p) :: l := by rw [piecesL, if_neg hc, h]
theorem piecesL_app : ∀ a b : List UInt8, piecesL (a ++ 10 :: b) = piecesL a ++ piecesL b
  | [], b => by rw [List.nil_append, piecesL_feed]; rfl
  | c :: a, b => by
    have ih := piecesL_app a b
    rw [List.cons_append]
    by_cases hc : c = 10
    · rw [hc, piecesL_feed, piecesL_feed, ih]
      rfl
    · cases h : piecesL a with
      | nil => exact absurd h (piecesL_ne a)
      | cons p l =>
        rw [h, List.cons_append] at ih
        rw [piecesL_cons hc h, piecesL_cons hc ih]
        rfl
/-- The physical lines. -/
def physL (s : List UInt8) : List (List UInt8) := if (piecesL s).getLast? = some [] then (piecesL s).dropLast else piecesL s
theorem physL_feed (a : List UInt8) : physL (a ++ [10]) = piecesL a := by
  unfold physL
  rw [show a ++ [10] = a ++ 10 :: [] from rfl, piecesL_app]
  simp [piecesL]
theorem physL_app (a b : List UInt8) : physL (a ++ 10 :: b) = piecesL a ++ physL b := by
  unfold physL
  have e : (piecesL a ++ piecesL b).getLast? = (piecesL b).getLast? := by
    rw [List.getLast?_append]
    cases h : (piecesL b).getLast? with
    | none => exact absurd (List.getLast?_eq_none_iff.1 h) (piecesL_ne b)
    | some x => rfl
  rw [piecesL_app, e, List.dropLast_append_of_ne_nil (piecesL_ne b)]
  split <;> rfl
def endsB (a : List UInt8) : Bool := a.getLast? == some 92
/-- A line that begins with the physical line a: its text, and the physical lines behind it. -/
def contL : List UInt8 → List (List UInt8) → List UInt8 × List (List UInt8)
  | a, [] => (if endsB a then a.dropLast else a, [])
  | a, b :: r => if endsB a then (a.dropLast ++ (contL b r).1, (contL b r).2) else (a, b :: r)
theorem contL_len : ∀ (a : List UInt8) (r : List (List UInt8)), (contL a r).2.length ≤ r.length
  | a, [] => by simp [contL]
  | a, b :: r => by
    have := contL_len b r
    unfold contL
    split
    · simp only [List.length_cons]
      omega
    · exact Nat.le_refl _
def blankL (t : List UInt8) : Bool :=
  match t.dropWhile fun b => b == 32 || b == 9 with
  | [] => true
  | b :: _ => b == 35
/-- The logical lines that are not blank, the first physical line being number i. -/
def linesN (i : Nat) : List (List UInt8) → List (Nat × List UInt8)
  | [] => []
  | a :: r => (if blankL (contL a r).1 then [] else [(i, (contL a r).1)]) ++ linesN (i + 1 + (r.length - (contL a r).2.length)) (contL a r).2
termination_by l => l.length
decreasing_by
  have := contL_len a r
  simp only [List.length_cons]
  omega
theorem linesN_cons (i : Nat) (a : List UInt8) (r : List (List UInt8)) : linesN i (a :: r) = (if blankL (contL a r).1 then [] else [(i, (contL a r).1)]) ++ linesN (i + 1 + (r.length - (contL a r).2.length)) (contL a r).2 := by
  rw [linesN]
/-- The numbers move together. -/
theorem linesN_shift (n : Nat) : ∀ (m i : Nat) (l : List (List UInt8)), l.length ≤ m → linesN (i + n) l = (linesN i l).map fun x => (x.1 + n, x.2)
  | _, i, [], _ => by simp [linesN]
  | m + 1, i, a :: r, h => by
    have hl := contL_len a r
    have ih := linesN_shift n m (i + 1 + (r.length - (contL a r).2.length)) (contL a r).2 (by simp at h; omega)
    rw [linesN_cons, linesN_cons, show i + n + 1 + (r.length - (contL a r).2.length) = i + 1 + (r.length - (contL a r).2.length) + n by omega, ih, List.map_append]
    split <;> rfl
/-- Where the last physical line of the first part is not continued, a line of it does not reach into the second part. -/
theorem contL_app : ∀ (a : List UInt8) (r l : List (List UInt8)), endsB ((a :: r).getLast (by simp)) = false → contL a (r ++ l) = ((contL a r).1, (contL a r).2 ++ l) ∧ ∀ h : (contL a r).2 ≠ [], endsB ((contL a r).2.getLast h) = false
  | a, [], l, h => by
    simp only [List.getLast_singleton] at h
    cases l with
    | nil => simp [contL, h]
    | cons b l => simp [contL, h]
  | a, b :: r, l, h => by
    have h' : endsB ((b :: r).getLast (by simp)) = false := by rwa [List.getLast_cons (by simp)] at h
    obtain ⟨h1, h2⟩ := contL_app b r l h'
    rw [List.cons_append]
    unfold contL
    split
    · rw [h1]
      exact ⟨rfl, h2⟩
    · exact ⟨rfl, fun _ => h'⟩
theorem linesN_app : ∀ (m i : Nat) (p l : List (List UInt8)), p.length ≤ m → (∀ h : p ≠ [], endsB (p.getLast h) = false) → linesN i (p ++ l) = linesN i p ++ linesN (i + p.length) l
  | _, i, [], l, _, _ => by simp [linesN]
  | m + 1, i, a :: r, l, hm, h => by
    obtain ⟨h1, h2⟩ := contL_app a r l (h (by simp))
    have hl := contL_len a r
    have ih := linesN_app m (i + 1 + (r.length - (contL a r).2.length)) (contL a r).2 l (by simp at hm; omega) h2
    rw [List.cons_append, linesN_cons, linesN_cons, h1]
    simp only
    rw [show (r ++ l).length - ((contL a r).2 ++ l).length = r.length - (contL a r).2.length by simp only [List.length_append]; omega, ih, List.append_assoc]
    rw [show i + 1 + (r.length - (contL a r).2.length) + (contL a r).2.length = i + (a :: r).length by simp only [List.length_cons]; omega]
/-- The logical lines of a text. -/
def linesL (s : List UInt8) : List (Nat × List UInt8) := linesN 1 (physL s)
theorem endsB_cons (c : UInt8) {p : List UInt8} (h : p ≠ []) : endsB (c :: p) = endsB p := by
  cases p with
  | nil => exact absurd rfl h
  | cons q p => simp only [endsB, List.getLast?_cons_cons]
theorem piecesL_end' : ∀ a : List UInt8, a.getLast? ≠ some 92 → ∀ p, (piecesL a).getLast? = some p → endsB p = false
  | [], _, p, h => by
    simp [piecesL] at h
    rw [h]
    rfl
  | [c], ha, p, h => by
    by_cases hc : c = 10
    · subst hc
      simp [piecesL] at h
      rw [h]
      rfl
    · rw [piecesL_cons hc (show piecesL [] = [] :: [] from rfl)] at h
      simp at h
      rw [← h]
      simp only [List.getLast?_singleton, ne_eq, Option.some.injEq] at ha
      simp [endsB, ha]
  | c :: d :: a, ha, p, h => by
    rw [List.getLast?_cons_cons] at ha
    have ih := piecesL_end' (d :: a) ha
    by_cases hc : c = 10
    · rw [hc, piecesL_feed] at h
      cases hp : piecesL (d :: a) with
      | nil => exact absurd hp (piecesL_ne _)
      | cons q l =>
        rw [hp, List.getLast?_cons_cons] at h
        exact ih p (by rw [hp]; exact h)
    · cases hp : piecesL (d :: a) with
      | nil => exact absurd hp (piecesL_ne _)
      | cons q l =>
        rw [piecesL_cons hc hp] at h
        cases l with
        | nil =>
          simp only [List.getLast?_singleton, Option.some.injEq] at h
          have hq : q ≠ [] := by
            rintro rfl
            by_cases hd : d = 10
            · rw [hd, piecesL_feed] at hp
              simp at hp
              exact piecesL_ne a hp
            · cases hp2 : piecesL a with
              | nil => exact absurd hp2 (piecesL_ne a)
              | cons q2 l2 => rw [piecesL_cons hd hp2] at hp; simp at hp
          rw [← h, endsB_cons c hq]
          exact ih q (by rw [hp]; rfl)
        | cons q2 l =>
          rw [List.getLast?_cons_cons] at h
          exact ih p (by rw [hp, List.getLast?_cons_cons]; exact h)
theorem piecesL_end {a : List UInt8} (ha : a.getLast? ≠ some 92) (h : piecesL a ≠ []) : endsB ((piecesL a).getLast h) = false :=
  piecesL_end' a ha _ (List.getLast?_eq_some_getLast h)
theorem piecesL_count : ∀ a : List UInt8, (piecesL a).length = a.count 10 + 1
  | [] => rfl
  | c :: a => by
    have ih := piecesL_count a
    unfold piecesL
    split
    · rename_i hc
      rw [List.length_cons, ih, hc, List.count_cons_self]
    · rename_i hc
      rw [List.count_cons_of_ne hc]
      cases hp : piecesL a with
      | nil => exact absurd hp (piecesL_ne a)
      | cons p l => rw [hp] at ih; simpa using ih
/-- THE LINES OF TWO TEXTS, THE FIRST OF WHICH ENDS WITH A LINE FEED THAT IS NOT CONTINUED. -/
theorem linesL_join {a b : List UInt8} (ha : a.getLast? ≠ some 92) : linesL (a ++ 10 :: b) = linesL (a ++ [10]) ++ (linesL b).map fun x => (x.1 + (a.count 10 + 1), x.2) := by
  unfold linesL
  rw [physL_app, physL_feed, linesN_app _ _ _ _ (Nat.le_refl _) (fun h => piecesL_end ha h), piecesL_count, linesN_shift _ _ 1 _ (Nat.le_refl _)]
end Go.Proofs.YtccmlodocfpbhaaDoor
