/- Trees made by inserting; subtrees as rows of neighbours. What Check and Insert answer, on lists. The way to the root as the program goes it; origins and paths as texts. Names, numbers and nodes that only one device may have; a map of the last place finds the only one. -/
import Derived.Test.YthblgkjmjfhkdaaKTr
namespace Go.Proofs.Ythblgkjmjfhkdaa.De

theorem sorted_sub {O : ADev → List (List UInt8)} : ∀ {l m : List ADev}, (l.Pairwise fun a b => cmpN (O a) (O b) < 0) → (m.Pairwise fun a b => cmpN (O a) (O b) < 0) → (∀ e ∈ m, e ∈ l) → m.Sublist l
  | [], m, _, _, h => by
    cases m with
    | nil => exact List.Sublist.refl _
    | cons b m => exact absurd (h b List.mem_cons_self) (by simp)
  | a :: l, [], _, _, _ => List.nil_sublist _
  | a :: l, b :: m, hl, hm, h => by
    rw [List.pairwise_cons] at hl
    have hm' := hm
    rw [List.pairwise_cons] at hm'
    have irr : ∀ e, ¬ cmpN (O e) (O e) < 0 := fun e he => by
      rw [cmpN_self] at he
      omega
    by_cases hab : b = a
    · subst hab
      refine List.Sublist.cons_cons _ (sorted_sub hl.2 hm'.2 fun e he => ?_)
      rcases List.mem_cons.1 (h e (List.mem_cons_of_mem _ he)) with rfl | g
      · exact absurd (hm'.1 e he) (irr e)
      · exact g
    · have hbl : b ∈ l := by
        rcases List.mem_cons.1 (h b List.mem_cons_self) with g | g
        · exact absurd g hab
        · exact g
      refine List.Sublist.cons _ (sorted_sub hl.2 hm fun e he => ?_)
      rcases List.mem_cons.1 (h e he) with rfl | g
      · rcases List.mem_cons.1 he with g | g
        · exact absurd g.symm hab
        · exact absurd (cmpN_trans (hm'.1 e g) (hl.1 b hbl)) (irr b)
      · exact g

section
variable {snd : ADev → Bool} {cl : ADev → ADev → Bool}

/-- Some of a tree's devices, with their parents, are a tree; the others are left, in the tree's order. -/
structure Part (x y left : List ADev) : Prop where
  perm : (y ++ left).Perm x
  asc : y.Pairwise fun a b => cmpN (org x a) (org x b) < 0
  par : ∀ d ∈ y, d.par = 0 ∨ ∃ p ∈ y, p.idx = d.par
  left : left.Sublist x

theorem Part.start (x : List ADev) : Part x [] x := ⟨.refl _, .nil, fun _ h => (by cases h), List.Sublist.refl _⟩
theorem Part.sub {x y left : List ADev} (hx : Valid snd cl x) (h : Part x y left) : y.Sublist x :=
  sorted_sub hx.asc h.asc fun _ he => h.perm.mem_iff.1 (List.mem_append.2 (Or.inl he))
theorem Part.done {x y : List ADev} (hx : Valid snd cl x) (h : Part x y []) : y = x := by
  refine (h.sub hx).eq_of_length ?_
  have := h.perm.length_eq
  rwa [List.append_nil] at this
/-- The first of those that are left has its parent in the part. -/
theorem Part.first {x y left : List ADev} (hx : Valid snd cl x) (h : Part x y left) {d : ADev} (hd : left[0]? = some d) : d.par = 0 ∨ ∃ p ∈ y, p.idx = d.par := by
  have hdl := List.mem_of_getElem? hd
  have hdx := h.left.subset hdl
  rcases hx.tidy.parent hdx with h0 | ⟨p, hp, hpd⟩
  · exact Or.inl h0
  · rcases List.mem_append.1 (h.perm.mem_iff.2 hp) with g | g
    · exact Or.inr ⟨p, g, hpd⟩
    · exfalso
      cases hl : left with
      | nil => rw [hl] at hd; cases hd
      | cons a r =>
        rw [hl] at hd g
        obtain rfl : a = d := by simpa using hd
        have hb := org_before hx.tidy hp hpd
        have hasc : (a :: r).Pairwise fun a b => cmpN (org x a) (org x b) < 0 := by
          rw [← hl]
          exact hx.asc.sublist h.left
        rw [List.pairwise_cons] at hasc
        rcases List.mem_cons.1 g with rfl | g
        · rw [cmpN_self] at hb
          omega
        · have := cmpN_trans hb (hasc.1 p g)
          rw [cmpN_self] at this
          omega

end
end Go.Proofs.Ythblgkjmjfhkdaa.De

namespace Go.Proofs.Ythblgkjmjfhkdaa.De

section
variable (snd : ADev → Bool) (cl : ADev → ADev → Bool)

end

section
variable {snd : ADev → Bool} {cl : ADev → ADev → Bool}

theorem Valid.left {p q : List ADev} (h : Valid snd cl (p ++ q)) : Valid snd cl p := by
  refine h.part (List.sublist_append_left p q) fun d hd => ?_
  have := h.tidy.left
  exact this.parent hd
end
end Go.Proofs.Ythblgkjmjfhkdaa.De

namespace Go.Proofs.Ythblgkjmjfhkdaa.De

section
variable {snd : ADev → Bool} {cl : ADev → ADev → Bool}

end
end Go.Proofs.Ythblgkjmjfhkdaa.De

namespace Go.Proofs.Ythblgkjmjfhkdaa.De

section
variable (nod : ADev → Option (List UInt8)) (ben : List UInt8 → List UInt8 → Bool)
end

section
variable {snd : ADev → Bool} {nod : ADev → Option (List UInt8)} {ben : List UInt8 → List UInt8 → Bool} {l : List ADev}

end
end Go.Proofs.Ythblgkjmjfhkdaa.De
