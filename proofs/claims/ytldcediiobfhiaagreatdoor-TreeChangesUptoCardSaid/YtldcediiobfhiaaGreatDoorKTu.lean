/- Trees made by inserting; subtrees as rows of neighbours. What Check and Insert answer, on lists. The way to the root as the program goes it; origins and paths as texts. Names, numbers and nodes that only one device may have; a map of the last place finds the only one. -/
import Derived.Test.YtldcediiobfhiaaGreatDoorKTr
namespace Go.Proofs.YtldcediiobfhiaaGreatDoor.De
theorem sorted_sub {O : ADev → List (List UInt8)} : ∀ {l m : List ADev}, (l.Pairwise fun a b => cmpN (O a) (O b) < 0) → (m.Pairwise fun a b => cmpN (O a) (O b) < 0) → (∀ e ∈ m, e ∈ l) → m.Sublist l
 | [], m, _, _, h => by
  cases m with
  | nil => exact List.Sublist.refl _
  | cons b m => exact absurd (h b List.mem_cons_self) (by simp)
 | a :: l, [], _, _, _ => List.nil_sublist _
 | a :: l, b :: m, hl, hm, h => by
  rw [List.pairwise_cons] at hl
  have hm' := hm
  rw [List.pairwise_cons] at hm'
  have irr : ∀ e, ¬ cmpN (O e) (O e) < 0 := fun e he => by
   rw [cmpN_self] at he
   omega
  by_cases hab : b = a
  ·subst hab
   refine List.Sublist.cons_cons _ (sorted_sub hl.2 hm'.2 fun e he => ?_)
   rcases List.mem_cons.1 (h e (List.mem_cons_of_mem _ he)) with rfl | g
   ·exact absurd (hm'.1 e he) (irr e)
   ·exact g
  ·have hbl : b ∈ l := by
    rcases List.mem_cons.1 (h b List.mem_cons_self) with g | g
    ·exact absurd g hab
    ·exact g
   refine List.Sublist.cons _ (sorted_sub hl.2 hm fun e he => ?_)
   rcases List.mem_cons.1 (h e he) with rfl | g
   ·rcases List.mem_cons.1 he with g | g
    ·exact absurd g.symm hab
    ·exact absurd (cmpN_trans (hm'.1 e g) (hl.1 b hbl)) (irr b)
   ·exact g
section
variable {snd : ADev → Bool} {cl : ADev → ADev → Bool}
/-- Some of a tree's devices, with their parents, are a tree; the others are left, in the tree's order. -/
structure Part (x y left : List ADev) : Prop where
 perm : (y ++ left).Perm x
 asc : y.Pairwise fun a b => cmpN (org x a) (org x b) < 0
 par : ∀ d ∈ y, d.par = 0 ∨ ∃ p ∈ y, p.idx = d.par
 left : left.Sublist x
theorem Part.start (x : List ADev) : Part x [] x := ⟨.refl _, .nil, fun _ h => (by cases h), List.Sublist.refl _⟩
theorem Part.sub {x y left : List ADev} (hx : Valid snd cl x) (h : Part x y left) : y.Sublist x :=
 sorted_sub hx.asc h.asc fun _ he => h.perm.mem_iff.1 (List.mem_append.2 (Or.inl he))
theorem Part.valid {x y left : List ADev} (hx : Valid snd cl x) (h : Part x y left) : Valid snd cl y := hx.part (h.sub hx) h.par
theorem Part.done {x y : List ADev} (hx : Valid snd cl x) (h : Part x y []) : y = x := by
 refine (h.sub hx).eq_of_length ?_
 have := h.perm.length_eq
 rwa [List.append_nil] at this
theorem Part.nodup {x y left : List ADev} (hx : Valid snd cl x) (h : Part x y left) {a b : ADev} (ha : a ∈ y) (hb : b ∈ left) : a.idx ≠ b.idx := by
 have hu : (y ++ left).Pairwise fun a b => a.idx ≠ b.idx := (h.perm.pairwise_iff (fun hxy e => hxy e.symm)).2 hx.tidy.uniq
 exact (List.pairwise_append.1 hu).2.2 a ha b hb
theorem Part.org_at {x y left : List ADev} (hx : Valid snd cl x) (h : Part x y left) {d : ADev} (_hd : d ∈ x) (hp : d.par = 0 ∨ ∃ p ∈ y, p.idx = d.par) : org y d = org x d := by
 have hy := h.valid hx
 rcases hp with h0 | ⟨p, hp, hpd⟩
 ·rw [org_root hy.tidy h0, org_root hx.tidy h0]
 ·have hpx := (h.sub hx).subset hp
  rw [org_child hy.tidy hp hpd, org_child hx.tidy hpx hpd, part_org hx.tidy hy.tidy (fun e he => (h.sub hx).subset he) hp]
theorem Part.next {x y left : List ADev} (hx : Valid snd cl x) (h : Part x y left) {d : ADev} {k : Nat} (hd : left[k]? = some d) (hp : d.par = 0 ∨ ∃ p ∈ y, p.idx = d.par) : Part x (insL y d) (left.eraseIdx k) := by
 have hdl := List.mem_of_getElem? hd
 have hdx := h.left.subset hdl
 have hy := h.valid hx
 have hsub : ∀ e ∈ y, e ∈ x := fun e he => (h.sub hx).subset he
 have horg : ∀ e ∈ y, org y e = org x e := fun e he => part_org hx.tidy hy.tidy hsub he
 have horgd := h.org_at hx hdx hp
 have hne : ∀ e ∈ y, org x e ≠ org x d := fun e he e' => h.nodup hx he hdl (by rw [hx.org_inj (hsub e he) hdx e'])
 have hsplit : left = left.take k ++ d :: left.drop (k + 1) := by
  have hk := (List.getElem?_eq_some_iff.1 hd).1
  have he := (List.getElem?_eq_some_iff.1 hd).2
  rw [← he, ← List.drop_eq_getElem_cons hk, List.take_append_drop]
 have herase : left.eraseIdx k = left.take k ++ left.drop (k + 1) := List.eraseIdx_eq_take_drop_succ left k
 refine ⟨?_, ?_, fun e he => ?_, ?_⟩
 ·have h1 : (insL y d ++ left.eraseIdx k).Perm ((d :: y) ++ left.eraseIdx k) := (insL_perm y d).append_right _
  refine h1.trans (List.Perm.trans ?_ h.perm)
  rw [herase]
  have h2 : (y ++ left).Perm (y ++ (d :: (left.take k ++ left.drop (k + 1)))) := by
   refine List.Perm.append_left y ?_
   conv => lhs; rw [hsplit]
   exact List.perm_middle
  refine List.Perm.symm (h2.trans ?_)
  exact List.perm_middle
 ·have hasc : y.Pairwise fun a b => cmpN (org y a) (org y b) < 0 := hy.asc
  unfold insL
  rw [List.pairwise_append, List.pairwise_cons]
  have hl : ((y.takeWhile fun e => decide (cmpN (org y e) (org y d) < 0)) ++ y.dropWhile fun e => decide (cmpN (org y e) (org y d) < 0)).Pairwise fun a b => cmpN (org x a) (org x b) < 0 := by
   rw [List.takeWhile_append_dropWhile]
   exact h.asc
  rw [List.pairwise_append] at hl
  have hge : ∀ e ∈ y.dropWhile fun e => decide (cmpN (org y e) (org y d) < 0), cmpN (org x d) (org x e) < 0 := fun e he => by
   have hm : e ∈ y := (List.dropWhile_sublist _).subset he
   have := dropWhile_ge hasc e he
   rw [horg e hm, horgd] at this
   exact cmpN_total this (hne e hm)
  refine ⟨hl.1, ⟨hge, hl.2.1⟩, fun a ha b hb => ?_⟩
  rcases List.mem_cons.1 hb with rfl | hb
  ·have := takeWhile_lt a ha
   rw [horg a ((List.takeWhile_sublist _).subset ha), horgd] at this
   exact this
  ·exact hl.2.2 a ha b hb
 ·rcases mem_insL.1 he with rfl | he
  ·rcases hp with h0 | ⟨p, hpm, hpe⟩
   ·exact Or.inl h0
   ·exact Or.inr ⟨p, mem_insL.2 (Or.inr hpm), hpe⟩
  ·rcases h.par e he with h0 | ⟨p, hpm, hpe⟩
   ·exact Or.inl h0
   ·exact Or.inr ⟨p, mem_insL.2 (Or.inr hpm), hpe⟩
 ·exact (List.eraseIdx_sublist left k).trans h.left
/-- The first of those that are left has its parent in the part. -/
theorem Part.first {x y left : List ADev} (hx : Valid snd cl x) (h : Part x y left) {d : ADev} (hd : left[0]? = some d) : d.par = 0 ∨ ∃ p ∈ y, p.idx = d.par := by
 have hdl := List.mem_of_getElem? hd
 have hdx := h.left.subset hdl
 rcases hx.tidy.parent hdx with h0 | ⟨p, hp, hpd⟩
 ·exact Or.inl h0
 ·rcases List.mem_append.1 (h.perm.mem_iff.2 hp) with g | g
  ·exact Or.inr ⟨p, g, hpd⟩
  ·exfalso
   cases hl : left with
   | nil => rw [hl] at hd; cases hd
   | cons a r =>
    rw [hl] at hd g
    obtain rfl : a = d := by simpa using hd
    have hb := org_before hx.tidy hp hpd
    have hasc : (a :: r).Pairwise fun a b => cmpN (org x a) (org x b) < 0 := by
     rw [← hl]
     exact hx.asc.sublist h.left
    rw [List.pairwise_cons] at hasc
    rcases List.mem_cons.1 g with rfl | g
    ·rw [cmpN_self] at hb
     omega
    ·have := cmpN_trans hb (hasc.1 p g)
     rw [cmpN_self] at this
     omega
/-- A subtree is a row of neighbours that begins with the device. -/
theorem Valid.subtree {l : List ADev} (h : Valid snd cl l) {i : Nat} {d : ADev} (hd : l[i]? = some d) : l.filter (fun e => bel l e d.idx) = d :: (l.drop (i + 1)).takeWhile fun e => bel l e d.idx := by
 have hm := List.mem_of_getElem? hd
 have hi := (List.getElem?_eq_some_iff.1 hd).1
 have he := (List.getElem?_eq_some_iff.1 hd).2
 have hsplit : l = l.take i ++ d :: l.drop (i + 1) := by
  rw [← he, ← List.drop_eq_getElem_cons hi, List.take_append_drop]
 have hA : (l.take i).filter (fun e => bel l e d.idx) = [] := by
  rw [List.filter_eq_nil_iff]
  intro e he' hb
  obtain ⟨j, hj⟩ := List.mem_iff_getElem?.1 he'
  have hji : j < i := by
   have := (List.getElem?_eq_some_iff.1 hj).1
   rw [List.length_take] at this
   omega
  have := h.bel_first hd (by rw [List.getElem?_take, if_pos hji] at hj; exact hj) hb
  omega
 have hB : ∀ B : List ADev, (∀ (j k : Nat) a b, B[j]? = some a → B[k]? = some b → j < k → bel l b d.idx = true → bel l a d.idx = true) → B.filter (fun e => bel l e d.idx) = B.takeWhile fun e => bel l e d.idx := by
  intro B
  induction B with
  | nil => intro _; rfl
  | cons b B ih =>
   intro hall
   rw [List.filter_cons, List.takeWhile_cons]
   by_cases hb : bel l b d.idx = true
   ·rw [if_pos hb, if_pos hb, ih fun j k x y hx hy hjk => hall (j + 1) (k + 1) x y (by simpa using hx) (by simpa using hy) (by omega)]
   ·rw [if_neg hb, if_neg hb, List.filter_eq_nil_iff]
    intro e he' hbe
    obtain ⟨k, hk⟩ := List.mem_iff_getElem?.1 he'
    exact hb (hall 0 (k + 1) b e (by simp) (by simpa using hk) (by omega) hbe)
 have hfd : bel l d d.idx = true := bel_self h.tidy hm
 conv => lhs; rw [hsplit]
 rw [List.filter_append]
 have h2 : ∀ X : List ADev, (l.take i).filter (fun e => bel l e d.idx) ++ X = X := fun X => by rw [hA]; rfl
 rw [← hsplit, h2, List.filter_cons, if_pos hfd, hB]
 intro j k a b ha hb hjk hbb
 have ha' : l[i + 1 + j]? = some a := by rw [List.getElem?_drop] at ha; exact ha
 have hb' : l[i + 1 + k]? = some b := by rw [List.getElem?_drop] at hb; exact hb
 exact h.bel_mid hm hd ha' hb' (by omega) (by omega) hfd hbb
end
end Go.Proofs.YtldcediiobfhiaaGreatDoor.De
namespace Go.Proofs.YtldcediiobfhiaaGreatDoor.De
section
variable (snd : ADev → Bool) (cl : ADev → ADev → Bool)
/-- The error of Insert, 0 if there is none. -/
def insE (l : List ADev) (d : ADev) : Int :=
 if snd d = false then 41 else if (fnd l d.idx).isSome then 43 else if d.par ≠ 0 ∧ fnd l d.par = none then 42
 else if 256 ≤ l.length then 40 else if 7 < (org l d).length then 46 else if l.any (fun e => org l e == org l d || cl e d) then 43 else 0
end
section
variable {snd : ADev → Bool} {cl : ADev → ADev → Bool}
theorem par_of {p : List ADev} {d : ADev} (h : ¬ (d.par ≠ 0 ∧ fnd p d.par = none)) : d.par = 0 ∨ ∃ e ∈ p, e.idx = d.par := by
 by_cases h0 : d.par = 0
 ·exact Or.inl h0
 ·cases hf : fnd p d.par with
  | none => exact absurd ⟨h0, hf⟩ h
  | some e => exact Or.inr ⟨e, (fnd_mem hf).1, (fnd_mem hf).2⟩
theorem fresh_of {p : List ADev} {n : Int} (h : ¬ (fnd p n).isSome = true) : ∀ e ∈ p, e.idx ≠ n := by
 cases hf : fnd p n with
 | none => exact fnd_none hf
 | some e => rw [hf] at h; simp at h
theorem Valid.left {p q : List ADev} (h : Valid snd cl (p ++ q)) : Valid snd cl p := by
 refine h.part (List.sublist_append_left p q) fun d hd => ?_
 have := h.tidy.left
 exact this.parent hd
theorem insE_fits (hsnd : ∀ d, snd d = true → d.idx ≠ 0 ∧ d.par ≠ d.idx) {l : List ADev} {d : ADev} : insE snd cl l d = 0 ↔ Fits snd cl l d := by
 unfold insE
 constructor
 ·intro h
  split at h
  ·cases h
  split at h
  ·cases h
  split at h
  ·cases h
  split at h
  ·cases h
  split at h
  ·cases h
  split at h
  ·cases h
  rename_i h1 h2 h3 h4 h5 h6
  have hsd : snd d = true := by simpa using h1
  have h6' : l.any (fun e => org l e == org l d || cl e d) = false := by simpa using h6
  refine ⟨hsd, (hsnd d hsd).1, (hsnd d hsd).2, fresh_of h2, par_of h3, by omega, by omega, fun e he e' => ?_, fun e he => ?_⟩
  ·have := List.any_eq_false.1 h6' e he
   rw [e'] at this
   simp at this
  ·have := List.any_eq_false.1 h6' e he
   simp only [Bool.or_eq_true, not_or, Bool.not_eq_true] at this
   exact this.2
 ·intro h
  rw [if_neg (by rw [h.snd]; simp)]
  rw [if_neg (by
   cases hf : fnd l d.idx with
   | none => simp
   | some e => exact absurd (fnd_mem hf).2 (h.fresh e (fnd_mem hf).1))]
  rw [if_neg (by
   rintro ⟨h1, h2⟩
   rcases h.par with h0 | ⟨e, he, hp⟩
   ·exact h1 h0
   ·exact fnd_none h2 e he hp)]
  rw [if_neg (by have := h.room; omega)]
  rw [if_neg (by have := h.depth; omega)]
  rw [if_neg (by
   rw [Bool.not_eq_true, List.any_eq_false]
   intro e he
   have h1 := h.new e he
   have h2 := h.apart e he
   simp only [Bool.or_eq_true, not_or, Bool.not_eq_true, beq_eq_false_iff_ne]
   exact ⟨h1, h2⟩)]
end
end Go.Proofs.YtldcediiobfhiaaGreatDoor.De
namespace Go.Proofs.YtldcediiobfhiaaGreatDoor.De
section
variable {snd : ADev → Bool} {cl : ADev → ADev → Bool}
/-- The path from the device upwards, the program's way: each ancestor's name goes in front. -/
def trail (f : ADev → List UInt8) : List ADev → List UInt8 → List UInt8
 | [], t => t
 | a :: r, t => trail f r (47 :: (f a ++ t))
end
end Go.Proofs.YtldcediiobfhiaaGreatDoor.De
namespace Go.Proofs.YtldcediiobfhiaaGreatDoor.De
section
variable (nod : ADev → Option (List UInt8)) (ben : List UInt8 → List UInt8 → Bool)
/-- Two devices may not stand in one tree. -/
def clB (a b : ADev) : Bool :=
 (a.kind == 4 && (b.kind == 4 && decide (a.name = b.name))) || match nod a, nod b with
  | some s, some u => (a.kind == b.kind && a.num == b.num) || (decide (s = u) || (ben s u || ben u s))
  | _, _ => false
theorem clB_symm (a b : ADev) : clB nod ben a b = clB nod ben b a := by
 have key : ∀ a b : ADev, clB nod ben a b = true → clB nod ben b a = true := by
  intro a b h
  unfold clB at h ⊢
  rw [Bool.or_eq_true] at h ⊢
  rcases h with h | h
  ·simp only [Bool.and_eq_true, beq_iff_eq, decide_eq_true_eq] at h ⊢
   exact Or.inl ⟨h.2.1, h.1, h.2.2.symm⟩
  ·right
   cases ha : nod a with
   | none => rw [ha] at h; simp at h
   | some s =>
    cases hb : nod b with
    | none => rw [ha, hb] at h; simp at h
    | some u =>
     rw [ha, hb] at h
     simp only [Bool.or_eq_true, Bool.and_eq_true, beq_iff_eq, decide_eq_true_eq] at h ⊢
     rcases h with h | h | h | h
     ·exact Or.inl ⟨h.1.symm, h.2.symm⟩
     ·exact Or.inr (Or.inl h.symm)
     ·exact Or.inr (Or.inr (Or.inr h))
     ·exact Or.inr (Or.inr (Or.inl h))
 rw [Bool.eq_iff_iff]
 exact ⟨key a b, key b a⟩
end
section
variable {snd : ADev → Bool} {nod : ADev → Option (List UInt8)} {ben : List UInt8 → List UInt8 → Bool} {l : List ADev}
/-- In an ascending list: the first place whose origin does not come ahead of one. -/
def placeL (l : List ADev) (o : List (List UInt8)) : Nat := (l.takeWhile fun e => decide (cmpN (org l e) o < 0)).length
theorem placeL_le (l : List ADev) (o : List (List UInt8)) : placeL l o ≤ l.length := (List.takeWhile_sublist _).length_le
theorem Valid.place_lt {cl : ADev → ADev → Bool} (h : Valid snd cl l) (o : List (List UInt8)) {i : Nat} {e : ADev} (he : l[i]? = some e) : i < placeL l o ↔ cmpN (org l e) o < 0 := by
 have hsp : l = (l.takeWhile fun e => decide (cmpN (org l e) o < 0)) ++ l.dropWhile fun e => decide (cmpN (org l e) o < 0) := List.takeWhile_append_dropWhile.symm
 rw [hsp] at he
 constructor
 ·intro hi
  rw [List.getElem?_append_left hi] at he
  exact takeWhile_lt e (List.mem_of_getElem? he)
 ·intro hlt
  rcases Nat.lt_or_ge i (placeL l o) with g | g
  ·exact g
  ·have g' : (l.takeWhile fun e => decide (cmpN (org l e) o < 0)).length ≤ i := g
   rw [List.getElem?_append_right g'] at he
   exact absurd hlt (dropWhile_ge h.asc e (List.mem_of_getElem? he))
end
end Go.Proofs.YtldcediiobfhiaaGreatDoor.De
