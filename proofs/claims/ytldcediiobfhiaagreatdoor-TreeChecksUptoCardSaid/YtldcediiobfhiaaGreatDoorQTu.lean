/- Trees made by inserting; subtrees as rows of neighbours. What Check and Insert answer, on lists. The way to the root as the program goes it; origins and paths as texts. Names, numbers and nodes that only one device may have; a map of the last place finds the only one. -/
import Derived.Test.YtldcediiobfhiaaGreatDoorQTr
namespace Go.Proofs.YtldcediiobfhiaaGreatDoor.De
theorem sorted_sub {O : ADev → List (List UInt8)} : ∀ {l m : List ADev}, (l.Pairwise fun a b => cmpN (O a) (O b) < 0) → (m.Pairwise fun a b => cmpN (O a) (O b) < 0) → (∀ e ∈ m, e ∈ l) → m.Sublist l
 | [], m, _, _, h => by
  cases m with
  | nil => exact List.Sublist.refl _
  | cons b m => exact absurd (h b List.mem_cons_self) (by simp)
 | a :: l, [], _, _, _ => List.nil_sublist _
 | a :: l, b :: m, hl, hm, h => by
  rw [List.pairwise_cons] at hl
  have hm' := hm
  rw [List.pairwise_cons] at hm'
  have irr : ∀ e, ¬ cmpN (O e) (O e) < 0 := fun e he => by
   rw [cmpN_self] at he
   omega
  by_cases hab : b = a
  ·subst hab
   refine List.Sublist.cons_cons _ (sorted_sub hl.2 hm'.2 fun e he => ?_)
   rcases List.mem_cons.1 (h e (List.mem_cons_of_mem _ he)) with rfl | g
   ·exact absurd (hm'.1 e he) (irr e)
   ·exact g
  ·have hbl : b ∈ l := by
    rcases List.mem_cons.1 (h b List.mem_cons_self) with g | g
    ·exact absurd g hab
    ·exact g
   refine List.Sublist.cons _ (sorted_sub hl.2 hm fun e he => ?_)
   rcases List.mem_cons.1 (h e he) with rfl | g
   ·rcases List.mem_cons.1 he with g | g
    ·exact absurd g.symm hab
    ·exact absurd (cmpN_trans (hm'.1 e g) (hl.1 b hbl)) (irr b)
   ·exact g
section
variable {snd : ADev → Bool} {cl : ADev → ADev → Bool}
/-- Some of a tree's devices, with their parents, are a tree; the others are left, in the tree's order. -/
structure Part (x y left : List ADev) : Prop where
 perm : (y ++ left).Perm x
 asc : y.Pairwise fun a b => cmpN (org x a) (org x b) < 0
 par : ∀ d ∈ y, d.par = 0 ∨ ∃ p ∈ y, p.idx = d.par
 left : left.Sublist x
theorem Part.start (x : List ADev) : Part x [] x := ⟨.refl _, .nil, fun _ h => (by cases h), List.Sublist.refl _⟩
theorem Part.sub {x y left : List ADev} (hx : Valid snd cl x) (h : Part x y left) : y.Sublist x :=
 sorted_sub hx.asc h.asc fun _ he => h.perm.mem_iff.1 (List.mem_append.2 (Or.inl he))
theorem Part.valid {x y left : List ADev} (hx : Valid snd cl x) (h : Part x y left) : Valid snd cl y := hx.part (h.sub hx) h.par
theorem Part.done {x y : List ADev} (hx : Valid snd cl x) (h : Part x y []) : y = x := by
 refine (h.sub hx).eq_of_length ?_
 have := h.perm.length_eq
 rwa [List.append_nil] at this
theorem Part.nodup {x y left : List ADev} (hx : Valid snd cl x) (h : Part x y left) {a b : ADev} (ha : a ∈ y) (hb : b ∈ left) : a.idx ≠ b.idx := by
 have hu : (y ++ left).Pairwise fun a b => a.idx ≠ b.idx := (h.perm.pairwise_iff (fun hxy e => hxy e.symm)).2 hx.tidy.uniq
 exact (List.pairwise_append.1 hu).2.2 a ha b hb
theorem Part.org_at {x y left : List ADev} (hx : Valid snd cl x) (h : Part x y left) {d : ADev} (_hd : d ∈ x) (hp : d.par = 0 ∨ ∃ p ∈ y, p.idx = d.par) : org y d = org x d := by
 have hy := h.valid hx
 rcases hp with h0 | ⟨p, hp, hpd⟩
 ·rw [org_root hy.tidy h0, org_root hx.tidy h0]
 ·have hpx := (h.sub hx).subset hp
  rw [org_child hy.tidy hp hpd, org_child hx.tidy hpx hpd, part_org hx.tidy hy.tidy (fun e he => (h.sub hx).subset he) hp]
theorem Part.next {x y left : List ADev} (hx : Valid snd cl x) (h : Part x y left) {d : ADev} {k : Nat} (hd : left[k]? = some d) (hp : d.par = 0 ∨ ∃ p ∈ y, p.idx = d.par) : Part x (insL y d) (left.eraseIdx k) := by
 have hdl := List.mem_of_getElem? hd
 have hdx := h.left.subset hdl
 have hy := h.valid hx
 have hsub : ∀ e ∈ y, e ∈ x := fun e he => (h.sub hx).subset he
 have horg : ∀ e ∈ y, org y e = org x e := fun e he => part_org hx.tidy hy.tidy hsub he
 have horgd := h.org_at hx hdx hp
 have hne : ∀ e ∈ y, org x e ≠ org x d := fun e he e' => h.nodup hx he hdl (by rw [hx.org_inj (hsub e he) hdx e'])
 have hsplit : left = left.take k ++ d :: left.drop (k + 1) := by
  have hk := (List.getElem?_eq_some_iff.1 hd).1
  have he := (List.getElem?_eq_some_iff.1 hd).2
  rw [← he, ← List.drop_eq_getElem_cons hk, List.take_append_drop]
 have herase : left.eraseIdx k = left.take k ++ left.drop (k + 1) := List.eraseIdx_eq_take_drop_succ left k
 refine ⟨?_, ?_, fun e he => ?_, ?_⟩
 ·have h1 : (insL y d ++ left.eraseIdx k).Perm ((d :: y) ++ left.eraseIdx k) := (insL_perm y d).append_right _
  refine h1.trans (List.Perm.trans ?_ h.perm)
  rw [herase]
  have h2 : (y ++ left).Perm (y ++ (d :: (left.take k ++ left.drop (k + 1)))) := by
   refine List.Perm.append_left y ?_
   conv => lhs; rw [hsplit]
   exact List.perm_middle
  refine List.Perm.symm (h2.trans ?_)
  exact List.perm_middle
 ·have hasc : y.Pairwise fun a b => cmpN (org y a) (org y b) < 0 := hy.asc
  unfold insL
  rw [List.pairwise_append, List.pairwise_cons]
  have hl : ((y.takeWhile fun e => decide (cmpN (org y e) (org y d) < 0)) ++ y.dropWhile fun e => decide (cmpN (org y e) (org y d) < 0)).Pairwise fun a b => cmpN (org x a) (org x b) < 0 := by
   rw [List.takeWhile_append_dropWhile]
   exact h.asc
  rw [List.pairwise_append] at hl
  have hge : ∀ e ∈ y.dropWhile fun e => decide (cmpN (org y e) (org y d) < 0), cmpN (org x d) (org x e) < 0 := fun e he => by
   have hm : e ∈ y := (List.dropWhile_sublist _).subset he
   have := dropWhile_ge hasc e he
   rw [horg e hm, horgd] at this
   exact cmpN_total this (hne e hm)
  refine ⟨hl.1, ⟨hge, hl.2.1⟩, fun a ha b hb => ?_⟩
  rcases List.mem_cons.1 hb with rfl | hb
  ·have := takeWhile_lt a ha
   rw [horg a ((List.takeWhile_sublist _).subset ha), horgd] at this
   exact this
  ·exact hl.2.2 a ha b hb
 ·rcases mem_insL.1 he with rfl | he
  ·rcases hp with h0 | ⟨p, hpm, hpe⟩
   ·exact Or.inl h0
   ·exact Or.inr ⟨p, mem_insL.2 (Or.inr hpm), hpe⟩
  ·rcases h.par e he with h0 | ⟨p, hpm, hpe⟩
   ·exact Or.inl h0
   ·exact Or.inr ⟨p, mem_insL.2 (Or.inr hpm), hpe⟩
 ·exact (List.eraseIdx_sublist left k).trans h.left
/-- The first of those that are left has its parent in the part. -/
theorem Part.first {x y left : List ADev} (hx : Valid snd cl x) (h : Part x y left) {d : ADev} (hd : left[0]? = some d) : d.par = 0 ∨ ∃ p ∈ y, p.idx = d.par := by
 have hdl := List.mem_of_getElem? hd
 have hdx := h.left.subset hdl
 rcases hx.tidy.parent hdx with h0 | ⟨p, hp, hpd⟩
 ·exact Or.inl h0
 ·rcases List.mem_append.1 (h.perm.mem_iff.2 hp) with g | g
  ·exact Or.inr ⟨p, g, hpd⟩
  ·exfalso
   cases hl : left with
   | nil => rw [hl] at hd; cases hd
   | cons a r =>
    rw [hl] at hd g
    obtain rfl : a = d := by simpa using hd
    have hb := org_before hx.tidy hp hpd
    have hasc : (a :: r).Pairwise fun a b => cmpN (org x a) (org x b) < 0 := by
     rw [← hl]
     exact hx.asc.sublist h.left
    rw [List.pairwise_cons] at hasc
    rcases List.mem_cons.1 g with rfl | g
    ·rw [cmpN_self] at hb
     omega
    ·have := cmpN_trans hb (hasc.1 p g)
     rw [cmpN_self] at this
     omega
/-- A subtree is a row of neighbours that begins with the device. -/
theorem Valid.subtree {l : List ADev} (h : Valid snd cl l) {i : Nat} {d : ADev} (hd : l[i]? = some d) : l.filter (fun e => bel l e d.idx) = d :: (l.drop (i + 1)).takeWhile fun e => bel l e d.idx := by
 have hm := List.mem_of_getElem? hd
 have hi := (List.getElem?_eq_some_iff.1 hd).1
 have he := (List.getElem?_eq_some_iff.1 hd).2
 have hsplit : l = l.take i ++ d :: l.drop (i + 1) := by
  rw [← he, ← List.drop_eq_getElem_cons hi, List.take_append_drop]
 have hA : (l.take i).filter (fun e => bel l e d.idx) = [] := by
  rw [List.filter_eq_nil_iff]
  intro e he' hb
  obtain ⟨j, hj⟩ := List.mem_iff_getElem?.1 he'
  have hji : j < i := by
   have := (List.getElem?_eq_some_iff.1 hj).1
   rw [List.length_take] at this
   omega
  have := h.bel_first hd (by rw [List.getElem?_take, if_pos hji] at hj; exact hj) hb
  omega
 have hB : ∀ B : List ADev, (∀ (j k : Nat) a b, B[j]? = some a → B[k]? = some b → j < k → bel l b d.idx = true → bel l a d.idx = true) → B.filter (fun e => bel l e d.idx) = B.takeWhile fun e => bel l e d.idx := by
  intro B
  induction B with
  | nil => intro _; rfl
  | cons b B ih =>
   intro hall
   rw [List.filter_cons, List.takeWhile_cons]
   by_cases hb : bel l b d.idx = true
   ·rw [if_pos hb, if_pos hb, ih fun j k x y hx hy hjk => hall (j + 1) (k + 1) x y (by simpa using hx) (by simpa using hy) (by omega)]
   ·rw [if_neg hb, if_neg hb, List.filter_eq_nil_iff]
    intro e he' hbe
    obtain ⟨k, hk⟩ := List.mem_iff_getElem?.1 he'
    exact hb (hall 0 (k + 1) b e (by simp) (by simpa using hk) (by omega) hbe)
 have hfd : bel l d d.idx = true := bel_self h.tidy hm
 conv => lhs; rw [hsplit]
 rw [List.filter_append]
 have h2 : ∀ X : List ADev, (l.take i).filter (fun e => bel l e d.idx) ++ X = X := fun X => by rw [hA]; rfl
 rw [← hsplit, h2, List.filter_cons, if_pos hfd, hB]
 intro j k a b ha hb hjk hbb
 have ha' : l[i + 1 + j]? = some a := by rw [List.getElem?_drop] at ha; exact ha
 have hb' : l[i + 1 + k]? = some b := by rw [List.getElem?_drop] at hb; exact hb
 exact h.bel_mid hm hd ha' hb' (by omega) (by omega) hfd hbb
end
end Go.Proofs.YtldcediiobfhiaaGreatDoor.De
namespace Go.Proofs.YtldcediiobfhiaaGreatDoor.De
section
variable (snd : ADev → Bool) (cl : ADev → ADev → Bool)
/-- The last device, if there is one, comes ahead. -/
def endsB (p : List ADev) (d : ADev) : Bool := match p.getLast? with
 | none => true
 | some e => decide (cmpN (org p e) (org p d) < 0)
/-- What is wrong with a device behind others. -/
def chkAt (p : List ADev) (d : ADev) : Int :=
 if snd d = false then 41 else if (fnd p d.idx).isSome then 43 else if d.par ≠ 0 ∧ fnd p d.par = none then 42
 else if 7 < (org p d).length then 46 else if endsB p d = false then 44 else if p.any (fun e => cl e d) then 43 else 0
/-- The error of Insert, 0 if there is none. -/
def insE (l : List ADev) (d : ADev) : Int :=
 if snd d = false then 41 else if (fnd l d.idx).isSome then 43 else if d.par ≠ 0 ∧ fnd l d.par = none then 42
 else if 256 ≤ l.length then 40 else if 7 < (org l d).length then 46 else if l.any (fun e => org l e == org l d || cl e d) then 43 else 0
end
section
variable {snd : ADev → Bool} {cl : ADev → ADev → Bool}
theorem par_of {p : List ADev} {d : ADev} (h : ¬ (d.par ≠ 0 ∧ fnd p d.par = none)) : d.par = 0 ∨ ∃ e ∈ p, e.idx = d.par := by
 by_cases h0 : d.par = 0
 ·exact Or.inl h0
 ·cases hf : fnd p d.par with
  | none => exact absurd ⟨h0, hf⟩ h
  | some e => exact Or.inr ⟨e, (fnd_mem hf).1, (fnd_mem hf).2⟩
theorem fresh_of {p : List ADev} {n : Int} (h : ¬ (fnd p n).isSome = true) : ∀ e ∈ p, e.idx ≠ n := by
 cases hf : fnd p n with
 | none => exact fnd_none hf
 | some e => rw [hf] at h; simp at h
theorem takeWhile_all {α : Type} {p : α → Bool} : ∀ {l : List α}, (∀ a ∈ l, p a = true) → l.takeWhile p = l ∧ l.dropWhile p = []
 | [], _ => ⟨rfl, rfl⟩
 | a :: l, h => by
  obtain ⟨h1, h2⟩ := takeWhile_all fun x hx => h x (List.mem_cons_of_mem _ hx)
  have ha := h a List.mem_cons_self
  exact ⟨by rw [List.takeWhile_cons, if_pos ha, h1], by rw [List.dropWhile_cons, if_pos ha, h2]⟩
theorem Valid.all_less {p : List ADev} {d : ADev} (hv : Valid snd cl p) (h : endsB p d = true) : ∀ e ∈ p, cmpN (org p e) (org p d) < 0 := by
 intro e he
 unfold endsB at h
 cases hl : p.getLast? with
 | none =>
  rw [List.getLast?_eq_none_iff] at hl
  rw [hl] at he
  cases he
 | some a =>
  rw [hl] at h
  have ha : cmpN (org p a) (org p d) < 0 := of_decide_eq_true h
  have hsp : p = p.dropLast ++ [a] := by
   obtain ⟨h1, rfl⟩ := List.getLast?_eq_some_iff.1 hl
   simp
  have hp := hv.asc
  rw [hsp] at he
  rcases List.mem_append.1 he with he | he
  ·have hp' : (p.dropLast ++ [a]).Pairwise fun a b => cmpN (org p a) (org p b) < 0 := by
    rw [← hsp]
    exact hp
   exact cmpN_trans ((List.pairwise_append.1 hp').2.2 e he a List.mem_cons_self) ha
  ·rw [List.mem_singleton.1 he]
   exact ha
theorem Valid.snoc (hs : ∀ a b, cl a b = cl b a) (hsnd : ∀ d, snd d = true → d.idx ≠ 0 ∧ d.par ≠ d.idx) {p : List ADev} {d : ADev} (hv : Valid snd cl p) (hroom : p.length < 256) (h : chkAt snd cl p d = 0) : Valid snd cl (p ++ [d]) := by
 unfold chkAt at h
 split at h
 ·cases h
 split at h
 ·cases h
 split at h
 ·cases h
 split at h
 ·cases h
 split at h
 ·cases h
 split at h
 ·cases h
 rename_i h1 h2 h3 h4 h5 h6
 have hsd : snd d = true := by simpa using h1
 have hless := hv.all_less (d := d) (by simpa using h5)
 have hf : Fits snd cl p d := ⟨hsd, (hsnd d hsd).1, (hsnd d hsd).2, fresh_of h2, par_of h3, hroom, by omega, fun e he e' => by
  have := hless e he
  rw [e', cmpN_self] at this
  omega, fun e he => by
  have h6' : p.any (fun e => cl e d) = false := by simpa using h6
  have := List.any_eq_false.1 h6' e he
  simpa using this⟩
 have := hv.ins hs hf
 have he : insL p d = p ++ [d] := by
  unfold insL
  obtain ⟨t1, t2⟩ := takeWhile_all (p := fun e => decide (cmpN (org p e) (org p d) < 0)) (l := p) fun a ha => decide_eq_true (hless a ha)
  rw [t1, t2]
 rwa [he] at this
theorem Valid.left {p q : List ADev} (h : Valid snd cl (p ++ q)) : Valid snd cl p := by
 refine h.part (List.sublist_append_left p q) fun d hd => ?_
 have := h.tidy.left
 exact this.parent hd
theorem insE_fits (hsnd : ∀ d, snd d = true → d.idx ≠ 0 ∧ d.par ≠ d.idx) {l : List ADev} {d : ADev} : insE snd cl l d = 0 ↔ Fits snd cl l d := by
 unfold insE
 constructor
 ·intro h
  split at h
  ·cases h
  split at h
  ·cases h
  split at h
  ·cases h
  split at h
  ·cases h
  split at h
  ·cases h
  split at h
  ·cases h
  rename_i h1 h2 h3 h4 h5 h6
  have hsd : snd d = true := by simpa using h1
  have h6' : l.any (fun e => org l e == org l d || cl e d) = false := by simpa using h6
  refine ⟨hsd, (hsnd d hsd).1, (hsnd d hsd).2, fresh_of h2, par_of h3, by omega, by omega, fun e he e' => ?_, fun e he => ?_⟩
  ·have := List.any_eq_false.1 h6' e he
   rw [e'] at this
   simp at this
  ·have := List.any_eq_false.1 h6' e he
   simp only [Bool.or_eq_true, not_or, Bool.not_eq_true] at this
   exact this.2
 ·intro h
  rw [if_neg (by rw [h.snd]; simp)]
  rw [if_neg (by
   cases hf : fnd l d.idx with
   | none => simp
   | some e => exact absurd (fnd_mem hf).2 (h.fresh e (fnd_mem hf).1))]
  rw [if_neg (by
   rintro ⟨h1, h2⟩
   rcases h.par with h0 | ⟨e, he, hp⟩
   ·exact h1 h0
   ·exact fnd_none h2 e he hp)]
  rw [if_neg (by have := h.room; omega)]
  rw [if_neg (by have := h.depth; omega)]
  rw [if_neg (by
   rw [Bool.not_eq_true, List.any_eq_false]
   intro e he
   have h1 := h.new e he
   have h2 := h.apart e he
   simp only [Bool.or_eq_true, not_or, Bool.not_eq_true, beq_eq_false_iff_ne]
   exact ⟨h1, h2⟩)]
end
end Go.Proofs.YtldcediiobfhiaaGreatDoor.De
namespace Go.Proofs.YtldcediiobfhiaaGreatDoor.De
section
variable {snd : ADev → Bool} {cl : ADev → ADev → Bool}
theorem org_len (l : List ADev) (d : ADev) : (org l d).length = (ups l d.par).length + 1 := by
 unfold org
 rw [List.length_reverse, List.length_map, List.length_cons]
/-- From a parent in the tree the way is no longer than seven. -/
theorem Valid.ups_le {l : List ADev} (h : Valid snd cl l) {n : Int} (hn : n = 0 ∨ ∃ p ∈ l, p.idx = n) : (ups l n).length ≤ 7 := by
 rcases hn with rfl | ⟨p, hp, rfl⟩
 ·rw [ups_none h.tidy.zero]
  exact Nat.zero_le _
 ·obtain ⟨i, hi⟩ := List.mem_iff_getElem?.1 hp
  rw [ups_of h.tidy hi, List.length_cons, ← org_len]
  exact h.depth p hp
theorem Tidy.up_of_le {l : List ADev} (h : Tidy l) {n : Int} {k : Nat} (hk : (ups l n).length ≤ k) : up l k n = ups l n := by
 rcases Nat.le_total k l.length with g | g
 ·exact up_more hk g
 ·exact (h.up_enough (Nat.le_refl _) g n).symm
/-- The program goes seven steps at most: that is the whole way. -/
theorem Valid.up7 {l : List ADev} (h : Valid snd cl l) {n : Int} (hn : n = 0 ∨ ∃ p ∈ l, p.idx = n) : up l 7 n = ups l n := h.tidy.up_of_le (h.ups_le hn)
/-- A device behind the others, whose Index is new and whose parent is there. -/
theorem Tidy.snoc {p : List ADev} {d : ADev} (h : Tidy p) (hz : d.idx ≠ 0) (hf : ∀ e ∈ p, e.idx ≠ d.idx) (hp : d.par = 0 ∨ ∃ e ∈ p, e.idx = d.par) : Tidy (p ++ [d]) := by
 refine ⟨?_, fun e he => ?_, fun i e he => ?_⟩
 ·rw [List.pairwise_append]
  exact ⟨h.uniq, List.pairwise_singleton _ _, fun a ha b hb => by rw [List.mem_singleton.1 hb]; exact hf a ha⟩
 ·rcases List.mem_append.1 he with he | he
  ·exact h.pos e he
  ·rw [List.mem_singleton.1 he]
   exact hz
 ·rcases Nat.lt_or_ge i p.length with g | g
  ·rw [List.getElem?_append_left g] at he
   rcases h.par i e he with h0 | ⟨j, q, hj, hq, hqe⟩
   ·exact Or.inl h0
   ·exact Or.inr ⟨j, q, hj, by rw [List.getElem?_append_left (by omega)]; exact hq, hqe⟩
  ·rw [List.getElem?_append_right g] at he
   have hi : i - p.length = 0 := by
    have := (List.getElem?_eq_some_iff.1 he).1
    simp at this
    omega
   rw [hi] at he
   obtain rfl : d = e := by simpa using he
   rcases hp with h0 | ⟨q, hq, hqe⟩
   ·exact Or.inl h0
   ·obtain ⟨j, hj⟩ := List.mem_iff_getElem?.1 hq
    have hjl := (List.getElem?_eq_some_iff.1 hj).1
    exact Or.inr ⟨j, q, by omega, by rw [List.getElem?_append_left hjl]; exact hj, hqe⟩
/-- A path of names, as bytes. -/
def pth (l : List (List UInt8)) : List UInt8 := l.flatMap fun s => 47 :: s
theorem pth_cons (s : List UInt8) (l : List (List UInt8)) : pth (s :: l) = 47 :: (s ++ pth l) := rfl
theorem pth_append (a b : List (List UInt8)) : pth (a ++ b) = pth a ++ pth b := List.flatMap_append
/-- The path from the device upwards, the program's way: each ancestor's name goes in front. -/
def trail (f : ADev → List UInt8) : List ADev → List UInt8 → List UInt8
 | [], t => t
 | a :: r, t => trail f r (47 :: (f a ++ t))
theorem trail_eq (f : ADev → List UInt8) : ∀ (r : List ADev) (t : List UInt8), trail f r t = pth (r.map f).reverse ++ t
 | [], _ => rfl
 | a :: r, t => by
  rw [trail, trail_eq f r, List.map_cons, List.reverse_cons, pth_append]
  simp [pth]
theorem trail_org (l : List ADev) (d : ADev) : trail (fun e => e.orig.data.toList) (ups l d.par) (47 :: d.orig.data.toList) = pth (org l d) := by
 rw [trail_eq]
 unfold org
 rw [List.map_cons, List.reverse_cons, pth_append]
 simp [pth]
/-- How many names: the slashes, where no name has one. -/
theorem pth_count : ∀ l : List (List UInt8), (∀ s ∈ l, ∀ b ∈ s, b ≠ 47) → (pth l).countP (· == 47) = l.length
 | [], _ => rfl
 | s :: l, h => by
  rw [pth_cons, List.countP_cons, List.countP_append, pth_count l fun x hx => h x (List.mem_cons_of_mem _ hx)]
  have : s.countP (· == 47) = 0 := by
   rw [List.countP_eq_zero]
   intro b hb
   have := h s List.mem_cons_self b hb
   simpa using this
  rw [this, List.length_cons]
  simp
end
end Go.Proofs.YtldcediiobfhiaaGreatDoor.De
namespace Go.Proofs.YtldcediiobfhiaaGreatDoor.De
section
variable (nod : ADev → Option (List UInt8)) (ben : List UInt8 → List UInt8 → Bool)
/-- Two devices may not stand in one tree. -/
def clB (a b : ADev) : Bool :=
 (a.kind == 4 && (b.kind == 4 && decide (a.name = b.name))) || match nod a, nod b with
  | some s, some u => (a.kind == b.kind && a.num == b.num) || (decide (s = u) || (ben s u || ben u s))
  | _, _ => false
theorem clB_symm (a b : ADev) : clB nod ben a b = clB nod ben b a := by
 have key : ∀ a b : ADev, clB nod ben a b = true → clB nod ben b a = true := by
  intro a b h
  unfold clB at h ⊢
  rw [Bool.or_eq_true] at h ⊢
  rcases h with h | h
  ·simp only [Bool.and_eq_true, beq_iff_eq, decide_eq_true_eq] at h ⊢
   exact Or.inl ⟨h.2.1, h.1, h.2.2.symm⟩
  ·right
   cases ha : nod a with
   | none => rw [ha] at h; simp at h
   | some s =>
    cases hb : nod b with
    | none => rw [ha, hb] at h; simp at h
    | some u =>
     rw [ha, hb] at h
     simp only [Bool.or_eq_true, Bool.and_eq_true, beq_iff_eq, decide_eq_true_eq] at h ⊢
     rcases h with h | h | h | h
     ·exact Or.inl ⟨h.1.symm, h.2.symm⟩
     ·exact Or.inr (Or.inl h.symm)
     ·exact Or.inr (Or.inr (Or.inr h))
     ·exact Or.inr (Or.inr (Or.inl h))
 rw [Bool.eq_iff_iff]
 exact ⟨key a b, key b a⟩
end
section
variable {snd : ADev → Bool} {nod : ADev → Option (List UInt8)} {ben : List UInt8 → List UInt8 → Bool} {l : List ADev}
/-- In an ascending list: the first place whose origin does not come ahead of one. -/
def placeL (l : List ADev) (o : List (List UInt8)) : Nat := (l.takeWhile fun e => decide (cmpN (org l e) o < 0)).length
theorem placeL_le (l : List ADev) (o : List (List UInt8)) : placeL l o ≤ l.length := (List.takeWhile_sublist _).length_le
theorem Valid.place_lt {cl : ADev → ADev → Bool} (h : Valid snd cl l) (o : List (List UInt8)) {i : Nat} {e : ADev} (he : l[i]? = some e) : i < placeL l o ↔ cmpN (org l e) o < 0 := by
 have hsp : l = (l.takeWhile fun e => decide (cmpN (org l e) o < 0)) ++ l.dropWhile fun e => decide (cmpN (org l e) o < 0) := List.takeWhile_append_dropWhile.symm
 rw [hsp] at he
 constructor
 ·intro hi
  rw [List.getElem?_append_left hi] at he
  exact takeWhile_lt e (List.mem_of_getElem? he)
 ·intro hlt
  rcases Nat.lt_or_ge i (placeL l o) with g | g
  ·exact g
  ·have g' : (l.takeWhile fun e => decide (cmpN (org l e) o < 0)).length ≤ i := g
   rw [List.getElem?_append_right g'] at he
   exact absurd hlt (dropWhile_ge h.asc e (List.mem_of_getElem? he))
end
end Go.Proofs.YtldcediiobfhiaaGreatDoor.De
