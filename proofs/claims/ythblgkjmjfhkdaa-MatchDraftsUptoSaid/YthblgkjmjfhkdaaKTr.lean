/- Trees of devices, on lists: looking up, the way to the root, origins. The order of lists of names. Valid trees, on lists; inserting a device. Valid trees, on lists: subtrees, removing, changing. -/
import Derived.WalkKit
import Derived.Lib.Bytealg
namespace Go.Proofs.Ythblgkjmjfhkdaa.De

/-- A device, without the places of its attributes in memory. -/
structure ADev where
  idx : Int
  par : Int
  name : ByteArray
  orig : ByteArray
  sub : ByteArray
  drv : ByteArray
  ali : ByteArray
  kind : Int
  num : Int
  ats : List (ByteArray × ByteArray)

/-- The device with an Index: the first one. -/
def fnd (l : List ADev) (n : Int) : Option ADev := l.find? fun d => d.idx == n
/-- A device and its ancestors, at most k of them. -/
def up (l : List ADev) : Nat → Int → List ADev
  | 0, _ => []
  | k + 1, n => match fnd l n with
    | none => []
    | some d => d :: up l k d.par

theorem up_take (l : List ADev) : ∀ (k m : Nat) (n : Int), k ≤ m → up l k n = (up l m n).take k
  | 0, _, _, _ => by rw [List.take_zero]; rfl
  | k + 1, 0, _, h => by omega
  | k + 1, m + 1, n, h => by
    unfold up
    cases fnd l n with
    | none => rfl
    | some d => simp only [List.take_succ_cons]; rw [up_take l k m d.par (by omega)]
theorem up_more {l : List ADev} {k m : Nat} {n : Int} (h : (up l m n).length ≤ k) (hk : k ≤ m) : up l k n = up l m n := by
  rw [up_take l k m n hk, List.take_of_length_le h]

/-- Different Indexes that are not 0; each parent is 0 or ahead. -/
structure Tidy (l : List ADev) : Prop where
  uniq : l.Pairwise fun a b => a.idx ≠ b.idx
  pos : ∀ d ∈ l, d.idx ≠ 0
  par : ∀ (i : Nat) d, l[i]? = some d → d.par = 0 ∨ ∃ (j : Nat) (p : ADev), j < i ∧ l[j]? = some p ∧ p.idx = d.par

theorem fnd_mem {l : List ADev} {n : Int} {d : ADev} (h : fnd l n = some d) : d ∈ l ∧ d.idx = n := by
  unfold fnd at h
  exact ⟨List.mem_of_find?_eq_some h, by simpa using List.find?_some h⟩
theorem fnd_none {l : List ADev} {n : Int} (h : fnd l n = none) : ∀ d ∈ l, d.idx ≠ n := fun d hd he => by
  have := List.find?_eq_none.1 h d hd
  simp [he] at this
theorem uniq_at {l : List ADev} (h : l.Pairwise fun a b => a.idx ≠ b.idx) {i j : Nat} {a b : ADev} (ha : l[i]? = some a) (hb : l[j]? = some b) (he : a.idx = b.idx) : i = j ∧ a = b := by
  obtain ⟨hi, rfl⟩ := List.getElem?_eq_some_iff.1 ha
  obtain ⟨hj, rfl⟩ := List.getElem?_eq_some_iff.1 hb
  rw [List.pairwise_iff_getElem] at h
  rcases Nat.lt_trichotomy i j with g | g | g
  · exact absurd he (h i j hi hj g)
  · subst g
    exact ⟨rfl, rfl⟩
  · exact absurd he.symm (h j i hj hi g)
theorem fnd_at {l : List ADev} (h : l.Pairwise fun a b => a.idx ≠ b.idx) {i : Nat} {d : ADev} (hd : l[i]? = some d) : fnd l d.idx = some d := by
  cases hf : fnd l d.idx with
  | none => exact absurd rfl (fnd_none hf d (List.mem_of_getElem? hd))
  | some e =>
    obtain ⟨he, hi⟩ := fnd_mem hf
    obtain ⟨j, hj⟩ := List.mem_iff_getElem?.1 he
    rw [(uniq_at h hj hd hi).2]
theorem Tidy.zero {l : List ADev} (h : Tidy l) : fnd l 0 = none := by
  cases hf : fnd l 0 with
  | none => rfl
  | some e => exact absurd (fnd_mem hf).2 (h.pos e (fnd_mem hf).1)
theorem up_zero {l : List ADev} (h : Tidy l) : ∀ k, up l k 0 = []
  | 0 => rfl
  | k + 1 => by unfold up; rw [h.zero]

/-- The way to the root is no longer than the place. -/
theorem Tidy.up_le {l : List ADev} (h : Tidy l) : ∀ (i : Nat) (d : ADev) (k : Nat), l[i]? = some d → (up l k d.idx).length ≤ i + 1 := by
  intro i
  induction i using Nat.strongRecOn with
  | ind i ih =>
    intro d k hd
    cases k with
    | zero => exact Nat.zero_le _
    | succ k =>
      unfold up
      rw [fnd_at h.uniq hd]
      simp only [List.length_cons]
      rcases h.par i d hd with h0 | ⟨j, p, hj, hp, he⟩
      · rw [h0, up_zero h]
        exact Nat.le_add_left _ _
      · rw [← he]
        have := ih j hj p k hp
        omega
theorem Tidy.up_enough {l : List ADev} (h : Tidy l) {k m : Nat} (hk : l.length ≤ k) (hm : k ≤ m) (n : Int) : up l k n = up l m n := by
  refine up_more ?_ hm
  cases m with
  | zero => exact Nat.zero_le _
  | succ m =>
    cases hf : fnd l n with
    | none => unfold up; rw [hf]; exact Nat.zero_le _
    | some d =>
      obtain ⟨hd, rfl⟩ := fnd_mem hf
      obtain ⟨i, hi⟩ := List.mem_iff_getElem?.1 hd
      have := h.up_le i d (m + 1) hi
      have := (List.getElem?_eq_some_iff.1 hi).1
      omega

/-- All of the way. -/
def ups (l : List ADev) (n : Int) : List ADev := up l l.length n
theorem ups_of {l : List ADev} (h : Tidy l) {i : Nat} {d : ADev} (hd : l[i]? = some d) : ups l d.idx = d :: ups l d.par := by
  have h1 : ups l d.idx = up l (l.length + 1) d.idx := h.up_enough (Nat.le_refl _) (Nat.le_succ _) _
  rw [h1]
  show up l (l.length + 1) d.idx = _
  unfold up
  rw [fnd_at h.uniq hd]
  rfl
theorem ups_none {l : List ADev} {n : Int} (h : fnd l n = none) : ups l n = [] := by
  unfold ups
  cases l.length with
  | zero => rfl
  | succ k => unfold up; rw [h]

theorem Tidy.left {p q : List ADev} (h : Tidy (p ++ q)) : Tidy p := by
  refine ⟨(List.pairwise_append.1 h.uniq).1, fun d hd => h.pos d (List.mem_append.2 (Or.inl hd)), fun i d hd => ?_⟩
  have hi := (List.getElem?_eq_some_iff.1 hd).1
  rcases h.par i d (by rw [List.getElem?_append_left hi]; exact hd) with h0 | ⟨j, e, hj, he, hp⟩
  · exact Or.inl h0
  · exact Or.inr ⟨j, e, hj, by rwa [List.getElem?_append_left (by omega)] at he, hp⟩
end Go.Proofs.Ythblgkjmjfhkdaa.De

namespace Go.Proofs.Ythblgkjmjfhkdaa.De

/-- Two lists of names: the first names that differ decide. -/
def cmpN : List (List UInt8) → List (List UInt8) → Int
  | [], [] => 0
  | [], _ :: _ => -1
  | _ :: _, [] => 1
  | x :: a, y :: b => if x = y then cmpN a b else Lib.compareBytes x y

theorem cB_self : ∀ x, Lib.compareBytes x x = 0
  | [] => rfl
  | c :: x => by
    rw [Lib.compareBytes, cB_self x]
    simp
theorem cB_trans : ∀ {x y z}, Lib.compareBytes x y < 0 → Lib.compareBytes y z < 0 → Lib.compareBytes x z < 0
  | [], [], _, h, _ => by exact absurd h (by decide)
  | [], _ :: _, [], _, h => by exact absurd h (by show ¬ (1 : Int) < 0; omega)
  | [], _ :: _, _ :: _, _, _ => by show (-1 : Int) < 0; omega
  | _ :: _, [], _, h, _ => by exact absurd h (by show ¬ (1 : Int) < 0; omega)
  | _ :: _, _ :: _, [], _, h => by exact absurd h (by show ¬ (1 : Int) < 0; omega)
  | c :: x, d :: y, e :: z, h1, h2 => by
    rw [Lib.compareBytes] at h1 h2 ⊢
    have key : ∀ a b : UInt8, a < b ↔ a.toNat < b.toNat := fun a b => UInt8.lt_iff_toNat_lt
    simp only [key] at *
    split at h1
    · split at h2
      · rw [if_pos (by omega)]; omega
      · split at h2
        · omega
        · rw [if_pos (by omega)]; omega
    · split at h1
      · omega
      · split at h2
        · rw [if_pos (by omega)]; omega
        · split at h2
          · omega
          · rw [if_neg (by omega), if_neg (by omega)]
            exact cB_trans h1 h2

theorem cmpN_self : ∀ xs, cmpN xs xs = 0
  | [] => rfl
  | x :: xs => by rw [cmpN, if_pos rfl, cmpN_self xs]
theorem cmpN_trans : ∀ {xs ys zs}, cmpN xs ys < 0 → cmpN ys zs < 0 → cmpN xs zs < 0
  | [], [], _, h, _ => by exact absurd h (by decide)
  | [], _ :: _, [], _, h => by exact absurd h (by show ¬ (1 : Int) < 0; omega)
  | [], _ :: _, _ :: _, _, _ => by show (-1 : Int) < 0; omega
  | _ :: _, [], _, h, _ => by exact absurd h (by show ¬ (1 : Int) < 0; omega)
  | _ :: _, _ :: _, [], _, h => by exact absurd h (by show ¬ (1 : Int) < 0; omega)
  | x :: xs, y :: ys, z :: zs, h1, h2 => by
    rw [cmpN] at h1 h2 ⊢
    by_cases e1 : x = y
    · subst e1
      rw [if_pos rfl] at h1
      by_cases e2 : x = z
      · rw [if_pos e2] at h2 ⊢
        exact cmpN_trans h1 h2
      · rw [if_neg e2] at h2 ⊢
        exact h2
    · rw [if_neg e1] at h1
      by_cases e2 : y = z
      · subst e2
        rw [if_neg e1]
        exact h1
      · rw [if_neg e2] at h2
        have h3 := cB_trans h1 h2
        by_cases e3 : x = z
        · subst e3
          rw [cB_self] at h3
          omega
        · rw [if_neg e3]
          exact h3
theorem cmpN_append : ∀ (p xs ys : List (List UInt8)), cmpN (p ++ xs) (p ++ ys) = cmpN xs ys
  | [], _, _ => rfl
  | x :: p, xs, ys => by rw [List.cons_append, List.cons_append, cmpN, if_pos rfl, cmpN_append p xs ys]
theorem cmpN_prefix {p xs : List (List UInt8)} (h : xs ≠ []) : cmpN p (p ++ xs) < 0 := by
  have := cmpN_append p [] xs
  rw [List.append_nil] at this
  rw [this]
  cases xs with
  | nil => exact absurd rfl h
  | cons x xs => show (-1 : Int) < 0; omega
end Go.Proofs.Ythblgkjmjfhkdaa.De

namespace Go.Proofs.Ythblgkjmjfhkdaa.De

/-- The names of a device's origin, the root's first. -/
def org (l : List ADev) (d : ADev) : List (List UInt8) := ((d :: ups l d.par).map fun e => e.orig.data.toList).reverse
theorem org_child {l : List ADev} (h : Tidy l) {d p : ADev} (hp : p ∈ l) (he : p.idx = d.par) : org l d = org l p ++ [d.orig.data.toList] := by
  obtain ⟨j, hj⟩ := List.mem_iff_getElem?.1 hp
  unfold org
  rw [← he, ups_of h hj]
  simp
theorem org_before {l : List ADev} (h : Tidy l) {d p : ADev} (hp : p ∈ l) (he : p.idx = d.par) : cmpN (org l p) (org l d) < 0 := by
  rw [org_child h hp he]
  exact cmpN_prefix (by simp)

theorem Tidy.parent {l : List ADev} (h : Tidy l) {d : ADev} (hd : d ∈ l) : d.par = 0 ∨ ∃ p ∈ l, p.idx = d.par := by
  obtain ⟨i, hi⟩ := List.mem_iff_getElem?.1 hd
  rcases h.par i d hi with h0 | ⟨j, p, _, hp, he⟩
  · exact Or.inl h0
  · exact Or.inr ⟨p, List.mem_of_getElem? hp, he⟩

/-- Where a list ascends by what a child has more than its parent, parents are ahead. -/
theorem ahead_of_asc {l : List ADev} {O : ADev → List (List UInt8)} (ha : l.Pairwise fun a b => cmpN (O a) (O b) < 0) (hp : ∀ d ∈ l, d.par = 0 ∨ ∃ p ∈ l, p.idx = d.par ∧ cmpN (O p) (O d) < 0) :
    ∀ (i : Nat) d, l[i]? = some d → d.par = 0 ∨ ∃ (j : Nat) (p : ADev), j < i ∧ l[j]? = some p ∧ p.idx = d.par := fun i d hd => by
  rcases hp d (List.mem_of_getElem? hd) with h0 | ⟨p, hpm, he, hlt⟩
  · exact Or.inl h0
  · obtain ⟨j, hj⟩ := List.mem_iff_getElem?.1 hpm
    refine Or.inr ⟨j, p, ?_, hj, he⟩
    rw [List.pairwise_iff_getElem] at ha
    obtain ⟨hi', rfl⟩ := List.getElem?_eq_some_iff.1 hd
    obtain ⟨hj', rfl⟩ := List.getElem?_eq_some_iff.1 hj
    rcases Nat.lt_trichotomy j i with g | g | g
    · exact g
    · subst g
      rw [cmpN_self] at hlt
      omega
    · have h1 := ha i j hi' hj' g
      have h2 := cmpN_trans h1 hlt
      rw [cmpN_self] at h2
      omega

/-- A tree is valid: sound devices, that clash with none ahead. -/
structure Valid (snd : ADev → Bool) (cl : ADev → ADev → Bool) (l : List ADev) : Prop where
  size : l.length ≤ 256
  tidy : Tidy l
  sound : ∀ d ∈ l, snd d = true
  depth : ∀ d ∈ l, (org l d).length ≤ 7
  asc : l.Pairwise fun a b => cmpN (org l a) (org l b) < 0
  apart : l.Pairwise fun a b => cl a b = false

theorem Valid.nil (snd : ADev → Bool) (cl : ADev → ADev → Bool) : Valid snd cl [] :=
  ⟨Nat.zero_le _, ⟨.nil, fun _ h => (by cases h), fun i d h => by simp at h⟩, fun _ h => (by cases h), fun _ h => (by cases h), .nil, .nil⟩

section
variable {snd : ADev → Bool} {cl : ADev → ADev → Bool}

end
end Go.Proofs.Ythblgkjmjfhkdaa.De

namespace Go.Proofs.Ythblgkjmjfhkdaa.De

/-- A device is the one with an Index or lies below it. -/
def bel (l : List ADev) (e : ADev) (n : Int) : Bool := (ups l e.idx).any fun a => a.idx == n
/-- By the place in the list: what holds of roots, and of a device whose parent has it, holds of all. -/
theorem Tidy.rec' {l : List ADev} (h : Tidy l) {P : ADev → Prop} (h0 : ∀ d ∈ l, d.par = 0 → P d) (h1 : ∀ d ∈ l, ∀ p ∈ l, p.idx = d.par → P p → P d) : ∀ d ∈ l, P d := by
  have key : ∀ (i : Nat) d, l[i]? = some d → P d := by
    intro i
    induction i using Nat.strongRecOn with
    | ind i ih =>
      intro d hd
      rcases h.par i d hd with g | ⟨j, p, hj, hp, he⟩
      · exact h0 d (List.mem_of_getElem? hd) g
      · exact h1 d (List.mem_of_getElem? hd) p (List.mem_of_getElem? hp) he (ih j hj p hp)
  intro d hd
  obtain ⟨i, hi⟩ := List.mem_iff_getElem?.1 hd
  exact key i d hi

section
variable {snd : ADev → Bool} {cl : ADev → ADev → Bool}

/-- A part of a tree that has the parents of its devices: their ways to the root are the same. -/
theorem part_ups {l m : List ADev} (h : Tidy l) (hm : Tidy m) (hsub : ∀ e ∈ m, e ∈ l) : ∀ d ∈ m, ups m d.par = ups l d.par := by
  have key : ∀ d ∈ m, ups m d.idx = ups l d.idx ∧ ups m d.par = ups l d.par := by
    refine hm.rec' (fun d hd h0 => ?_) (fun d hd p hp hpd ih => ?_)
    · obtain ⟨i, hi⟩ := List.mem_iff_getElem?.1 hd
      obtain ⟨j, hj⟩ := List.mem_iff_getElem?.1 (hsub d hd)
      rw [ups_of hm hi, ups_of h hj, h0, ups_none hm.zero, ups_none h.zero]
      exact ⟨rfl, rfl⟩
    · obtain ⟨i, hi⟩ := List.mem_iff_getElem?.1 hd
      obtain ⟨j, hj⟩ := List.mem_iff_getElem?.1 (hsub d hd)
      rw [ups_of hm hi, ups_of h hj, ← hpd, ih.1]
      exact ⟨rfl, rfl⟩
  exact fun d hd => (key d hd).2
theorem part_org {l m : List ADev} (h : Tidy l) (hm : Tidy m) (hsub : ∀ e ∈ m, e ∈ l) {d : ADev} (hd : d ∈ m) : org m d = org l d := by
  unfold org
  rw [part_ups h hm hsub d hd]

/-- A part of a valid tree, in its order, that has the parents of its devices, is valid. -/
theorem Valid.part {l m : List ADev} (h : Valid snd cl l) (hs : m.Sublist l) (hp : ∀ d ∈ m, d.par = 0 ∨ ∃ p ∈ m, p.idx = d.par) : Valid snd cl m := by
  have hsub : ∀ e ∈ m, e ∈ l := fun e he => hs.subset he
  have hasc : m.Pairwise fun a b => cmpN (org l a) (org l b) < 0 := h.asc.sublist hs
  have htidy : Tidy m := by
    refine ⟨h.tidy.uniq.sublist hs, fun e he => h.tidy.pos e (hsub e he), ahead_of_asc hasc fun e he => ?_⟩
    rcases hp e he with h0 | ⟨p, hpm, hpe⟩
    · exact Or.inl h0
    · exact Or.inr ⟨p, hpm, hpe, org_before h.tidy (hsub p hpm) hpe⟩
  refine ⟨Nat.le_trans hs.length_le h.size, htidy, fun e he => h.sound e (hsub e he), fun e he => ?_, ?_, h.apart.sublist hs⟩
  · rw [part_org h.tidy htidy hsub he]
    exact h.depth e (hsub e he)
  · refine List.Pairwise.imp_of_mem (fun ha hb hab => ?_) hasc
    rw [part_org h.tidy htidy hsub ha, part_org h.tidy htidy hsub hb]
    exact hab

end
end Go.Proofs.Ythblgkjmjfhkdaa.De
