/- Trees of devices, on lists: looking up, the way to the root, origins. The order of lists of names. Valid trees, on lists; inserting a device. Valid trees, on lists: subtrees, removing, changing. -/
import Derived.WalkKit
import Derived.Lib.Bytealg
namespace Go.Proofs.YtldcediiobfhiaaGreatDoor.De
/-- A device, without the places of its attributes in memory. -/
structure ADev where
 idx : Int
 par : Int
 name : ByteArray
 orig : ByteArray
 sub : ByteArray
 drv : ByteArray
 ali : ByteArray
 kind : Int
 num : Int
 ats : List (ByteArray × ByteArray)
/-- The device with an Index: the first one. -/
def fnd (l : List ADev) (n : Int) : Option ADev := l.find? fun d => d.idx == n
/-- A device and its ancestors, at most k of them. -/
def up (l : List ADev) : Nat → Int → List ADev
 | 0, _ => []
 | k + 1, n => match fnd l n with
  | none => []
  | some d => d :: up l k d.par
theorem up_take (l : List ADev) : ∀ (k m : Nat) (n : Int), k ≤ m → up l k n = (up l m n).take k
 | 0, _, _, _ => by rw [List.take_zero]; rfl
 | k + 1, 0, _, h => by omega
 | k + 1, m + 1, n, h => by
  unfold up
  cases fnd l n with
  | none => rfl
  | some d => simp only [List.take_succ_cons]; rw [up_take l k m d.par (by omega)]
theorem up_len (l : List ADev) : ∀ (k : Nat) (n : Int), (up l k n).length ≤ k
 | 0, _ => Nat.le_refl _
 | k + 1, n => by
  unfold up
  cases fnd l n with
  | none => exact Nat.zero_le _
  | some d => exact Nat.succ_le_succ (up_len l k d.par)
theorem up_more {l : List ADev} {k m : Nat} {n : Int} (h : (up l m n).length ≤ k) (hk : k ≤ m) : up l k n = up l m n := by
 rw [up_take l k m n hk, List.take_of_length_le h]
/-- Different Indexes that are not 0; each parent is 0 or ahead. -/
structure Tidy (l : List ADev) : Prop where
 uniq : l.Pairwise fun a b => a.idx ≠ b.idx
 pos : ∀ d ∈ l, d.idx ≠ 0
 par : ∀ (i : Nat) d, l[i]? = some d → d.par = 0 ∨ ∃ (j : Nat) (p : ADev), j < i ∧ l[j]? = some p ∧ p.idx = d.par
theorem fnd_mem {l : List ADev} {n : Int} {d : ADev} (h : fnd l n = some d) : d ∈ l ∧ d.idx = n := by
 unfold fnd at h
 exact ⟨List.mem_of_find?_eq_some h, by simpa using List.find?_some h⟩
theorem fnd_none {l : List ADev} {n : Int} (h : fnd l n = none) : ∀ d ∈ l, d.idx ≠ n := fun d hd he => by
 have := List.find?_eq_none.1 h d hd
 simp [he] at this
theorem uniq_at {l : List ADev} (h : l.Pairwise fun a b => a.idx ≠ b.idx) {i j : Nat} {a b : ADev} (ha : l[i]? = some a) (hb : l[j]? = some b) (he : a.idx = b.idx) : i = j ∧ a = b := by
 obtain ⟨hi, rfl⟩ := List.getElem?_eq_some_iff.1 ha
 obtain ⟨hj, rfl⟩ := List.getElem?_eq_some_iff.1 hb
 rw [List.pairwise_iff_getElem] at h
 rcases Nat.lt_trichotomy i j with g | g | g
 ·exact absurd he (h i j hi hj g)
 ·subst g
  exact ⟨rfl, rfl⟩
 ·exact absurd he.symm (h j i hj hi g)
theorem fnd_at {l : List ADev} (h : l.Pairwise fun a b => a.idx ≠ b.idx) {i : Nat} {d : ADev} (hd : l[i]? = some d) : fnd l d.idx = some d := by
 cases hf : fnd l d.idx with
 | none => exact absurd rfl (fnd_none hf d (List.mem_of_getElem? hd))
 | some e =>
  obtain ⟨he, hi⟩ := fnd_mem hf
  obtain ⟨j, hj⟩ := List.mem_iff_getElem?.1 he
  rw [(uniq_at h hj hd hi).2]
theorem Tidy.zero {l : List ADev} (h : Tidy l) : fnd l 0 = none := by
 cases hf : fnd l 0 with
 | none => rfl
 | some e => exact absurd (fnd_mem hf).2 (h.pos e (fnd_mem hf).1)
theorem up_zero {l : List ADev} (h : Tidy l) : ∀ k, up l k 0 = []
 | 0 => rfl
 | k + 1 => by unfold up; rw [h.zero]
/-- The way to the root is no longer than the place. -/
theorem Tidy.up_le {l : List ADev} (h : Tidy l) : ∀ (i : Nat) (d : ADev) (k : Nat), l[i]? = some d → (up l k d.idx).length ≤ i + 1 := by
 intro i
 induction i using Nat.strongRecOn with
 | ind i ih =>
  intro d k hd
  cases k with
  | zero => exact Nat.zero_le _
  | succ k =>
   unfold up
   rw [fnd_at h.uniq hd]
   simp only [List.length_cons]
   rcases h.par i d hd with h0 | ⟨j, p, hj, hp, he⟩
   ·rw [h0, up_zero h]
    exact Nat.le_add_left _ _
   ·rw [← he]
    have := ih j hj p k hp
    omega
theorem Tidy.up_enough {l : List ADev} (h : Tidy l) {k m : Nat} (hk : l.length ≤ k) (hm : k ≤ m) (n : Int) : up l k n = up l m n := by
 refine up_more ?_ hm
 cases m with
 | zero => exact Nat.zero_le _
 | succ m =>
  cases hf : fnd l n with
  | none => unfold up; rw [hf]; exact Nat.zero_le _
  | some d =>
   obtain ⟨hd, rfl⟩ := fnd_mem hf
   obtain ⟨i, hi⟩ := List.mem_iff_getElem?.1 hd
   have := h.up_le i d (m + 1) hi
   have := (List.getElem?_eq_some_iff.1 hi).1
   omega
/-- All of the way. -/
def ups (l : List ADev) (n : Int) : List ADev := up l l.length n
theorem ups_of {l : List ADev} (h : Tidy l) {i : Nat} {d : ADev} (hd : l[i]? = some d) : ups l d.idx = d :: ups l d.par := by
 have h1 : ups l d.idx = up l (l.length + 1) d.idx := h.up_enough (Nat.le_refl _) (Nat.le_succ _) _
 rw [h1]
 show up l (l.length + 1) d.idx = _
 unfold up
 rw [fnd_at h.uniq hd]
 rfl
theorem ups_none {l : List ADev} {n : Int} (h : fnd l n = none) : ups l n = [] := by
 unfold ups
 cases l.length with
 | zero => rfl
 | succ k => unfold up; rw [h]
/-- What stands ahead is looked up as in the whole. -/
theorem fnd_append {p q : List ADev} {n : Int} {d : ADev} (h : fnd p n = some d) : fnd (p ++ q) n = some d := by
 unfold fnd at *
 rw [List.find?_append, h]
 rfl
theorem Tidy.left {p q : List ADev} (h : Tidy (p ++ q)) : Tidy p := by
 refine ⟨(List.pairwise_append.1 h.uniq).1, fun d hd => h.pos d (List.mem_append.2 (Or.inl hd)), fun i d hd => ?_⟩
 have hi := (List.getElem?_eq_some_iff.1 hd).1
 rcases h.par i d (by rw [List.getElem?_append_left hi]; exact hd) with h0 | ⟨j, e, hj, he, hp⟩
 ·exact Or.inl h0
 ·exact Or.inr ⟨j, e, hj, by rwa [List.getElem?_append_left (by omega)] at he, hp⟩
theorem up_append {p q : List ADev} (h : Tidy (p ++ q)) : ∀ (k : Nat) (n : Int), (n = 0 ∨ ∃ d, fnd p n = some d) → up (p ++ q) k n = up p k n
 | 0, _, _ => rfl
 | k + 1, n, hn => by
  rcases hn with rfl | ⟨d, hd⟩
  ·rw [up_zero h, up_zero h.left]
  ·unfold up
   rw [hd, fnd_append hd]
   simp only
   rw [up_append h k d.par]
   obtain ⟨hm, _⟩ := fnd_mem hd
   obtain ⟨i, hi⟩ := List.mem_iff_getElem?.1 hm
   rcases h.left.par i d hi with h0 | ⟨j, e, _, he, hp⟩
   ·exact Or.inl h0
   ·exact Or.inr ⟨e, by rw [← hp]; exact fnd_at h.left.uniq he⟩
theorem ups_append {p q : List ADev} (h : Tidy (p ++ q)) {n : Int} (hn : n = 0 ∨ ∃ d, fnd p n = some d) : ups (p ++ q) n = ups p n := by
 unfold ups
 rw [up_append h _ n hn]
 exact (h.left.up_enough (Nat.le_refl _) (by rw [List.length_append]; omega) n).symm
end Go.Proofs.YtldcediiobfhiaaGreatDoor.De
namespace Go.Proofs.YtldcediiobfhiaaGreatDoor.De
/-- Two lists of names: the first names that differ decide. -/
def cmpN : List (List UInt8) → List (List UInt8) → Int
 | [], [] => 0
 | [], _ :: _ => -1
 | _ :: _, [] => 1
 | x :: a, y :: b => if x = y then cmpN a b else Lib.compareBytes x y
theorem cB_self : ∀ x, Lib.compareBytes x x = 0
 | [] => rfl
 | c :: x => by
  rw [Lib.compareBytes, cB_self x]
  simp
theorem cB_neg : ∀ x y, Lib.compareBytes y x = -Lib.compareBytes x y
 | [], [] => rfl
 | [], _ :: _ => rfl
 | _ :: _, [] => rfl
 | c :: x, d :: y => by
  rw [Lib.compareBytes, Lib.compareBytes, cB_neg x y]
  by_cases h1 : c < d
  ·have h2 : ¬ d < c := fun h => by
    have a := UInt8.lt_iff_toNat_lt.1 h1
    have b := UInt8.lt_iff_toNat_lt.1 h
    omega
   simp [h1, h2]
  ·by_cases h2 : d < c
   ·simp [h1, h2]
   ·simp [h1, h2]
theorem cB_eq : ∀ {x y}, Lib.compareBytes x y = 0 → x = y
 | [], [], _ => rfl
 | [], _ :: _, h => by cases h
 | _ :: _, [], h => by cases h
 | c :: x, d :: y, h => by
  rw [Lib.compareBytes] at h
  by_cases h1 : c < d
  ·simp [h1] at h
  ·by_cases h2 : d < c
   ·simp [h1, h2] at h
   ·simp only [h1, h2, if_false] at h
    have a : ¬ c.toNat < d.toNat := fun g => h1 (UInt8.lt_iff_toNat_lt.2 g)
    have b : ¬ d.toNat < c.toNat := fun g => h2 (UInt8.lt_iff_toNat_lt.2 g)
    rw [cB_eq h, UInt8.toNat_inj.1 (show c.toNat = d.toNat by omega)]
theorem cB_trans : ∀ {x y z}, Lib.compareBytes x y < 0 → Lib.compareBytes y z < 0 → Lib.compareBytes x z < 0
 | [], [], _, h, _ => by exact absurd h (by decide)
 | [], _ :: _, [], _, h => by exact absurd h (by show ¬ (1 : Int) < 0; omega)
 | [], _ :: _, _ :: _, _, _ => by show (-1 : Int) < 0; omega
 | _ :: _, [], _, h, _ => by exact absurd h (by show ¬ (1 : Int) < 0; omega)
 | _ :: _, _ :: _, [], _, h => by exact absurd h (by show ¬ (1 : Int) < 0; omega)
 | c :: x, d :: y, e :: z, h1, h2 => by
  rw [Lib.compareBytes] at h1 h2 ⊢
  have key : ∀ a b : UInt8, a < b ↔ a.toNat < b.toNat := fun a b => UInt8.lt_iff_toNat_lt
  simp only [key] at *
  split at h1
  ·split at h2
   ·rw [if_pos (by omega)]; omega
   ·split at h2
    ·omega
    ·rw [if_pos (by omega)]; omega
  ·split at h1
   ·omega
   ·split at h2
    ·rw [if_pos (by omega)]; omega
    ·split at h2
     ·omega
     ·rw [if_neg (by omega), if_neg (by omega)]
      exact cB_trans h1 h2
theorem cmpN_self : ∀ xs, cmpN xs xs = 0
 | [] => rfl
 | x :: xs => by rw [cmpN, if_pos rfl, cmpN_self xs]
theorem cmpN_eq : ∀ {xs ys}, cmpN xs ys = 0 → xs = ys
 | [], [], _ => rfl
 | [], _ :: _, h => by cases h
 | _ :: _, [], h => by cases h
 | x :: xs, y :: ys, h => by
  rw [cmpN] at h
  split at h
  ·rename_i e
   rw [e, cmpN_eq h]
  ·rename_i e
   exact absurd (cB_eq h) e
theorem cmpN_neg : ∀ xs ys, cmpN ys xs = -cmpN xs ys
 | [], [] => rfl
 | [], _ :: _ => rfl
 | _ :: _, [] => rfl
 | x :: xs, y :: ys => by
  rw [cmpN, cmpN]
  by_cases e : x = y
  ·rw [if_pos e, if_pos e.symm, cmpN_neg xs ys]
  ·rw [if_neg e, if_neg (fun h => e h.symm), cB_neg x y]
theorem cmpN_trans : ∀ {xs ys zs}, cmpN xs ys < 0 → cmpN ys zs < 0 → cmpN xs zs < 0
 | [], [], _, h, _ => by exact absurd h (by decide)
 | [], _ :: _, [], _, h => by exact absurd h (by show ¬ (1 : Int) < 0; omega)
 | [], _ :: _, _ :: _, _, _ => by show (-1 : Int) < 0; omega
 | _ :: _, [], _, h, _ => by exact absurd h (by show ¬ (1 : Int) < 0; omega)
 | _ :: _, _ :: _, [], _, h => by exact absurd h (by show ¬ (1 : Int) < 0; omega)
 | x :: xs, y :: ys, z :: zs, h1, h2 => by
  rw [cmpN] at h1 h2 ⊢
  by_cases e1 : x = y
  ·subst e1
   rw [if_pos rfl] at h1
   by_cases e2 : x = z
   ·rw [if_pos e2] at h2 ⊢
    exact cmpN_trans h1 h2
   ·rw [if_neg e2] at h2 ⊢
    exact h2
  ·rw [if_neg e1] at h1
   by_cases e2 : y = z
   ·subst e2
    rw [if_neg e1]
    exact h1
   ·rw [if_neg e2] at h2
    have h3 := cB_trans h1 h2
    by_cases e3 : x = z
    ·subst e3
     rw [cB_self] at h3
     omega
    ·rw [if_neg e3]
     exact h3
theorem cmpN_total {xs ys} (h : ¬ cmpN xs ys < 0) (hne : xs ≠ ys) : cmpN ys xs < 0 := by
 have h1 := cmpN_neg xs ys
 have h2 : cmpN xs ys ≠ 0 := fun e => hne (cmpN_eq e)
 omega
theorem cmpN_append : ∀ (p xs ys : List (List UInt8)), cmpN (p ++ xs) (p ++ ys) = cmpN xs ys
 | [], _, _ => rfl
 | x :: p, xs, ys => by rw [List.cons_append, List.cons_append, cmpN, if_pos rfl, cmpN_append p xs ys]
theorem cmpN_prefix {p xs : List (List UInt8)} (h : xs ≠ []) : cmpN p (p ++ xs) < 0 := by
 have := cmpN_append p [] xs
 rw [List.append_nil] at this
 rw [this]
 cases xs with
 | nil => exact absurd rfl h
 | cons x xs => show (-1 : Int) < 0; omega
/-- What stands between a list and one that begins with it begins with it. -/
theorem cmpN_between : ∀ {p ys xs : List (List UInt8)}, cmpN p ys < 0 → cmpN ys (p ++ xs) < 0 → p <+: ys
 | [], ys, _, _, _ => List.nil_prefix
 | x :: p, [], _, h, _ => by exact absurd h (by show ¬ (1 : Int) < 0; omega)
 | x :: p, y :: ys, xs, h1, h2 => by
  rw [List.cons_append] at h2
  rw [cmpN] at h1 h2
  by_cases e : x = y
  ·subst e
   rw [if_pos rfl] at h1 h2
   exact List.prefix_cons_inj x |>.2 (cmpN_between h1 h2)
  ·rw [if_neg e] at h1
   rw [if_neg (fun h => e h.symm)] at h2
   have := cB_neg x y
   omega
end Go.Proofs.YtldcediiobfhiaaGreatDoor.De
namespace Go.Proofs.YtldcediiobfhiaaGreatDoor.De
/-- The names of a device's origin, the root's first. -/
def org (l : List ADev) (d : ADev) : List (List UInt8) := ((d :: ups l d.par).map fun e => e.orig.data.toList).reverse
theorem org_child {l : List ADev} (h : Tidy l) {d p : ADev} (hp : p ∈ l) (he : p.idx = d.par) : org l d = org l p ++ [d.orig.data.toList] := by
 obtain ⟨j, hj⟩ := List.mem_iff_getElem?.1 hp
 unfold org
 rw [← he, ups_of h hj]
 simp
theorem org_root {l : List ADev} (h : Tidy l) {d : ADev} (hd : d.par = 0) : org l d = [d.orig.data.toList] := by
 unfold org
 rw [hd, ups_none h.zero]
 rfl
theorem org_ne (l : List ADev) (d : ADev) : org l d ≠ [] := by unfold org; simp
theorem org_before {l : List ADev} (h : Tidy l) {d p : ADev} (hp : p ∈ l) (he : p.idx = d.par) : cmpN (org l p) (org l d) < 0 := by
 rw [org_child h hp he]
 exact cmpN_prefix (by simp)
theorem Tidy.parent {l : List ADev} (h : Tidy l) {d : ADev} (hd : d ∈ l) : d.par = 0 ∨ ∃ p ∈ l, p.idx = d.par := by
 obtain ⟨i, hi⟩ := List.mem_iff_getElem?.1 hd
 rcases h.par i d hi with h0 | ⟨j, p, _, hp, he⟩
 ·exact Or.inl h0
 ·exact Or.inr ⟨p, List.mem_of_getElem? hp, he⟩
/-- Where a list ascends by what a child has more than its parent, parents are ahead. -/
theorem ahead_of_asc {l : List ADev} {O : ADev → List (List UInt8)} (ha : l.Pairwise fun a b => cmpN (O a) (O b) < 0) (hp : ∀ d ∈ l, d.par = 0 ∨ ∃ p ∈ l, p.idx = d.par ∧ cmpN (O p) (O d) < 0) :
  ∀ (i : Nat) d, l[i]? = some d → d.par = 0 ∨ ∃ (j : Nat) (p : ADev), j < i ∧ l[j]? = some p ∧ p.idx = d.par := fun i d hd => by
 rcases hp d (List.mem_of_getElem? hd) with h0 | ⟨p, hpm, he, hlt⟩
 ·exact Or.inl h0
 ·obtain ⟨j, hj⟩ := List.mem_iff_getElem?.1 hpm
  refine Or.inr ⟨j, p, ?_, hj, he⟩
  rw [List.pairwise_iff_getElem] at ha
  obtain ⟨hi', rfl⟩ := List.getElem?_eq_some_iff.1 hd
  obtain ⟨hj', rfl⟩ := List.getElem?_eq_some_iff.1 hj
  rcases Nat.lt_trichotomy j i with g | g | g
  ·exact g
  ·subst g
   rw [cmpN_self] at hlt
   omega
  ·have h1 := ha i j hi' hj' g
   have h2 := cmpN_trans h1 hlt
   rw [cmpN_self] at h2
   omega
/-- Two lists in which a device is looked up alike, all along its way. -/
theorem up_same {l m : List ADev} {x : Int} (hf : ∀ n, n ≠ x → fnd m n = fnd l n) (hp : ∀ e ∈ l, e.par ≠ x) : ∀ (k : Nat) (n : Int), n ≠ x → up m k n = up l k n
 | 0, _, _ => rfl
 | k + 1, n, hn => by
  unfold up
  rw [hf n hn]
  cases hg : fnd l n with
  | none => rfl
  | some e => simp only; rw [up_same hf hp k e.par (hp e (fnd_mem hg).1)]
/-- A tree is valid: sound devices, that clash with none ahead. -/
structure Valid (snd : ADev → Bool) (cl : ADev → ADev → Bool) (l : List ADev) : Prop where
 size : l.length ≤ 256
 tidy : Tidy l
 sound : ∀ d ∈ l, snd d = true
 depth : ∀ d ∈ l, (org l d).length ≤ 7
 asc : l.Pairwise fun a b => cmpN (org l a) (org l b) < 0
 apart : l.Pairwise fun a b => cl a b = false
theorem Valid.nil (snd : ADev → Bool) (cl : ADev → ADev → Bool) : Valid snd cl [] :=
 ⟨Nat.zero_le _, ⟨.nil, fun _ h => (by cases h), fun i d h => by simp at h⟩, fun _ h => (by cases h), fun _ h => (by cases h), .nil, .nil⟩
/-- The list with a device at its place in the order. -/
def insL (l : List ADev) (d : ADev) : List ADev := (l.takeWhile fun e => decide (cmpN (org l e) (org l d) < 0)) ++ d :: (l.dropWhile fun e => decide (cmpN (org l e) (org l d) < 0))
theorem insL_perm (l : List ADev) (d : ADev) : (insL l d).Perm (d :: l) := by
 unfold insL
 refine List.perm_middle.trans ?_
 rw [List.takeWhile_append_dropWhile]
theorem mem_insL {l : List ADev} {d e : ADev} : e ∈ insL l d ↔ e = d ∨ e ∈ l := by
 rw [(insL_perm l d).mem_iff, List.mem_cons]
theorem takeWhile_lt {l : List ADev} {O : ADev → List (List UInt8)} {o : List (List UInt8)} : ∀ e ∈ l.takeWhile fun e => decide (cmpN (O e) o < 0), cmpN (O e) o < 0 := fun e he => by
 have := List.all_takeWhile (l := l) (p := fun e => decide (cmpN (O e) o < 0))
 exact of_decide_eq_true (List.all_eq_true.1 this e he)
theorem dropWhile_ge : ∀ {l : List ADev} {O : ADev → List (List UInt8)} {o : List (List UInt8)}, (l.Pairwise fun a b => cmpN (O a) (O b) < 0) → ∀ e ∈ l.dropWhile fun e => decide (cmpN (O e) o < 0), ¬ cmpN (O e) o < 0
 | [], _, _, _, e, he => by simp at he
 | a :: l, O, o, ha, e, he => by
  rw [List.pairwise_cons] at ha
  rw [List.dropWhile_cons] at he
  by_cases h : cmpN (O a) o < 0
  ·rw [if_pos (by simpa using h)] at he
   exact dropWhile_ge ha.2 e he
  ·rw [if_neg (by simpa using h)] at he
   rcases List.mem_cons.1 he with rfl | he
   ·exact h
   ·intro h2
    exact h (cmpN_trans (ha.1 e he) h2)
theorem fnd_mid (A B : List ADev) (d : ADev) (n : Int) (hn : n ≠ d.idx) : fnd (A ++ d :: B) n = fnd (A ++ B) n := by
 unfold fnd
 rw [List.find?_append, List.find?_append, List.find?_cons]
 have : (d.idx == n) = false := by rw [beq_eq_false_iff_ne]; exact fun h => hn h.symm
 rw [this]
section
variable {snd : ADev → Bool} {cl : ADev → ADev → Bool}
/-- What Insert asks of a device. -/
structure Fits (snd : ADev → Bool) (cl : ADev → ADev → Bool) (l : List ADev) (d : ADev) : Prop where
 snd : snd d = true
 pos : d.idx ≠ 0
 own : d.par ≠ d.idx
 fresh : ∀ e ∈ l, e.idx ≠ d.idx
 par : d.par = 0 ∨ ∃ p ∈ l, p.idx = d.par
 room : l.length < 256
 depth : (org l d).length ≤ 7
 new : ∀ e ∈ l, org l e ≠ org l d
 apart : ∀ e ∈ l, cl e d = false
theorem insL_fnd {l : List ADev} {d : ADev} {n : Int} (hn : n ≠ d.idx) : fnd (insL l d) n = fnd l n := by
 unfold insL
 rw [fnd_mid _ _ _ _ hn, List.takeWhile_append_dropWhile]
theorem Fits.par_ne {l : List ADev} {d : ADev} (ht : Tidy l) (h : Fits snd cl l d) : ∀ e ∈ l, e.par ≠ d.idx := fun e he => by
 rcases ht.parent he with h0 | ⟨p, hp, hpe⟩
 ·rw [h0]
  exact fun h' => h.pos h'.symm
 ·rw [← hpe]
  exact h.fresh p hp
theorem Fits.ups_same {l : List ADev} {d : ADev} (ht : Tidy l) (h : Fits snd cl l d) {n : Int} (hn : n ≠ d.idx) : ups (insL l d) n = ups l n := by
 unfold ups
 rw [(insL_perm l d).length_eq, List.length_cons, up_same (x := d.idx) (fun n hn => insL_fnd hn) (h.par_ne ht) _ n hn]
 exact (ht.up_enough (Nat.le_refl _) (Nat.le_succ _) n).symm
theorem Fits.org_old {l : List ADev} {d e : ADev} (ht : Tidy l) (h : Fits snd cl l d) (he : e ∈ l) : org (insL l d) e = org l e := by
 unfold org
 rw [h.ups_same ht (h.par_ne ht e he)]
theorem Fits.org_new {l : List ADev} {d : ADev} (ht : Tidy l) (h : Fits snd cl l d) : org (insL l d) d = org l d := by
 unfold org
 rw [h.ups_same ht h.own]
theorem Fits.org_all {l : List ADev} {d e : ADev} (ht : Tidy l) (h : Fits snd cl l d) (he : e ∈ insL l d) : org (insL l d) e = org l e := by
 rcases mem_insL.1 he with rfl | he
 ·exact h.org_new ht
 ·exact h.org_old ht he
theorem Valid.ins (hs : ∀ a b, cl a b = cl b a) {l : List ADev} {d : ADev} (hv : Valid snd cl l) (h : Fits snd cl l d) : Valid snd cl (insL l d) := by
 have hasc : (insL l d).Pairwise fun a b => cmpN (org l a) (org l b) < 0 := by
  unfold insL
  rw [List.pairwise_append, List.pairwise_cons]
  have hl : ((l.takeWhile fun e => decide (cmpN (org l e) (org l d) < 0)) ++ l.dropWhile fun e => decide (cmpN (org l e) (org l d) < 0)).Pairwise fun a b => cmpN (org l a) (org l b) < 0 := by
   rw [List.takeWhile_append_dropWhile]
   exact hv.asc
  rw [List.pairwise_append] at hl
  have hge : ∀ e ∈ l.dropWhile fun e => decide (cmpN (org l e) (org l d) < 0), cmpN (org l d) (org l e) < 0 := fun e he => by
   have hm : e ∈ l := (List.dropWhile_sublist _).subset he
   exact cmpN_total (dropWhile_ge hv.asc e he) (h.new e hm)
  refine ⟨hl.1, ⟨hge, hl.2.1⟩, fun a ha b hb => ?_⟩
  rcases List.mem_cons.1 hb with rfl | hb
  ·exact takeWhile_lt a ha
  ·exact hl.2.2 a ha b hb
 have huniq : (insL l d).Pairwise fun a b => a.idx ≠ b.idx := by
  rw [(insL_perm l d).pairwise_iff (fun hxy e => hxy e.symm), List.pairwise_cons]
  exact ⟨fun e he e' => h.fresh e he e'.symm, hv.tidy.uniq⟩
 have htidy : Tidy (insL l d) := by
  refine ⟨huniq, fun e he => ?_, ahead_of_asc hasc fun e he => ?_⟩
  ·rcases mem_insL.1 he with rfl | he
   ·exact h.pos
   ·exact hv.tidy.pos e he
  ·rcases mem_insL.1 he with rfl | he
   ·rcases h.par with h0 | ⟨p, hp, hpe⟩
    ·exact Or.inl h0
    ·exact Or.inr ⟨p, mem_insL.2 (Or.inr hp), hpe, org_before hv.tidy hp hpe⟩
   ·rcases hv.tidy.parent he with h0 | ⟨p, hp, hpe⟩
    ·exact Or.inl h0
    ·exact Or.inr ⟨p, mem_insL.2 (Or.inr hp), hpe, org_before hv.tidy hp hpe⟩
 refine ⟨?_, htidy, fun e he => ?_, fun e he => ?_, ?_, ?_⟩
 ·rw [(insL_perm l d).length_eq, List.length_cons]
  exact h.room
 ·rcases mem_insL.1 he with rfl | he
  ·exact h.snd
  ·exact hv.sound e he
 ·rw [h.org_all hv.tidy he]
  rcases mem_insL.1 he with rfl | he
  ·exact h.depth
  ·exact hv.depth e he
 ·refine List.Pairwise.imp_of_mem (fun ha hb hab => ?_) hasc
  rw [h.org_all hv.tidy ha, h.org_all hv.tidy hb]
  exact hab
 ·rw [(insL_perm l d).pairwise_iff (fun {a b} hxy => by rw [hs]; exact hxy), List.pairwise_cons]
  exact ⟨fun e he => by rw [hs]; exact h.apart e he, hv.apart⟩
end
end Go.Proofs.YtldcediiobfhiaaGreatDoor.De
namespace Go.Proofs.YtldcediiobfhiaaGreatDoor.De
/-- A device is the one with an Index or lies below it. -/
def bel (l : List ADev) (e : ADev) (n : Int) : Bool := (ups l e.idx).any fun a => a.idx == n
theorem bel_self {l : List ADev} (h : Tidy l) {e : ADev} (he : e ∈ l) : bel l e e.idx = true := by
 obtain ⟨i, hi⟩ := List.mem_iff_getElem?.1 he
 unfold bel
 rw [ups_of h hi]
 simp
theorem bel_child {l : List ADev} (h : Tidy l) {e p : ADev} (he : e ∈ l) (_hp : p ∈ l) (hpe : p.idx = e.par) (n : Int) : bel l e n = (e.idx == n || bel l p n) := by
 obtain ⟨i, hi⟩ := List.mem_iff_getElem?.1 he
 unfold bel
 rw [ups_of h hi, List.any_cons, hpe]
theorem bel_root {l : List ADev} (h : Tidy l) {e : ADev} (he : e ∈ l) (h0 : e.par = 0) (n : Int) : bel l e n = (e.idx == n) := by
 obtain ⟨i, hi⟩ := List.mem_iff_getElem?.1 he
 unfold bel
 rw [ups_of h hi, List.any_cons, h0, ups_none h.zero]
 simp
/-- By the place in the list: what holds of roots, and of a device whose parent has it, holds of all. -/
theorem Tidy.rec' {l : List ADev} (h : Tidy l) {P : ADev → Prop} (h0 : ∀ d ∈ l, d.par = 0 → P d) (h1 : ∀ d ∈ l, ∀ p ∈ l, p.idx = d.par → P p → P d) : ∀ d ∈ l, P d := by
 have key : ∀ (i : Nat) d, l[i]? = some d → P d := by
  intro i
  induction i using Nat.strongRecOn with
  | ind i ih =>
   intro d hd
   rcases h.par i d hd with g | ⟨j, p, hj, hp, he⟩
   ·exact h0 d (List.mem_of_getElem? hd) g
   ·exact h1 d (List.mem_of_getElem? hd) p (List.mem_of_getElem? hp) he (ih j hj p hp)
 intro d hd
 obtain ⟨i, hi⟩ := List.mem_iff_getElem?.1 hd
 exact key i d hi
theorem uniq_mem {l : List ADev} (h : Tidy l) {a b : ADev} (ha : a ∈ l) (hb : b ∈ l) (he : a.idx = b.idx) : a = b := by
 obtain ⟨i, hi⟩ := List.mem_iff_getElem?.1 ha
 obtain ⟨j, hj⟩ := List.mem_iff_getElem?.1 hb
 exact (uniq_at h.uniq hi hj he).2
section
variable {snd : ADev → Bool} {cl : ADev → ADev → Bool}
theorem Valid.org_inj {l : List ADev} (h : Valid snd cl l) {a b : ADev} (ha : a ∈ l) (hb : b ∈ l) (he : org l a = org l b) : a = b := by
 obtain ⟨i, hi⟩ := List.mem_iff_getElem?.1 ha
 obtain ⟨j, hj⟩ := List.mem_iff_getElem?.1 hb
 have hp := List.pairwise_iff_getElem.1 h.asc
 obtain ⟨hi', rfl⟩ := List.getElem?_eq_some_iff.1 hi
 obtain ⟨hj', rfl⟩ := List.getElem?_eq_some_iff.1 hj
 rcases Nat.lt_trichotomy i j with g | g | g
 ·have := hp i j hi' hj' g
  rw [he, cmpN_self] at this
  omega
 ·subst g
  rfl
 ·have := hp j i hj' hi' g
  rw [he, cmpN_self] at this
  omega
/-- To lie below is to have an origin that begins with the other's. -/
theorem Valid.bel_iff {l : List ADev} (h : Valid snd cl l) {d : ADev} (hd : d ∈ l) : ∀ e ∈ l, (bel l e d.idx = true ↔ org l d <+: org l e) := by
 have ht := h.tidy
 refine ht.rec' (fun e he h0 => ?_) (fun e he p hp hpe ih => ?_)
 ·rw [bel_root ht he h0, beq_iff_eq]
  constructor
  ·intro hi
   rw [uniq_mem ht he hd hi]
   exact List.prefix_rfl
  ·intro hpre
   rw [org_root ht h0] at hpre
   have hne := org_ne l d
   have hl := hpre.length_le
   have : org l d = [e.orig.data.toList] := hpre.eq_of_length_le (by
    cases hx : org l d with
    | nil => exact absurd hx hne
    | cons a r => simp)
   rw [h.org_inj he hd (by rw [this, org_root ht h0])]
 ·rw [bel_child ht he hp hpe, Bool.or_eq_true, beq_iff_eq, ih]
  rw [org_child ht hp hpe]
  constructor
  ·rintro (hi | hpre)
   ·rw [← uniq_mem ht he hd hi, org_child ht hp hpe]
    exact List.prefix_rfl
   ·exact hpre.trans (List.prefix_append _ _)
  ·intro hpre
   rcases List.prefix_concat_iff.1 hpre with heq | hpre
   ·exact Or.inl (by rw [h.org_inj he hd (by rw [org_child ht hp hpe]; exact heq.symm)])
   ·exact Or.inr hpre
/-- Between two that lie below a device there is none that does not; nor between it and one below. -/
theorem Valid.bel_mid {l : List ADev} (h : Valid snd cl l) {d : ADev} (hd : d ∈ l) {i j k : Nat} {a b c : ADev} (ha : l[i]? = some a) (hb : l[j]? = some b) (hc : l[k]? = some c) (hij : i < j) (hjk : j < k) (h1 : bel l a d.idx = true) (h2 : bel l c d.idx = true) : bel l b d.idx = true := by
 have hp := List.pairwise_iff_getElem.1 h.asc
 have ma := List.mem_of_getElem? ha
 have mb := List.mem_of_getElem? hb
 have mc := List.mem_of_getElem? hc
 rw [h.bel_iff hd _ ma] at h1
 rw [h.bel_iff hd _ mc] at h2
 rw [h.bel_iff hd _ mb]
 obtain ⟨hi, rfl⟩ := List.getElem?_eq_some_iff.1 ha
 obtain ⟨hj, rfl⟩ := List.getElem?_eq_some_iff.1 hb
 obtain ⟨hk, rfl⟩ := List.getElem?_eq_some_iff.1 hc
 have lab := hp i j hi hj hij
 have lbc := hp j k hj hk hjk
 obtain ⟨ra, hra⟩ := h1
 obtain ⟨rc, hrc⟩ := h2
 rw [← hrc] at lbc
 have hdb : cmpN (org l d) (org l l[j]) < 0 := by
  cases ra with
  | nil =>
   rw [List.append_nil] at hra
   rw [hra]
   exact lab
  | cons x r =>
   refine cmpN_trans ?_ lab
   rw [← hra]
   exact cmpN_prefix (by simp)
 exact cmpN_between hdb lbc
/-- A device comes ahead of those below it. -/
theorem Valid.bel_first {l : List ADev} (h : Valid snd cl l) {i j : Nat} {d e : ADev} (hd : l[i]? = some d) (he : l[j]? = some e) (hb : bel l e d.idx = true) : i ≤ j := by
 rw [h.bel_iff (List.mem_of_getElem? hd) _ (List.mem_of_getElem? he)] at hb
 have hp := List.pairwise_iff_getElem.1 h.asc
 obtain ⟨hi, rfl⟩ := List.getElem?_eq_some_iff.1 hd
 obtain ⟨hj, rfl⟩ := List.getElem?_eq_some_iff.1 he
 rcases Nat.lt_or_ge j i with g | g
 ·have h1 := hp j i hj hi g
  obtain ⟨r, hr⟩ := hb
  cases r with
  | nil =>
   rw [List.append_nil] at hr
   rw [hr, cmpN_self] at h1
   omega
  | cons x r =>
   have h2 : cmpN (org l l[i]) (org l l[j]) < 0 := by
    rw [← hr]
    exact cmpN_prefix (by simp)
   have h3 := cmpN_trans h1 h2
   rw [cmpN_self] at h3
   omega
 ·exact g
/-- A part of a tree that has the parents of its devices: their ways to the root are the same. -/
theorem part_ups {l m : List ADev} (h : Tidy l) (hm : Tidy m) (hsub : ∀ e ∈ m, e ∈ l) : ∀ d ∈ m, ups m d.par = ups l d.par := by
 have key : ∀ d ∈ m, ups m d.idx = ups l d.idx ∧ ups m d.par = ups l d.par := by
  refine hm.rec' (fun d hd h0 => ?_) (fun d hd p hp hpd ih => ?_)
  ·obtain ⟨i, hi⟩ := List.mem_iff_getElem?.1 hd
   obtain ⟨j, hj⟩ := List.mem_iff_getElem?.1 (hsub d hd)
   rw [ups_of hm hi, ups_of h hj, h0, ups_none hm.zero, ups_none h.zero]
   exact ⟨rfl, rfl⟩
  ·obtain ⟨i, hi⟩ := List.mem_iff_getElem?.1 hd
   obtain ⟨j, hj⟩ := List.mem_iff_getElem?.1 (hsub d hd)
   rw [ups_of hm hi, ups_of h hj, ← hpd, ih.1]
   exact ⟨rfl, rfl⟩
 exact fun d hd => (key d hd).2
theorem part_org {l m : List ADev} (h : Tidy l) (hm : Tidy m) (hsub : ∀ e ∈ m, e ∈ l) {d : ADev} (hd : d ∈ m) : org m d = org l d := by
 unfold org
 rw [part_ups h hm hsub d hd]
/-- A part of a valid tree, in its order, that has the parents of its devices, is valid. -/
theorem Valid.part {l m : List ADev} (h : Valid snd cl l) (hs : m.Sublist l) (hp : ∀ d ∈ m, d.par = 0 ∨ ∃ p ∈ m, p.idx = d.par) : Valid snd cl m := by
 have hsub : ∀ e ∈ m, e ∈ l := fun e he => hs.subset he
 have hasc : m.Pairwise fun a b => cmpN (org l a) (org l b) < 0 := h.asc.sublist hs
 have htidy : Tidy m := by
  refine ⟨h.tidy.uniq.sublist hs, fun e he => h.tidy.pos e (hsub e he), ahead_of_asc hasc fun e he => ?_⟩
  rcases hp e he with h0 | ⟨p, hpm, hpe⟩
  ·exact Or.inl h0
  ·exact Or.inr ⟨p, hpm, hpe, org_before h.tidy (hsub p hpm) hpe⟩
 refine ⟨Nat.le_trans hs.length_le h.size, htidy, fun e he => h.sound e (hsub e he), fun e he => ?_, ?_, h.apart.sublist hs⟩
 ·rw [part_org h.tidy htidy hsub he]
  exact h.depth e (hsub e he)
 ·refine List.Pairwise.imp_of_mem (fun ha hb hab => ?_) hasc
  rw [part_org h.tidy htidy hsub ha, part_org h.tidy htidy hsub hb]
  exact hab
theorem up_mem {l : List ADev} : ∀ (k : Nat) (n : Int), ∀ e ∈ up l k n, e ∈ l
 | 0, _, e, he => by cases he
 | k + 1, n, e, he => by
  unfold up at he
  cases hf : fnd l n with
  | none => rw [hf] at he; cases he
  | some x =>
   rw [hf] at he
   rcases List.mem_cons.1 he with rfl | he
   ·exact (fnd_mem hf).1
   ·exact up_mem k x.par e he
end
end Go.Proofs.YtldcediiobfhiaaGreatDoor.De
