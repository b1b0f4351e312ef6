/- P -/
namespace Go.Proofs.YtkkibibecgcbmaaGreatDoor.Gl
structure El where
 star : Bool
 self : Bool
 set : UInt8 → Bool
def isText (b : UInt8) : Bool := decide (32 ≤ b.toNat) && decide (b.toNat ≤ 126)
def rangeB (a b c : UInt8) : Bool := decide (a.toNat ≤ c.toNat) && decide (c.toNat ≤ b.toNat)
def memB (acc : UInt8 → Bool) : List UInt8 → Option (UInt8 → Bool)
 | [] => some acc
 | [a] => some fun x => acc x || rangeB a a x
 | [a, b] => some fun x => (acc x || rangeB a a x) || rangeB b b x
 | a :: b :: c :: t => if b = 45 then (if c.toNat < a.toNat then none else memB (fun x => acc x || rangeB a c x) t) else memB (fun x => acc x || rangeB a a x) (b :: c :: t)
def setB : List UInt8 → Option (UInt8 → Bool)
 | [] => none
 | c :: r => if c = 33 then (if r = [] then none else (memB (fun _ => false) r).map fun S x => isText x && !S x) else memB (fun _ => false) (c :: r)
def firstEl (c : UInt8) (r : List UInt8) : Option (El × Nat) :=
 if c = 42 then some (⟨true, false, isText⟩, 0)
 else if c = 63 then some (⟨false, false, isText⟩, 0)
 else if c = 91 then (if r.contains 93 then (setB (r.take (r.idxOf 93))).map fun S => (⟨false, false, S⟩, r.idxOf 93 + 1) else none)
 else some (⟨false, true, fun x => x == c⟩, 0)
def toksF : Nat → List UInt8 → Option (List (Option El))
 | _, [] => some []
 | 0, _ :: _ => none
 | n + 1, c :: r => if c = 124 then (toksF n r).map (none :: ·) else match firstEl c r with
  | none => none
  | some (e, k) => (toksF n (r.drop k)).map (some e :: ·)
def toks (p : List UInt8) : Option (List (Option El)) := toksF p.length p
def altsOf : List (Option El) → List (List El)
 | [] => [[]]
 | none :: t => [] :: altsOf t
 | some e :: t => match altsOf t with
  | [] => [[e]]
  | h :: r => (e :: h) :: r
def starB (f : List UInt8 → Bool) (S : UInt8 → Bool) : List UInt8 → Bool
 | [] => f []
 | c :: t => f (c :: t) || (S c && starB f S t)
def oneB (f : List UInt8 → Bool) (S : UInt8 → Bool) : List UInt8 → Bool
 | [] => false
 | c :: t => S c && f t
def mB : List El → List UInt8 → Bool
 | [] => List.isEmpty
 | e :: r => if e.star then starB (mB r) e.set else oneB (mB r) e.set
theorem toksF_fuel : ∀ (n m : Nat) (p : List UInt8), p.length ≤ n → p.length ≤ m → toksF n p = toksF m p
 | _, _, [], _, _ => by simp [toksF]
 | 0, _, _ :: _, h, _ => by simp at h
 | _ + 1, 0, _ :: _, _, h => by simp at h
 | n + 1, m + 1, c :: r, h, k => by
  simp only [List.length_cons] at h k
  unfold toksF
  split
  ·rw [toksF_fuel n m r (by omega) (by omega)]
  ·split
   ·rfl
   ·rw [toksF_fuel n m _ (by simp; omega) (by simp; omega)]
theorem toks_cons (c : UInt8) (r : List UInt8) : toks (c :: r) = if c = 124 then (toks r).map (none :: ·) else match firstEl c r with
  | none => none
  | some (e, k) => (toks (r.drop k)).map (some e :: ·) := by
 unfold toks
 rw [List.length_cons, toksF]
 split
 ·rfl
 ·split
  ·rfl
  ·rw [toksF_fuel _ _ (r.drop _) (by simp) (Nat.le_refl _)]
theorem altsOf_ne (T : List (Option El)) : altsOf T ≠ [] := by
 cases T with
 | nil => simp [altsOf]
 | cons a t => cases a with
  | none => simp [altsOf]
  | some e => simp only [altsOf]; split <;> simp
theorem altsOf_none (T U : List (Option El)) : altsOf (T ++ none :: U) = altsOf T ++ altsOf U := by
 induction T with
 | nil => simp [altsOf]
 | cons a t ih => cases a with
  | none => simp [altsOf, ih]
  | some e =>
   simp only [List.cons_append, altsOf, ih]
   cases h : altsOf t with
   | nil => exact absurd h (altsOf_ne t)
   | cons x y => simp
def snocLast (L : List (List El)) (e : El) : List (List El) := L.dropLast ++ [L.getLastD [] ++ [e]]
theorem altsOf_some (T : List (Option El)) (e : El) : altsOf (T ++ [some e]) = snocLast (altsOf T) e := by
 induction T with
 | nil => simp [altsOf, snocLast]
 | cons a t ih => cases a with
  | none =>
   simp only [List.cons_append, altsOf, ih, snocLast]
   cases h : altsOf t with
   | nil => exact absurd h (altsOf_ne t)
   | cons x y => simp
  | some f =>
   simp only [List.cons_append, altsOf, ih, snocLast]
   cases h : altsOf t with
   | nil => exact absurd h (altsOf_ne t)
   | cons x y =>
    cases y with
    | nil => simp
    | cons z u => simp
theorem mB_one (e : El) (r : List El) (s : List UInt8) (h : e.star = false) : mB (e :: r) s = true ↔ ∃ c t, s = c :: t ∧ e.set c = true ∧ mB r t = true := by
 rw [mB, if_neg (by simp [h])]
 cases s with
 | nil => simp [oneB]
 | cons c t =>
  simp only [oneB, Bool.and_eq_true]
  constructor
  ·rintro ⟨h1, h2⟩; exact ⟨c, t, rfl, h1, h2⟩
  ·rintro ⟨c', t', ht, h1, h2⟩; cases ht; exact ⟨h1, h2⟩
end Go.Proofs.YtkkibibecgcbmaaGreatDoor.Gl
namespace Go.Proofs.YtkkibibecgcbmaaGreatDoor.Gl
def leastS (S : UInt8 → Bool) : Option UInt8 := ((List.range 256).map UInt8.ofNat).find? S
theorem leastS_some {S : UInt8 → Bool} {c : UInt8} (h : leastS S = some c) : S c = true ∧ ∀ d, S d = true → c.toNat ≤ d.toNat := by
 unfold leastS at h
 refine ⟨List.find?_some h, fun d hd => ?_⟩
 obtain ⟨_, as, bs, heq, hno⟩ := List.find?_eq_some_iff_append.1 h
 have hlen : ((List.range 256).map UInt8.ofNat).length = 256 := by simp
 have hget : ∀ i, i < 256 → ((List.range 256).map UInt8.ofNat)[i]? = some (UInt8.ofNat i) := fun i hi => by simp [hi]
 have hc : ((List.range 256).map UInt8.ofNat)[as.length]? = some c := by rw [heq]; simp
 have hal : as.length < 256 := by rw [← hlen, heq]; simp
 rw [hget _ hal] at hc
 have hcn : c.toNat = as.length := by rw [← Option.some.inj hc]; simp; omega
 rw [hcn]
 refine Nat.le_of_not_lt fun hlt => ?_
 have hdl : d.toNat < 256 := UInt8.toNat_lt d
 have h1 := hget d.toNat hdl
 rw [heq, List.getElem?_append_left hlt] at h1
 have hm : UInt8.ofNat d.toNat ∈ as := List.mem_of_getElem? h1
 have := hno _ hm
 simp [hd] at this
theorem leastS_of {S : UInt8 → Bool} {d : UInt8} (h : S d = true) : ∃ c, leastS S = some c ∧ S c = true ∧ c.toNat ≤ d.toNat := by
 cases hl : leastS S with
 | none =>
  unfold leastS at hl
  have := List.find?_eq_none.1 hl d (by
   refine List.mem_map.2 ⟨d.toNat, List.mem_range.2 (UInt8.toNat_lt d), by simp⟩)
  exact absurd h this
 | some c => exact ⟨c, rfl, (leastS_some hl).1, (leastS_some hl).2 d h⟩
section
variable (a b : List El)
def starAt (l : List El) (i : Nat) : Bool := (l[i]?.map El.star).getD false
def stepP (i k : Nat) : Option (UInt8 × Nat × Nat) := match a[i]?, b[k]? with
 | some e, some f => if e.star && f.star then none else (leastS fun c => e.set c && f.set c).map fun c => (c, (if e.star then i else i + 1), (if f.star then k else k + 1))
 | _, _ => none
def Com (i k : Nat) (s : List UInt8) : Prop := mB (a.drop i) s = true ∧ mB (b.drop k) s = true
theorem starAt_iff {l : List El} {i : Nat} : starAt l i = true ↔ ∃ e, l[i]? = some e ∧ e.star = true := by
 unfold starAt
 cases h : l[i]? with
 | none => simp
 | some e => simp
theorem drop_at {l : List El} {i : Nat} {e : El} (h : l[i]? = some e) : l.drop i = e :: l.drop (i + 1) := by
 obtain ⟨hi, he⟩ := List.getElem?_eq_some_iff.1 h
 rw [List.drop_eq_getElem_cons hi, he]
theorem mB_star_cases {e : El} {r : List El} {s : List UInt8} (h : e.star = true) : mB (e :: r) s = true ↔ mB r s = true ∨ ∃ c t, s = c :: t ∧ e.set c = true ∧ mB (e :: r) t = true := by
 rw [mB, if_pos h]
 cases s with
 | nil => simp [starB]
 | cons c t =>
  simp only [starB, Bool.or_eq_true, Bool.and_eq_true]
  constructor
  ·rintro (h1 | ⟨h1, h2⟩)
   ·exact Or.inl h1
   ·exact Or.inr ⟨c, t, rfl, h1, h2⟩
  ·rintro (h1 | ⟨c', t', ht, h1, h2⟩)
   ·exact Or.inl h1
   ·cases ht; exact Or.inr ⟨h1, h2⟩
theorem Com.cases {i k : Nat} {s : List UInt8} (h : Com a b i k s) :
  (i = a.length ∧ k = b.length ∧ s = []) ∨ a.length < i ∨ b.length < k ∨ (starAt a i = true ∧ Com a b (i + 1) k s) ∨ (starAt b k = true ∧ Com a b i (k + 1) s) ∨
  (∃ c t, s = c :: t ∧ Com a b i k t) ∨ (∃ c d t i' k', s = c :: t ∧ stepP a b i k = some (d, i', k') ∧ d.toNat ≤ c.toNat ∧ Com a b i' k' t) := by
 obtain ⟨h1, h2⟩ := h
 by_cases hia : a.length < i
 ·exact Or.inr (Or.inl hia)
 by_cases hkb : b.length < k
 ·exact Or.inr (Or.inr (Or.inl hkb))
 cases ha : a[i]? with
 | none =>
  have hi : i = a.length := by have := List.getElem?_eq_none_iff.1 ha; omega
  have hs : s = [] := by rw [hi, List.drop_length] at h1; simpa [mB] using h1
  subst hs
  cases hb : b[k]? with
  | none =>
   have hk : k = b.length := by have := List.getElem?_eq_none_iff.1 hb; omega
   exact Or.inl ⟨hi, hk, rfl⟩
  | some f =>
   rw [drop_at hb] at h2
   cases hf : f.star with
   | true =>
    rcases (mB_star_cases hf).1 h2 with h3 | ⟨_, _, h3, _⟩
    ·exact Or.inr (Or.inr (Or.inr (Or.inr (Or.inl ⟨starAt_iff.2 ⟨f, hb, hf⟩, h1, h3⟩))))
    ·simp at h3
   | false =>
    obtain ⟨_, _, h3, _⟩ := (mB_one _ _ _ hf).1 h2
    simp at h3
 | some e =>
  have h1' := h1
  rw [drop_at ha] at h1
  have heat : ∀ t, e.star = true → mB (a.drop (i + 1)) t = true → mB (b.drop k) t = true → (starAt a i = true ∧ Com a b (i + 1) k t) := fun t hes hm h2 => ⟨starAt_iff.2 ⟨e, ha, hes⟩, hm, h2⟩
  have hcons : (e.star = true ∧ mB (a.drop (i + 1)) s = true) ∨ ∃ c t, s = c :: t ∧ e.set c = true ∧ mB (a.drop (if e.star then i else i + 1)) t = true := by
   cases hes : e.star with
   | true =>
    rcases (mB_star_cases hes).1 h1 with h3 | ⟨c, t, h3, h4, h5⟩
    ·exact Or.inl ⟨rfl, h3⟩
    ·exact Or.inr ⟨c, t, h3, h4, by simp only [if_true]; rw [drop_at ha]; exact h5⟩
   | false =>
    obtain ⟨c, t, h3, h4, h5⟩ := (mB_one _ _ _ hes).1 h1
    exact Or.inr ⟨c, t, h3, h4, by simpa using h5⟩
  rcases hcons with ⟨hes, hm⟩ | ⟨c, t, rfl, hc, hm⟩
  ·exact Or.inr (Or.inr (Or.inr (Or.inl (heat s hes hm h2))))
  ·cases hb : b[k]? with
   | none =>
    have hk : k = b.length := by have := List.getElem?_eq_none_iff.1 hb; omega
    rw [hk, List.drop_length] at h2
    simp [mB] at h2
   | some f =>
    have hcons2 : (f.star = true ∧ mB (b.drop (k + 1)) (c :: t) = true) ∨ (f.set c = true ∧ mB (b.drop (if f.star then k else k + 1)) t = true) := by
     have h2' := h2
     rw [drop_at hb] at h2
     cases hfs : f.star with
     | true =>
      rcases (mB_star_cases hfs).1 h2 with h3 | ⟨c', t', h3, h4, h5⟩
      ·exact Or.inl ⟨rfl, h3⟩
      ·cases h3
       exact Or.inr ⟨h4, by simp only [if_true]; rw [drop_at hb]; exact h5⟩
     | false =>
      obtain ⟨c', t', h3, h4, h5⟩ := (mB_one _ _ _ hfs).1 h2
      cases h3
      exact Or.inr ⟨h4, by simpa using h5⟩
    rcases hcons2 with ⟨hfs, hm2⟩ | ⟨hfc, hm2⟩
    ·exact Or.inr (Or.inr (Or.inr (Or.inr (Or.inl ⟨starAt_iff.2 ⟨f, hb, hfs⟩, h1', hm2⟩))))
    ·by_cases hboth : (e.star && f.star) = true
     ·rw [Bool.and_eq_true] at hboth
      rw [hboth.1, if_pos rfl] at hm
      rw [hboth.2, if_pos rfl] at hm2
      exact Or.inr (Or.inr (Or.inr (Or.inr (Or.inr (Or.inl ⟨c, t, rfl, hm, hm2⟩)))))
     ·obtain ⟨d, hd, _, hdc⟩ := leastS_of (S := fun c => e.set c && f.set c) (d := c) (by simp [hc, hfc])
      refine Or.inr (Or.inr (Or.inr (Or.inr (Or.inr (Or.inr ⟨c, d, t, (if e.star then i else i + 1), (if f.star then k else k + 1), rfl, ?_, hdc, hm, hm2⟩)))))
      unfold stepP
      rw [ha, hb]
      simp only
      rw [if_neg hboth, hd]
      rfl
end
end Go.Proofs.YtkkibibecgcbmaaGreatDoor.Gl
namespace Go.Proofs.YtkkibibecgcbmaaGreatDoor.Gl
section
variable (a b : List El)
end
end Go.Proofs.YtkkibibecgcbmaaGreatDoor.Gl
namespace Go.Proofs.YtkkibibecgcbmaaGreatDoor.Gl
def back (l : List El) (s : List UInt8) (st : Option Nat) (kept : Nat) : Bool := match st with
 | none => false
 | some k => ((l[k]?.bind fun e => s[kept]?.map e.set).getD false) && mB (l.drop k) (s.drop (kept + 1))
theorem drop_at8 {s : List UInt8} {i : Nat} {c : UInt8} (h : s[i]? = some c) : s.drop i = c :: s.drop (i + 1) := by
 obtain ⟨hi, he⟩ := List.getElem?_eq_some_iff.1 h
 rw [List.drop_eq_getElem_cons hi, he]
end Go.Proofs.YtkkibibecgcbmaaGreatDoor.Gl
