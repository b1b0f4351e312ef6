/- Patterns and what they match, on lists of bytes. The least common text of two alternatives, on lists of bytes: the lengths of the shortest texts. The least common text of two alternatives: the search by pairs of places. How matches goes: what stands while it reads. -/
namespace Go.Proofs.YtljkljnfbcmjdaaGreatDoor.Gl
/-- An element of an alternative. -/
structure El where
 star : Bool
 self : Bool
 set : UInt8 → Bool
def isText (b : UInt8) : Bool := decide (32 ≤ b.toNat) && decide (b.toNat ≤ 126)
def rangeB (a b c : UInt8) : Bool := decide (a.toNat ≤ c.toNat) && decide (c.toNat ≤ b.toNat)
/-- The members of a set, added to those of acc. -/
def memB (acc : UInt8 → Bool) : List UInt8 → Option (UInt8 → Bool)
 | [] => some acc
 | [a] => some fun x => acc x || rangeB a a x
 | [a, b] => some fun x => (acc x || rangeB a a x) || rangeB b b x
 | a :: b :: c :: t => if b = 45 then (if c.toNat < a.toNat then none else memB (fun x => acc x || rangeB a c x) t) else memB (fun x => acc x || rangeB a a x) (b :: c :: t)
/-- The set between brackets. -/
def setB : List UInt8 → Option (UInt8 → Bool)
 | [] => none
 | c :: r => if c = 33 then (if r = [] then none else (memB (fun _ => false) r).map fun S x => isText x && !S x) else memB (fun _ => false) (c :: r)
/-- The first element of c :: r, and how many bytes of r it takes. -/
def firstEl (c : UInt8) (r : List UInt8) : Option (El × Nat) :=
 if c = 42 then some (⟨true, false, isText⟩, 0)
 else if c = 63 then some (⟨false, false, isText⟩, 0)
 else if c = 91 then (if r.contains 93 then (setB (r.take (r.idxOf 93))).map fun S => (⟨false, false, S⟩, r.idxOf 93 + 1) else none)
 else some (⟨false, true, fun x => x == c⟩, 0)
def toksF : Nat → List UInt8 → Option (List (Option El))
 | _, [] => some []
 | 0, _ :: _ => none
 | n + 1, c :: r => if c = 124 then (toksF n r).map (none :: ·) else match firstEl c r with
  | none => none
  | some (e, k) => (toksF n (r.drop k)).map (some e :: ·)
def toks (p : List UInt8) : Option (List (Option El)) := toksF p.length p
def altsOf : List (Option El) → List (List El)
 | [] => [[]]
 | none :: t => [] :: altsOf t
 | some e :: t => match altsOf t with
  | [] => [[e]]
  | h :: r => (e :: h) :: r
def starB (f : List UInt8 → Bool) (S : UInt8 → Bool) : List UInt8 → Bool
 | [] => f []
 | c :: t => f (c :: t) || (S c && starB f S t)
def oneB (f : List UInt8 → Bool) (S : UInt8 → Bool) : List UInt8 → Bool
 | [] => false
 | c :: t => S c && f t
/-- Does an alternative match a text? -/
def mB : List El → List UInt8 → Bool
 | [] => List.isEmpty
 | e :: r => if e.star then starB (mB r) e.set else oneB (mB r) e.set
theorem toksF_fuel : ∀ (n m : Nat) (p : List UInt8), p.length ≤ n → p.length ≤ m → toksF n p = toksF m p
 | _, _, [], _, _ => by simp [toksF]
 | 0, _, _ :: _, h, _ => by simp at h
 | _ + 1, 0, _ :: _, _, h => by simp at h
 | n + 1, m + 1, c :: r, h, k => by
  simp only [List.length_cons] at h k
  unfold toksF
  split
  ·rw [toksF_fuel n m r (by omega) (by omega)]
  ·split
   ·rfl
   ·rw [toksF_fuel n m _ (by simp; omega) (by simp; omega)]
theorem toks_cons (c : UInt8) (r : List UInt8) : toks (c :: r) = if c = 124 then (toks r).map (none :: ·) else match firstEl c r with
  | none => none
  | some (e, k) => (toks (r.drop k)).map (some e :: ·) := by
 unfold toks
 rw [List.length_cons, toksF]
 split
 ·rfl
 ·split
  ·rfl
  ·rw [toksF_fuel _ _ (r.drop _) (by simp) (Nat.le_refl _)]
theorem altsOf_ne (T : List (Option El)) : altsOf T ≠ [] := by
 cases T with
 | nil => simp [altsOf]
 | cons a t => cases a with
  | none => simp [altsOf]
  | some e => simp only [altsOf]; split <;> simp
theorem altsOf_none (T U : List (Option El)) : altsOf (T ++ none :: U) = altsOf T ++ altsOf U := by
 induction T with
 | nil => simp [altsOf]
 | cons a t ih => cases a with
  | none => simp [altsOf, ih]
  | some e =>
   simp only [List.cons_append, altsOf, ih]
   cases h : altsOf t with
   | nil => exact absurd h (altsOf_ne t)
   | cons x y => simp
def snocLast (L : List (List El)) (e : El) : List (List El) := L.dropLast ++ [L.getLastD [] ++ [e]]
theorem altsOf_some (T : List (Option El)) (e : El) : altsOf (T ++ [some e]) = snocLast (altsOf T) e := by
 induction T with
 | nil => simp [altsOf, snocLast]
 | cons a t ih => cases a with
  | none =>
   simp only [List.cons_append, altsOf, ih, snocLast]
   cases h : altsOf t with
   | nil => exact absurd h (altsOf_ne t)
   | cons x y => simp
  | some f =>
   simp only [List.cons_append, altsOf, ih, snocLast]
   cases h : altsOf t with
   | nil => exact absurd h (altsOf_ne t)
   | cons x y =>
    cases y with
    | nil => simp
    | cons z u => simp
/-! What is matched. -/
theorem starB_iff (f : List UInt8 → Bool) (S : UInt8 → Bool) (s : List UInt8) : starB f S s = true ↔ ∃ i, i ≤ s.length ∧ (s.take i).all S = true ∧ f (s.drop i) = true := by
 induction s with
 | nil => simp [starB]
 | cons c t ih =>
  simp only [starB, Bool.or_eq_true, Bool.and_eq_true, ih]
  constructor
  ·rintro (h | ⟨hc, i, hi, ha, hf⟩)
   ·exact ⟨0, by omega, by simp, by simpa using h⟩
   ·exact ⟨i + 1, by simp; omega, by simp [hc]; simpa using ha, by simpa using hf⟩
  ·rintro ⟨i, hi, ha, hf⟩
   cases i with
   | zero => exact Or.inl (by simpa using hf)
   | succ i =>
    simp only [List.take_succ_cons, List.all_cons, Bool.and_eq_true, List.drop_succ_cons] at ha hf
    exact Or.inr ⟨ha.1, i, by simp at hi; omega, ha.2, hf⟩
theorem mB_star (e : El) (r : List El) (s : List UInt8) (h : e.star = true) : mB (e :: r) s = true ↔ ∃ i, i ≤ s.length ∧ (s.take i).all e.set = true ∧ mB r (s.drop i) = true := by
 rw [mB, if_pos h, starB_iff]
theorem mB_one (e : El) (r : List El) (s : List UInt8) (h : e.star = false) : mB (e :: r) s = true ↔ ∃ c t, s = c :: t ∧ e.set c = true ∧ mB r t = true := by
 rw [mB, if_neg (by simp [h])]
 cases s with
 | nil => simp [oneB]
 | cons c t =>
  simp only [oneB, Bool.and_eq_true]
  constructor
  ·rintro ⟨h1, h2⟩; exact ⟨c, t, rfl, h1, h2⟩
  ·rintro ⟨c', t', ht, h1, h2⟩; cases ht; exact ⟨h1, h2⟩
/-- The sets have bytes of texts only; a star's set has all of them. -/
def El.ok (e : El) : Prop := (∀ b, e.set b = true → isText b = true) ∧ (e.star = true → ∀ b, isText b = true → e.set b = true)
theorem mB_text {a : List El} (h : ∀ e ∈ a, e.ok) : ∀ s, mB a s = true → s.all isText = true := by
 induction a with
 | nil => intro s hs; simp [mB] at hs; simp [hs]
 | cons e r ih =>
  intro s hs
  have ih' := ih fun f hf => h f (List.mem_cons_of_mem _ hf)
  have he := h e (List.mem_cons_self)
  cases hst : e.star with
  | true =>
   obtain ⟨i, hi, ha, hm⟩ := (mB_star e r s hst).1 hs
   rw [← List.take_append_drop i s, List.all_append, ih' _ hm, Bool.and_true]
   exact List.all_eq_true.2 fun x hx => he.1 x (List.all_eq_true.1 ha x hx)
  | false =>
   obtain ⟨c, t, rfl, hc, hm⟩ := (mB_one e r s hst).1 hs
   rw [List.all_cons, ih' _ hm, he.1 c hc]; rfl
/-- Elements that are no stars take one byte each. -/
theorem mB_drop {x : List El} (hx : ∀ e ∈ x, e.star = false) (y : List El) : ∀ s, mB (x ++ y) s = true → x.length ≤ s.length ∧ mB y (s.drop x.length) = true := by
 induction x with
 | nil => intro s h; exact ⟨by simp, by simpa using h⟩
 | cons e r ih =>
  intro s h
  obtain ⟨c, t, rfl, _, hm⟩ := (mB_one e (r ++ y) s (hx e List.mem_cons_self)).1 h
  obtain ⟨h1, h2⟩ := ih (fun f hf => hx f (List.mem_cons_of_mem _ hf)) t hm
  exact ⟨by simp; omega, by simpa using h2⟩
/-- What stands behind the last star: another place of the bytes that the star takes does nothing that a later star can't do. -/
theorem mB_later {e : El} {x y : List El} (hst : e.star = true) (hx : ∀ f ∈ x, f.star = false) {f : El} (hf : f.star = true) (hok : ∀ g ∈ e :: (x ++ f :: y), g.ok) (s : List UInt8) (c : UInt8)
  (hc : e.set c = true) (h : mB (e :: (x ++ f :: y)) s = true) : mB (f :: y) ((c :: s).drop x.length) = true := by
 have htext := mB_text hok s h
 have hct : isText c = true := (hok e List.mem_cons_self).1 c hc
 obtain ⟨i, hi, ha, hm⟩ := (mB_star e _ s hst).1 h
 obtain ⟨h1, h2⟩ := mB_drop hx (f :: y) _ hm
 rw [List.drop_drop] at h2
 obtain ⟨k, hk, hb, hr⟩ := (mB_star f y _ hf).1 h2
 have hall : (c :: s).all isText = true := by rw [List.all_cons, hct, htext]; rfl
 simp only [List.length_drop] at h1 hk
 refine (mB_star f y _ hf).2 ⟨i + 1 + k, by simp; omega, ?_, ?_⟩
 ·refine List.all_eq_true.2 fun z hz => (hok f (by simp)).2 hf z (List.all_eq_true.1 hall z ?_)
  exact List.mem_of_mem_drop (List.mem_of_mem_take hz)
 ·rw [List.drop_drop] at hr ⊢
  rw [show x.length + (i + 1 + k) = (i + x.length + k) + 1 from by omega, List.drop_succ_cons]
  exact hr
theorem mB_none_left {e : El} {x y : List El} (hst : e.star = true) (hx : ∀ f ∈ x, f.star = false) (s : List UInt8) (hs : s.length < x.length) : mB (e :: (x ++ y)) s = false := by
 rw [Bool.eq_false_iff]
 intro h
 obtain ⟨i, hi, _, hm⟩ := (mB_star e _ s hst).1 h
 have := (mB_drop hx y _ hm).1
 simp at this
 omega
end Go.Proofs.YtljkljnfbcmjdaaGreatDoor.Gl
namespace Go.Proofs.YtljkljnfbcmjdaaGreatDoor.Gl
def never : Nat := 1073741824
/-- The least byte of a set. -/
def leastS (S : UInt8 → Bool) : Option UInt8 := ((List.range 256).map UInt8.ofNat).find? S
theorem leastS_some {S : UInt8 → Bool} {c : UInt8} (h : leastS S = some c) : S c = true ∧ ∀ d, S d = true → c.toNat ≤ d.toNat := by
 unfold leastS at h
 refine ⟨List.find?_some h, fun d hd => ?_⟩
 obtain ⟨_, as, bs, heq, hno⟩ := List.find?_eq_some_iff_append.1 h
 have hlen : ((List.range 256).map UInt8.ofNat).length = 256 := by simp
 have hget : ∀ i, i < 256 → ((List.range 256).map UInt8.ofNat)[i]? = some (UInt8.ofNat i) := fun i hi => by simp [hi]
 have hc : ((List.range 256).map UInt8.ofNat)[as.length]? = some c := by rw [heq]; simp
 have hal : as.length < 256 := by rw [← hlen, heq]; simp
 rw [hget _ hal] at hc
 have hcn : c.toNat = as.length := by rw [← Option.some.inj hc]; simp; omega
 rw [hcn]
 refine Nat.le_of_not_lt fun hlt => ?_
 have hdl : d.toNat < 256 := UInt8.toNat_lt d
 have h1 := hget d.toNat hdl
 rw [heq, List.getElem?_append_left hlt] at h1
 have hm : UInt8.ofNat d.toNat ∈ as := List.mem_of_getElem? h1
 have := hno _ hm
 simp [hd] at this
theorem leastS_of {S : UInt8 → Bool} {d : UInt8} (h : S d = true) : ∃ c, leastS S = some c ∧ S c = true ∧ c.toNat ≤ d.toNat := by
 cases hl : leastS S with
 | none =>
  unfold leastS at hl
  have := List.find?_eq_none.1 hl d (by
   refine List.mem_map.2 ⟨d.toNat, List.mem_range.2 (UInt8.toNat_lt d), by simp⟩)
  exact absurd h this
 | some c => exact ⟨c, rfl, (leastS_some hl).1, (leastS_some hl).2 d h⟩
section
variable (a b : List El)
def starAt (l : List El) (i : Nat) : Bool := (l[i]?.map El.star).getD false
def stepP (i k : Nat) : Option (UInt8 × Nat × Nat) := match a[i]?, b[k]? with
 | some e, some f => if e.star && f.star then none else (leastS fun c => e.set c && f.set c).map fun c => (c, (if e.star then i else i + 1), (if f.star then k else k + 1))
 | _, _ => none
def lenF : Nat → Nat → Nat → Nat
 | 0, _, _ => never
 | n + 1, i, k =>
  min (if i = a.length ∧ k = b.length then 0 else never) (min (if starAt a i then lenF n (i + 1) k else never) (min (if starAt b k then lenF n i (k + 1) else never)
   (match stepP a b i k with | some (_, i', k') => 1 + lenF n i' k' | none => never)))
def lenP (i k : Nat) : Nat := lenF a b (a.length - i + (b.length - k) + 1) i k
theorem starAt_lt {l : List El} {i : Nat} (h : starAt l i = true) : i < l.length := by
 unfold starAt at h
 rcases Nat.lt_or_ge i l.length with h1 | h1
 ·exact h1
 ·rw [List.getElem?_eq_none h1] at h; simp at h
/-- A text that both alternatives match from a pair of places on. -/
def Com (i k : Nat) (s : List UInt8) : Prop := mB (a.drop i) s = true ∧ mB (b.drop k) s = true
theorem starAt_iff {l : List El} {i : Nat} : starAt l i = true ↔ ∃ e, l[i]? = some e ∧ e.star = true := by
 unfold starAt
 cases h : l[i]? with
 | none => simp
 | some e => simp
theorem drop_at {l : List El} {i : Nat} {e : El} (h : l[i]? = some e) : l.drop i = e :: l.drop (i + 1) := by
 obtain ⟨hi, he⟩ := List.getElem?_eq_some_iff.1 h
 rw [List.drop_eq_getElem_cons hi, he]
theorem mB_star_cases {e : El} {r : List El} {s : List UInt8} (h : e.star = true) : mB (e :: r) s = true ↔ mB r s = true ∨ ∃ c t, s = c :: t ∧ e.set c = true ∧ mB (e :: r) t = true := by
 rw [mB, if_pos h]
 cases s with
 | nil => simp [starB]
 | cons c t =>
  simp only [starB, Bool.or_eq_true, Bool.and_eq_true]
  constructor
  ·rintro (h1 | ⟨h1, h2⟩)
   ·exact Or.inl h1
   ·exact Or.inr ⟨c, t, rfl, h1, h2⟩
  ·rintro (h1 | ⟨c', t', ht, h1, h2⟩)
   ·exact Or.inl h1
   ·cases ht; exact Or.inr ⟨h1, h2⟩
/-- How a common text begins: by leaving a star, or with a byte that both take. -/
theorem Com.cases {i k : Nat} {s : List UInt8} (h : Com a b i k s) :
  (i = a.length ∧ k = b.length ∧ s = []) ∨ a.length < i ∨ b.length < k ∨ (starAt a i = true ∧ Com a b (i + 1) k s) ∨ (starAt b k = true ∧ Com a b i (k + 1) s) ∨
  (∃ c t, s = c :: t ∧ Com a b i k t) ∨ (∃ c d t i' k', s = c :: t ∧ stepP a b i k = some (d, i', k') ∧ d.toNat ≤ c.toNat ∧ Com a b i' k' t) := by
 obtain ⟨h1, h2⟩ := h
 by_cases hia : a.length < i
 ·exact Or.inr (Or.inl hia)
 by_cases hkb : b.length < k
 ·exact Or.inr (Or.inr (Or.inl hkb))
 cases ha : a[i]? with
 | none =>
  have hi : i = a.length := by have := List.getElem?_eq_none_iff.1 ha; omega
  have hs : s = [] := by rw [hi, List.drop_length] at h1; simpa [mB] using h1
  subst hs
  cases hb : b[k]? with
  | none =>
   have hk : k = b.length := by have := List.getElem?_eq_none_iff.1 hb; omega
   exact Or.inl ⟨hi, hk, rfl⟩
  | some f =>
   rw [drop_at hb] at h2
   cases hf : f.star with
   | true =>
    rcases (mB_star_cases hf).1 h2 with h3 | ⟨_, _, h3, _⟩
    ·exact Or.inr (Or.inr (Or.inr (Or.inr (Or.inl ⟨starAt_iff.2 ⟨f, hb, hf⟩, h1, h3⟩))))
    ·simp at h3
   | false =>
    obtain ⟨_, _, h3, _⟩ := (mB_one _ _ _ hf).1 h2
    simp at h3
 | some e =>
  have h1' := h1
  rw [drop_at ha] at h1
  have heat : ∀ t, e.star = true → mB (a.drop (i + 1)) t = true → mB (b.drop k) t = true → (starAt a i = true ∧ Com a b (i + 1) k t) := fun t hes hm h2 => ⟨starAt_iff.2 ⟨e, ha, hes⟩, hm, h2⟩
  have hcons : (e.star = true ∧ mB (a.drop (i + 1)) s = true) ∨ ∃ c t, s = c :: t ∧ e.set c = true ∧ mB (a.drop (if e.star then i else i + 1)) t = true := by
   cases hes : e.star with
   | true =>
    rcases (mB_star_cases hes).1 h1 with h3 | ⟨c, t, h3, h4, h5⟩
    ·exact Or.inl ⟨rfl, h3⟩
    ·exact Or.inr ⟨c, t, h3, h4, by simp only [if_true]; rw [drop_at ha]; exact h5⟩
   | false =>
    obtain ⟨c, t, h3, h4, h5⟩ := (mB_one _ _ _ hes).1 h1
    exact Or.inr ⟨c, t, h3, h4, by simpa using h5⟩
  rcases hcons with ⟨hes, hm⟩ | ⟨c, t, rfl, hc, hm⟩
  ·exact Or.inr (Or.inr (Or.inr (Or.inl (heat s hes hm h2))))
  ·cases hb : b[k]? with
   | none =>
    have hk : k = b.length := by have := List.getElem?_eq_none_iff.1 hb; omega
    rw [hk, List.drop_length] at h2
    simp [mB] at h2
   | some f =>
    have hcons2 : (f.star = true ∧ mB (b.drop (k + 1)) (c :: t) = true) ∨ (f.set c = true ∧ mB (b.drop (if f.star then k else k + 1)) t = true) := by
     have h2' := h2
     rw [drop_at hb] at h2
     cases hfs : f.star with
     | true =>
      rcases (mB_star_cases hfs).1 h2 with h3 | ⟨c', t', h3, h4, h5⟩
      ·exact Or.inl ⟨rfl, h3⟩
      ·cases h3
       exact Or.inr ⟨h4, by simp only [if_true]; rw [drop_at hb]; exact h5⟩
     | false =>
      obtain ⟨c', t', h3, h4, h5⟩ := (mB_one _ _ _ hfs).1 h2
      cases h3
      exact Or.inr ⟨h4, by simpa using h5⟩
    rcases hcons2 with ⟨hfs, hm2⟩ | ⟨hfc, hm2⟩
    ·exact Or.inr (Or.inr (Or.inr (Or.inr (Or.inl ⟨starAt_iff.2 ⟨f, hb, hfs⟩, h1', hm2⟩))))
    ·by_cases hboth : (e.star && f.star) = true
     ·rw [Bool.and_eq_true] at hboth
      rw [hboth.1, if_pos rfl] at hm
      rw [hboth.2, if_pos rfl] at hm2
      exact Or.inr (Or.inr (Or.inr (Or.inr (Or.inr (Or.inl ⟨c, t, rfl, hm, hm2⟩)))))
     ·obtain ⟨d, hd, _, hdc⟩ := leastS_of (S := fun c => e.set c && f.set c) (d := c) (by simp [hc, hfc])
      refine Or.inr (Or.inr (Or.inr (Or.inr (Or.inr (Or.inr ⟨c, d, t, (if e.star then i else i + 1), (if f.star then k else k + 1), rfl, ?_, hdc, hm, hm2⟩)))))
      unfold stepP
      rw [ha, hb]
      simp only
      rw [if_neg hboth, hd]
      rfl
end
end Go.Proofs.YtljkljnfbcmjdaaGreatDoor.Gl
namespace Go.Proofs.YtljkljnfbcmjdaaGreatDoor.Gl
abbrev Pr := Nat × Nat
section
variable (a b : List El)
/-- z is closed in S: what follows from it without a byte, at the same length, lies in S. -/
def closedAt (left : Nat) (S : List Pr) (z : Pr) : Prop :=
 (starAt a z.1 = true → lenP a b (z.1 + 1) z.2 = left → (z.1 + 1, z.2) ∈ S) ∧ (starAt b z.2 = true → lenP a b z.1 (z.2 + 1) = left → (z.1, z.2 + 1) ∈ S)
theorem closedAt.mono {left : Nat} {S T : List Pr} {z : Pr} (h : closedAt a b left S z) (hs : ∀ y ∈ S, y ∈ T) : closedAt a b left T z := ⟨fun h1 h2 => hs _ (h.1 h1 h2), fun h1 h2 => hs _ (h.2 h1 h2)⟩
end
end Go.Proofs.YtljkljnfbcmjdaaGreatDoor.Gl
namespace Go.Proofs.YtljkljnfbcmjdaaGreatDoor.Gl
/-- Behind the star st: the text may go on from the byte kept, taken by the star. -/
def back (l : List El) (s : List UInt8) (st : Option Nat) (kept : Nat) : Bool := match st with
 | none => false
 | some k => ((l[k]?.bind fun e => s[kept]?.map e.set).getD false) && mB (l.drop k) (s.drop (kept + 1))
structure MInv (l : List El) (s : List UInt8) (pos : Nat) (st : Option Nat) (read kept : Nat) : Prop where
 pos_le : pos ≤ l.length
 read_le : read ≤ s.length
 kept_le : kept ≤ read
 star : ∀ k, st = some k → k < pos ∧ (∃ e, l[k]? = some e ∧ e.star = true) ∧ (∀ j f, k < j → j < pos → l[j]? = some f → f.star = false) ∧ read = kept + (pos - (k + 1))
 eq : mB l s = (mB (l.drop pos) (s.drop read) || back l s st kept)
theorem MInv.start (l : List El) (s : List UInt8) : MInv l s 0 none 0 0 := ⟨Nat.zero_le _, Nat.zero_le _, Nat.le_refl _, fun _ h => by simp at h, by simp [back]⟩
theorem drop_at8 {s : List UInt8} {i : Nat} {c : UInt8} (h : s[i]? = some c) : s.drop i = c :: s.drop (i + 1) := by
 obtain ⟨hi, he⟩ := List.getElem?_eq_some_iff.1 h
 rw [List.drop_eq_getElem_cons hi, he]
/-- The elements between the star k and pos. -/
theorem drop_split (l : List El) (k pos : Nat) (h : k < pos) : l.drop (k + 1) = (l.drop (k + 1)).take (pos - (k + 1)) ++ l.drop pos := by
 have := (List.take_append_drop (pos - (k + 1)) (l.drop (k + 1))).symm
 rwa [List.drop_drop, show k + 1 + (pos - (k + 1)) = pos from by omega] at this
theorem mid_plain {l : List El} {k pos : Nat} (hs : ∀ j f, k < j → j < pos → l[j]? = some f → f.star = false) : ∀ f ∈ (l.drop (k + 1)).take (pos - (k + 1)), f.star = false := by
 intro f hf
 obtain ⟨i, hi⟩ := List.mem_iff_getElem?.1 hf
 rw [List.getElem?_take] at hi
 split at hi
 ·rw [List.getElem?_drop] at hi
  exact hs (k + 1 + i) f (by omega) (by omega) hi
 ·simp at hi
theorem mid_length {l : List El} {k pos : Nat} (hp : pos ≤ l.length) : ((l.drop (k + 1)).take (pos - (k + 1))).length = pos - (k + 1) := by
 rw [List.length_take, List.length_drop]
 omega
theorem star_take {l : List El} {s : List UInt8} {pos read : Nat} {e : El} (he : l[pos]? = some e) (hs : e.star = true) :
  mB (l.drop pos) (s.drop read) = (mB (l.drop (pos + 1)) (s.drop read) || back l s (some pos) read) := by
 rw [Bool.eq_iff_iff, Bool.or_eq_true, drop_at he, mB_star_cases hs]
 simp only [back]
 rw [he, drop_at he]
 cases hc : s[read]? with
 | none =>
  have : s.drop read = [] := List.drop_eq_nil_of_le (List.getElem?_eq_none_iff.1 hc)
  simp [this]
 | some c =>
  rw [drop_at8 hc]
  simp only [Option.bind_some, Option.map_some, Option.getD_some, Bool.and_eq_true]
  constructor
  ·rintro (h | ⟨c', t, h1, h2, h3⟩)
   ·exact Or.inl h
   ·cases h1; exact Or.inr ⟨h2, h3⟩
  ·rintro (h | ⟨h2, h3⟩)
   ·exact Or.inl h
   ·exact Or.inr ⟨c, _, rfl, h2, h3⟩
theorem MInv.onStar {l : List El} {s : List UInt8} {pos read kept : Nat} {st : Option Nat} (hok : ∀ e ∈ l, e.ok) (h : MInv l s pos st read kept) {e : El} (he : l[pos]? = some e) (hs : e.star = true) : MInv l s (pos + 1) (some pos) read read := by
 have hlt := (List.getElem?_eq_some_iff.1 he).1
 refine ⟨hlt, h.read_le, Nat.le_refl _, fun k hk => ?_, ?_⟩
 ·cases hk
  exact ⟨Nat.lt_succ_self _, ⟨e, he, hs⟩, fun j f h1 h2 _ => by omega, by omega⟩
 ·rw [← star_take he hs, h.eq]
  cases hb : back l s st kept with
  | false => rw [Bool.or_false]
  | true =>
   rw [Bool.or_true]
   symm
   cases st with
   | none => simp [back] at hb
   | some k =>
    obtain ⟨hk, ⟨f, hf, hfs⟩, hmid, hread⟩ := h.star k rfl
    simp only [back] at hb
    rw [hf] at hb
    cases hc : s[kept]? with
    | none => rw [hc] at hb; simp at hb
    | some c =>
     rw [hc] at hb
     simp only [Option.bind_some, Option.map_some, Option.getD_some, Bool.and_eq_true] at hb
     obtain ⟨h1, h2⟩ := hb
     have hsplit := drop_split l k pos hk
     rw [drop_at hf, hsplit, drop_at he] at h2
     have hlater := mB_later hfs (mid_plain hmid) hs (fun g hg => hok g ?_) _ c h1 h2
     ·rw [mid_length h.pos_le, ← drop_at8 hc, List.drop_drop, ← hread, ← drop_at he] at hlater
      exact hlater
     ·rcases List.mem_cons.1 hg with rfl | hg
      ·exact List.mem_of_getElem? hf
      ·rw [← drop_at he, ← hsplit] at hg
       exact List.mem_of_mem_drop hg
theorem MInv.onByte {l : List El} {s : List UInt8} {pos read kept : Nat} {st : Option Nat} (h : MInv l s pos st read kept) {e : El} (he : l[pos]? = some e) (hs : e.star = false) {c : UInt8} (hc : s[read]? = some c) (hset : e.set c = true) : MInv l s (pos + 1) st (read + 1) kept := by
 have hlt := (List.getElem?_eq_some_iff.1 he).1
 have hrl := (List.getElem?_eq_some_iff.1 hc).1
 refine ⟨hlt, hrl, Nat.le_succ_of_le h.kept_le, fun k hk => ?_, ?_⟩
 ·obtain ⟨h1, h2, h3, h4⟩ := h.star k hk
  refine ⟨by omega, h2, fun j f hj1 hj2 hj => ?_, by omega⟩
  rcases Nat.lt_or_ge j pos with hlt' | hge
  ·exact h3 j f hj1 hlt' hj
  ·obtain rfl : j = pos := by omega
   rw [he] at hj
   cases hj
   exact hs
 ·rw [h.eq, drop_at he, drop_at8 hc, mB, if_neg (by simp [hs]), oneB, hset, Bool.true_and]
/-- The text can't go on here. -/
def stuckAt (l : List El) (s : List UInt8) (pos read : Nat) : Prop := l[pos]? = none ∨ ∃ e c, l[pos]? = some e ∧ e.star = false ∧ s[read]? = some c ∧ e.set c = false
theorem stuck_false {l : List El} {s : List UInt8} {pos read : Nat} {c : UInt8} (hc : s[read]? = some c) (h : stuckAt l s pos read) : mB (l.drop pos) (s.drop read) = false := by
 rw [drop_at8 hc]
 rcases h with h | ⟨e, d, he, hs, hd, hset⟩
 ·rw [List.drop_eq_nil_of_le (List.getElem?_eq_none_iff.1 h)]
  rfl
 ·rw [hc] at hd
  cases hd
  rw [drop_at he, mB, if_neg (by simp [hs]), oneB, hset, Bool.false_and]
theorem MInv.onBack {l : List El} {s : List UInt8} {pos read kept k : Nat} (h : MInv l s pos (some k) read kept) {c : UInt8} (hc : s[read]? = some c) (hst : stuckAt l s pos read) {e : El} (he : l[k]? = some e) {d : UInt8} (hd : s[kept]? = some d) (hset : e.set d = true) : MInv l s (k + 1) (some k) (kept + 1) (kept + 1) := by
 have hrl := (List.getElem?_eq_some_iff.1 hd).1
 obtain ⟨h1, ⟨f, hf, hfs⟩, h3, h4⟩ := h.star k rfl
 rw [he] at hf
 cases hf
 have hp := h.pos_le
 refine ⟨by omega, hrl, Nat.le_refl _, fun j hj => ?_, ?_⟩
 ·cases hj
  exact ⟨Nat.lt_succ_self _, ⟨e, he, hfs⟩, fun j f hj1 hj2 _ => by omega, by omega⟩
 ·rw [← star_take he hfs, h.eq, stuck_false hc hst, Bool.false_or, back, he, hd]
  simp [hset]
theorem MInv.onFail {l : List El} {s : List UInt8} {pos read kept : Nat} {st : Option Nat} (h : MInv l s pos st read kept) {c : UInt8} (hc : s[read]? = some c) (hst : stuckAt l s pos read)
  (hb : st = none ∨ ∃ k e d, st = some k ∧ l[k]? = some e ∧ s[kept]? = some d ∧ e.set d = false) : mB l s = false := by
 rw [h.eq, stuck_false hc hst, Bool.false_or]
 rcases hb with rfl | ⟨k, e, d, rfl, he, hd, hset⟩
 ·rfl
 ·rw [back, he, hd]
  simp [hset]
theorem MInv.onEnd {l : List El} {s : List UInt8} {pos kept : Nat} {st : Option Nat} (h : MInv l s pos st s.length kept) : mB l s = mB (l.drop pos) [] := by
 rw [h.eq, List.drop_length]
 cases st with
 | none => simp [back]
 | some k =>
  obtain ⟨h1, ⟨f, hf, hfs⟩, h3, h4⟩ := h.star k rfl
  have hp := h.pos_le
  rw [back, drop_at hf, drop_split l k pos h1]
  by_cases hlt : kept < s.length
  ·rw [mB_none_left hfs (mid_plain h3) _ (by rw [mid_length hp, List.length_drop]; omega), Bool.and_false, Bool.or_false]
  ·rw [hf, List.getElem?_eq_none (by omega)]
   simp
theorem mB_end_star {l : List El} {pos : Nat} {e : El} (he : l[pos]? = some e) (hs : e.star = true) : mB (l.drop pos) [] = mB (l.drop (pos + 1)) [] := by
 rw [drop_at he, mB, if_pos hs, starB]
theorem mB_end_one {l : List El} {pos : Nat} {e : El} (he : l[pos]? = some e) (hs : e.star = false) : mB (l.drop pos) [] = false := by
 rw [drop_at he, mB, if_neg (by simp [hs]), oneB]
theorem mB_end {l : List El} : mB (l.drop l.length) [] = true := by rw [List.drop_length]; rfl
end Go.Proofs.YtljkljnfbcmjdaaGreatDoor.Gl
