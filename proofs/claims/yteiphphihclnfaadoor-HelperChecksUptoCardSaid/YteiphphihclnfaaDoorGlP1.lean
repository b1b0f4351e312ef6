/- Patterns and what they match, on lists of bytes. -/
namespace Go.Proofs.YteiphphihclnfaaDoor.Gl

/-- An element of an alternative. -/
structure El where
  star : Bool
  self : Bool
  set : UInt8 → Bool

def isText (b : UInt8) : Bool := decide (32 ≤ b.toNat) && decide (b.toNat ≤ 126)
def rangeB (a b c : UInt8) : Bool := decide (a.toNat ≤ c.toNat) && decide (c.toNat ≤ b.toNat)

/-- The members of a set, added to those of acc. -/
def memB (acc : UInt8 → Bool) : List UInt8 → Option (UInt8 → Bool)
  | [] => some acc
  | [a] => some fun x => acc x || rangeB a a x
  | [a, b] => some fun x => (acc x || rangeB a a x) || rangeB b b x
  | a :: b :: c :: t => if b = 45 then (if c.toNat < a.toNat then none else memB (fun x => acc x || rangeB a c x) t) else memB (fun x => acc x || rangeB a a x) (b :: c :: t)

/-- The set between brackets. -/
def setB : List UInt8 → Option (UInt8 → Bool)
  | [] => none
  | c :: r => if c = 33 then (if r = [] then none else (memB (fun _ => false) r).map fun S x => isText x && !S x) else memB (fun _ => false) (c :: r)

/-- The first element of c :: r, and how many bytes of r it takes. -/
def firstEl (c : UInt8) (r : List UInt8) : Option (El × Nat) :=
  if c = 42 then some (⟨true, false, isText⟩, 0)
  else if c = 63 then some (⟨false, false, isText⟩, 0)
  else if c = 91 then (if r.contains 93 then (setB (r.take (r.idxOf 93))).map fun S => (⟨false, false, S⟩, r.idxOf 93 + 1) else none)
  else some (⟨false, true, fun x => x == c⟩, 0)

def toksF : Nat → List UInt8 → Option (List (Option El))
  | _, [] => some []
  | 0, _ :: _ => none
  | n + 1, c :: r => if c = 124 then (toksF n r).map (none :: ·) else match firstEl c r with
    | none => none
    | some (e, k) => (toksF n (r.drop k)).map (some e :: ·)

def toks (p : List UInt8) : Option (List (Option El)) := toksF p.length p

def altsOf : List (Option El) → List (List El)
  | [] => [[]]
  | none :: t => [] :: altsOf t
  | some e :: t => match altsOf t with
    | [] => [[e]]
    | h :: r => (e :: h) :: r

def starB (f : List UInt8 → Bool) (S : UInt8 → Bool) : List UInt8 → Bool
  | [] => f []
  | c :: t => f (c :: t) || (S c && starB f S t)

def oneB (f : List UInt8 → Bool) (S : UInt8 → Bool) : List UInt8 → Bool
  | [] => false
  | c :: t => S c && f t

/-- Does an alternative match a text? -/
def mB : List El → List UInt8 → Bool
  | [] => List.isEmpty
  | e :: r => if e.star then starB (mB r) e.set else oneB (mB r) e.set

theorem toksF_fuel : ∀ (n m : Nat) (p : List UInt8), p.length ≤ n → p.length ≤ m → toksF n p = toksF m p
  | _, _, [], _, _ => by simp [toksF]
  | 0, _, _ :: _, h, _ => by simp at h
  | _ + 1, 0, _ :: _, _, h => by simp at h
  | n + 1, m + 1, c :: r, h, k => by
    simp only [List.length_cons] at h k
    unfold toksF
    split
    · rw [toksF_fuel n m r (by omega) (by omega)]
    · split
      · rfl
      · rw [toksF_fuel n m _ (by simp; omega) (by simp; omega)]

theorem toks_cons (c : UInt8) (r : List UInt8) : toks (c :: r) = if c = 124 then (toks r).map (none :: ·) else match firstEl c r with
    | none => none
    | some (e, k) => (toks (r.drop k)).map (some e :: ·) := by
  unfold toks
  rw [List.length_cons, toksF]
  split
  · rfl
  · split
    · rfl
    · rw [toksF_fuel _ _ (r.drop _) (by simp) (Nat.le_refl _)]

theorem altsOf_ne (T : List (Option El)) : altsOf T ≠ [] := by
  cases T with
  | nil => simp [altsOf]
  | cons a t => cases a with
    | none => simp [altsOf]
    | some e => simp only [altsOf]; split <;> simp

theorem altsOf_none (T U : List (Option El)) : altsOf (T ++ none :: U) = altsOf T ++ altsOf U := by
  induction T with
  | nil => simp [altsOf]
  | cons a t ih => cases a with
    | none => simp [altsOf, ih]
    | some e =>
      simp only [List.cons_append, altsOf, ih]
      cases h : altsOf t with
      | nil => exact absurd h (altsOf_ne t)
      | cons x y => simp

def snocLast (L : List (List El)) (e : El) : List (List El) := L.dropLast ++ [L.getLastD [] ++ [e]]

theorem altsOf_some (T : List (Option El)) (e : El) : altsOf (T ++ [some e]) = snocLast (altsOf T) e := by
  induction T with
  | nil => simp [altsOf, snocLast]
  | cons a t ih => cases a with
    | none =>
      simp only [List.cons_append, altsOf, ih, snocLast]
      cases h : altsOf t with
      | nil => exact absurd h (altsOf_ne t)
      | cons x y => simp
    | some f =>
      simp only [List.cons_append, altsOf, ih, snocLast]
      cases h : altsOf t with
      | nil => exact absurd h (altsOf_ne t)
      | cons x y =>
        cases y with
        | nil => simp
        | cons z u => simp

/-! What is matched. -/

theorem starB_iff (f : List UInt8 → Bool) (S : UInt8 → Bool) (s : List UInt8) : starB f S s = true ↔ ∃ i, i ≤ s.length ∧ (s.take i).all S = true ∧ f (s.drop i) = true := by
  induction s with
  | nil => simp [starB]
  | cons c t ih =>
    simp only [starB, Bool.or_eq_true, Bool.and_eq_true, ih]
    constructor
    · rintro (h | ⟨hc, i, hi, ha, hf⟩)
      · exact ⟨0, by omega, by simp, by simpa using h⟩
      · exact ⟨i + 1, by simp; omega, by simp [hc]; simpa using ha, by simpa using hf⟩
    · rintro ⟨i, hi, ha, hf⟩
      cases i with
      | zero => exact Or.inl (by simpa using hf)
      | succ i =>
        simp only [List.take_succ_cons, List.all_cons, Bool.and_eq_true, List.drop_succ_cons] at ha hf
        exact Or.inr ⟨ha.1, i, by simp at hi; omega, ha.2, hf⟩

theorem mB_star (e : El) (r : List El) (s : List UInt8) (h : e.star = true) : mB (e :: r) s = true ↔ ∃ i, i ≤ s.length ∧ (s.take i).all e.set = true ∧ mB r (s.drop i) = true := by
  rw [mB, if_pos h, starB_iff]

theorem mB_one (e : El) (r : List El) (s : List UInt8) (h : e.star = false) : mB (e :: r) s = true ↔ ∃ c t, s = c :: t ∧ e.set c = true ∧ mB r t = true := by
  rw [mB, if_neg (by simp [h])]
  cases s with
  | nil => simp [oneB]
  | cons c t =>
    simp only [oneB, Bool.and_eq_true]
    constructor
    · rintro ⟨h1, h2⟩; exact ⟨c, t, rfl, h1, h2⟩
    · rintro ⟨c', t', ht, h1, h2⟩; cases ht; exact ⟨h1, h2⟩

theorem mB_append (x y : List El) : ∀ s, mB (x ++ y) s = true ↔ ∃ i, i ≤ s.length ∧ mB x (s.take i) = true ∧ mB y (s.drop i) = true := by
  induction x with
  | nil =>
    intro s
    constructor
    · intro h; exact ⟨0, by omega, by simp [mB], by simpa using h⟩
    · rintro ⟨i, hi, h, k⟩
      simp only [mB, List.isEmpty_iff, List.take_eq_nil_iff] at h
      rcases h with rfl | rfl
      · simpa using k
      · simpa using k
  | cons e r ih =>
    intro s
    rw [List.cons_append]
    cases hs : e.star with
    | true =>
      rw [mB_star e _ s hs]
      constructor
      · rintro ⟨i, hi, ha, hm⟩
        obtain ⟨k, hk, h1, h2⟩ := (ih _).1 hm
        simp only [List.length_drop] at hk
        refine ⟨i + k, by omega, (mB_star e r _ hs).2 ⟨i, by simp; omega, ?_, ?_⟩, by rw [List.drop_drop] at h2; exact h2⟩
        · rw [List.take_take, Nat.min_eq_left (by omega)]; exact ha
        · rw [List.drop_take]; simpa using h1
      · rintro ⟨j, hj, h1, h2⟩
        obtain ⟨i, hi, ha, hm⟩ := (mB_star e r _ hs).1 h1
        simp only [List.length_take] at hi
        refine ⟨i, by omega, ?_, (ih _).2 ⟨j - i, by simp; omega, ?_, ?_⟩⟩
        · rw [List.take_take, Nat.min_eq_left (by omega)] at ha; exact ha
        · rw [List.drop_take] at hm; exact hm
        · rw [List.drop_drop, show i + (j - i) = j from by omega]; exact h2
    | false =>
      rw [mB_one e _ s hs]
      constructor
      · rintro ⟨c, t, rfl, hc, hm⟩
        obtain ⟨k, hk, h1, h2⟩ := (ih _).1 hm
        exact ⟨k + 1, by simp; omega, (mB_one e r _ hs).2 ⟨c, t.take k, by simp, hc, h1⟩, by simpa using h2⟩
      · rintro ⟨j, hj, h1, h2⟩
        obtain ⟨c, t, ht, hc, hm⟩ := (mB_one e r _ hs).1 h1
        cases s with
        | nil => simp at ht
        | cons c' t' =>
          cases j with
          | zero => simp at ht
          | succ j =>
            simp only [List.take_succ_cons, List.cons.injEq] at ht
            obtain ⟨rfl, rfl⟩ := ht
            exact ⟨c', t', rfl, hc, (ih _).2 ⟨j, by simp at hj; omega, hm, by simpa using h2⟩⟩

/-- The sets have bytes of texts only; a star's set has all of them. -/
def El.ok (e : El) : Prop := (∀ b, e.set b = true → isText b = true) ∧ (e.star = true → ∀ b, isText b = true → e.set b = true)

theorem mB_text {a : List El} (h : ∀ e ∈ a, e.ok) : ∀ s, mB a s = true → s.all isText = true := by
  induction a with
  | nil => intro s hs; simp [mB] at hs; simp [hs]
  | cons e r ih =>
    intro s hs
    have ih' := ih fun f hf => h f (List.mem_cons_of_mem _ hf)
    have he := h e (List.mem_cons_self)
    cases hst : e.star with
    | true =>
      obtain ⟨i, hi, ha, hm⟩ := (mB_star e r s hst).1 hs
      rw [← List.take_append_drop i s, List.all_append, ih' _ hm, Bool.and_true]
      exact List.all_eq_true.2 fun x hx => he.1 x (List.all_eq_true.1 ha x hx)
    | false =>
      obtain ⟨c, t, rfl, hc, hm⟩ := (mB_one e r s hst).1 hs
      rw [List.all_cons, ih' _ hm, he.1 c hc]; rfl

/-- Elements that are no stars take one byte each. -/
theorem mB_drop {x : List El} (hx : ∀ e ∈ x, e.star = false) (y : List El) : ∀ s, mB (x ++ y) s = true → x.length ≤ s.length ∧ mB y (s.drop x.length) = true := by
  induction x with
  | nil => intro s h; exact ⟨by simp, by simpa using h⟩
  | cons e r ih =>
    intro s h
    obtain ⟨c, t, rfl, _, hm⟩ := (mB_one e (r ++ y) s (hx e List.mem_cons_self)).1 h
    obtain ⟨h1, h2⟩ := ih (fun f hf => hx f (List.mem_cons_of_mem _ hf)) t hm
    exact ⟨by simp; omega, by simpa using h2⟩

/-- What stands behind the last star: another place of the bytes that the star takes does nothing that a later star can't do. -/
theorem mB_later {e : El} {x y : List El} (hst : e.star = true) (hx : ∀ f ∈ x, f.star = false) {f : El} (hf : f.star = true) (hok : ∀ g ∈ e :: (x ++ f :: y), g.ok) (s : List UInt8) (c : UInt8)
    (hc : e.set c = true) (h : mB (e :: (x ++ f :: y)) s = true) : mB (f :: y) ((c :: s).drop x.length) = true := by
  have htext := mB_text hok s h
  have hct : isText c = true := (hok e List.mem_cons_self).1 c hc
  obtain ⟨i, hi, ha, hm⟩ := (mB_star e _ s hst).1 h
  obtain ⟨h1, h2⟩ := mB_drop hx (f :: y) _ hm
  rw [List.drop_drop] at h2
  obtain ⟨k, hk, hb, hr⟩ := (mB_star f y _ hf).1 h2
  have hall : (c :: s).all isText = true := by rw [List.all_cons, hct, htext]; rfl
  simp only [List.length_drop] at h1 hk
  refine (mB_star f y _ hf).2 ⟨i + 1 + k, by simp; omega, ?_, ?_⟩
  · refine List.all_eq_true.2 fun z hz => (hok f (by simp)).2 hf z (List.all_eq_true.1 hall z ?_)
    exact List.mem_of_mem_drop (List.mem_of_mem_take hz)
  · rw [List.drop_drop] at hr ⊢
    rw [show x.length + (i + 1 + k) = (i + x.length + k) + 1 from by omega, List.drop_succ_cons]
    exact hr

theorem mB_none_left {e : El} {x y : List El} (hst : e.star = true) (hx : ∀ f ∈ x, f.star = false) (s : List UInt8) (hs : s.length < x.length) : mB (e :: (x ++ y)) s = false := by
  rw [Bool.eq_false_iff]
  intro h
  obtain ⟨i, hi, _, hm⟩ := (mB_star e _ s hst).1 h
  have := (mB_drop hx y _ hm).1
  simp at this
  omega
end Go.Proofs.YteiphphihclnfaaDoor.Gl
