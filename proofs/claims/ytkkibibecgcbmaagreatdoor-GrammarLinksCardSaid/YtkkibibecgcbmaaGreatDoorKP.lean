/- Patterns and what they match, on lists of bytes. The least common text of two alternatives, on lists of bytes: the lengths of the shortest texts. The least common text of two alternatives: the search by pairs of places. How matches goes: what stands while it reads. -/
namespace Go.Proofs.YtkkibibecgcbmaaGreatDoor.Gl

/-- An element of an alternative. -/
structure El where
  star : Bool
  self : Bool
  set : UInt8 → Bool

def isText (b : UInt8) : Bool := decide (32 ≤ b.toNat) && decide (b.toNat ≤ 126)
def rangeB (a b c : UInt8) : Bool := decide (a.toNat ≤ c.toNat) && decide (c.toNat ≤ b.toNat)

/-- The members of a set, added to those of acc. -/
def memB (acc : UInt8 → Bool) : List UInt8 → Option (UInt8 → Bool)
  | [] => some acc
  | [a] => some fun x => acc x || rangeB a a x
  | [a, b] => some fun x => (acc x || rangeB a a x) || rangeB b b x
  | a :: b :: c :: t => if b = 45 then (if c.toNat < a.toNat then none else memB (fun x => acc x || rangeB a c x) t) else memB (fun x => acc x || rangeB a a x) (b :: c :: t)

/-- The set between brackets. -/
def setB : List UInt8 → Option (UInt8 → Bool)
  | [] => none
  | c :: r => if c = 33 then (if r = [] then none else (memB (fun _ => false) r).map fun S x => isText x && !S x) else memB (fun _ => false) (c :: r)

/-- The first element of c :: r, and how many bytes of r it takes. -/
def firstEl (c : UInt8) (r : List UInt8) : Option (El × Nat) :=
  if c = 42 then some (⟨true, false, isText⟩, 0)
  else if c = 63 then some (⟨false, false, isText⟩, 0)
  else if c = 91 then (if r.contains 93 then (setB (r.take (r.idxOf 93))).map fun S => (⟨false, false, S⟩, r.idxOf 93 + 1) else none)
  else some (⟨false, true, fun x => x == c⟩, 0)

def toksF : Nat → List UInt8 → Option (List (Option El))
  | _, [] => some []
  | 0, _ :: _ => none
  | n + 1, c :: r => if c = 124 then (toksF n r).map (none :: ·) else match firstEl c r with
    | none => none
    | some (e, k) => (toksF n (r.drop k)).map (some e :: ·)

def toks (p : List UInt8) : Option (List (Option El)) := toksF p.length p

def altsOf : List (Option El) → List (List El)
  | [] => [[]]
  | none :: t => [] :: altsOf t
  | some e :: t => match altsOf t with
    | [] => [[e]]
    | h :: r => (e :: h) :: r

def starB (f : List UInt8 → Bool) (S : UInt8 → Bool) : List UInt8 → Bool
  | [] => f []
  | c :: t => f (c :: t) || (S c && starB f S t)

def oneB (f : List UInt8 → Bool) (S : UInt8 → Bool) : List UInt8 → Bool
  | [] => false
  | c :: t => S c && f t

/-- Does an alternative match a text? -/
def mB : List El → List UInt8 → Bool
  | [] => List.isEmpty
  | e :: r => if e.star then starB (mB r) e.set else oneB (mB r) e.set

theorem toksF_fuel : ∀ (n m : Nat) (p : List UInt8), p.length ≤ n → p.length ≤ m → toksF n p = toksF m p
  | _, _, [], _, _ => by simp [toksF]
  | 0, _, _ :: _, h, _ => by simp at h
  | _ + 1, 0, _ :: _, _, h => by simp at h
  | n + 1, m + 1, c :: r, h, k => by
    simp only [List.length_cons] at h k
    unfold toksF
    split
    · rw [toksF_fuel n m r (by omega) (by omega)]
    · split
      · rfl
      · rw [toksF_fuel n m _ (by simp; omega) (by simp; omega)]

theorem toks_cons (c : UInt8) (r : List UInt8) : toks (c :: r) = if c = 124 then (toks r).map (none :: ·) else match firstEl c r with
    | none => none
    | some (e, k) => (toks (r.drop k)).map (some e :: ·) := by
  unfold toks
  rw [List.length_cons, toksF]
  split
  · rfl
  · split
    · rfl
    · rw [toksF_fuel _ _ (r.drop _) (by simp) (Nat.le_refl _)]

theorem altsOf_ne (T : List (Option El)) : altsOf T ≠ [] := by
  cases T with
  | nil => simp [altsOf]
  | cons a t => cases a with
    | none => simp [altsOf]
    | some e => simp only [altsOf]; split <;> simp

theorem altsOf_none (T U : List (Option El)) : altsOf (T ++ none :: U) = altsOf T ++ altsOf U := by
  induction T with
  | nil => simp [altsOf]
  | cons a t ih => cases a with
    | none => simp [altsOf, ih]
    | some e =>
      simp only [List.cons_append, altsOf, ih]
      cases h : altsOf t with
      | nil => exact absurd h (altsOf_ne t)
      | cons x y => simp

def snocLast (L : List (List El)) (e : El) : List (List El) := L.dropLast ++ [L.getLastD [] ++ [e]]

theorem altsOf_some (T : List (Option El)) (e : El) : altsOf (T ++ [some e]) = snocLast (altsOf T) e := by
  induction T with
  | nil => simp [altsOf, snocLast]
  | cons a t ih => cases a with
    | none =>
      simp only [List.cons_append, altsOf, ih, snocLast]
      cases h : altsOf t with
      | nil => exact absurd h (altsOf_ne t)
      | cons x y => simp
    | some f =>
      simp only [List.cons_append, altsOf, ih, snocLast]
      cases h : altsOf t with
      | nil => exact absurd h (altsOf_ne t)
      | cons x y =>
        cases y with
        | nil => simp
        | cons z u => simp

/-! What is matched. -/

theorem starB_iff (f : List UInt8 → Bool) (S : UInt8 → Bool) (s : List UInt8) : starB f S s = true ↔ ∃ i, i ≤ s.length ∧ (s.take i).all S = true ∧ f (s.drop i) = true := by
  induction s with
  | nil => simp [starB]
  | cons c t ih =>
    simp only [starB, Bool.or_eq_true, Bool.and_eq_true, ih]
    constructor
    · rintro (h | ⟨hc, i, hi, ha, hf⟩)
      · exact ⟨0, by omega, by simp, by simpa using h⟩
      · exact ⟨i + 1, by simp; omega, by simp [hc]; simpa using ha, by simpa using hf⟩
    · rintro ⟨i, hi, ha, hf⟩
      cases i with
      | zero => exact Or.inl (by simpa using hf)
      | succ i =>
        simp only [List.take_succ_cons, List.all_cons, Bool.and_eq_true, List.drop_succ_cons] at ha hf
        exact Or.inr ⟨ha.1, i, by simp at hi; omega, ha.2, hf⟩

theorem mB_star (e : El) (r : List El) (s : List UInt8) (h : e.star = true) : mB (e :: r) s = true ↔ ∃ i, i ≤ s.length ∧ (s.take i).all e.set = true ∧ mB r (s.drop i) = true := by
  rw [mB, if_pos h, starB_iff]

theorem mB_one (e : El) (r : List El) (s : List UInt8) (h : e.star = false) : mB (e :: r) s = true ↔ ∃ c t, s = c :: t ∧ e.set c = true ∧ mB r t = true := by
  rw [mB, if_neg (by simp [h])]
  cases s with
  | nil => simp [oneB]
  | cons c t =>
    simp only [oneB, Bool.and_eq_true]
    constructor
    · rintro ⟨h1, h2⟩; exact ⟨c, t, rfl, h1, h2⟩
    · rintro ⟨c', t', ht, h1, h2⟩; cases ht; exact ⟨h1, h2⟩

theorem mB_append (x y : List El) : ∀ s, mB (x ++ y) s = true ↔ ∃ i, i ≤ s.length ∧ mB x (s.take i) = true ∧ mB y (s.drop i) = true := by
  induction x with
  | nil =>
    intro s
    constructor
    · intro h; exact ⟨0, by omega, by simp [mB], by simpa using h⟩
    · rintro ⟨i, hi, h, k⟩
      simp only [mB, List.isEmpty_iff, List.take_eq_nil_iff] at h
      rcases h with rfl | rfl
      · simpa using k
      · simpa using k
  | cons e r ih =>
    intro s
    rw [List.cons_append]
    cases hs : e.star with
    | true =>
      rw [mB_star e _ s hs]
      constructor
      · rintro ⟨i, hi, ha, hm⟩
        obtain ⟨k, hk, h1, h2⟩ := (ih _).1 hm
        simp only [List.length_drop] at hk
        refine ⟨i + k, by omega, (mB_star e r _ hs).2 ⟨i, by simp; omega, ?_, ?_⟩, by rw [List.drop_drop] at h2; exact h2⟩
        · rw [List.take_take, Nat.min_eq_left (by omega)]; exact ha
        · rw [List.drop_take]; simpa using h1
      · rintro ⟨j, hj, h1, h2⟩
        obtain ⟨i, hi, ha, hm⟩ := (mB_star e r _ hs).1 h1
        simp only [List.length_take] at hi
        refine ⟨i, by omega, ?_, (ih _).2 ⟨j - i, by simp; omega, ?_, ?_⟩⟩
        · rw [List.take_take, Nat.min_eq_left (by omega)] at ha; exact ha
        · rw [List.drop_take] at hm; exact hm
        · rw [List.drop_drop, show i + (j - i) = j from by omega]; exact h2
    | false =>
      rw [mB_one e _ s hs]
      constructor
      · rintro ⟨c, t, rfl, hc, hm⟩
        obtain ⟨k, hk, h1, h2⟩ := (ih _).1 hm
        exact ⟨k + 1, by simp; omega, (mB_one e r _ hs).2 ⟨c, t.take k, by simp, hc, h1⟩, by simpa using h2⟩
      · rintro ⟨j, hj, h1, h2⟩
        obtain ⟨c, t, ht, hc, hm⟩ := (mB_one e r _ hs).1 h1
        cases s with
        | nil => simp at ht
        | cons c' t' =>
          cases j with
          | zero => simp at ht
          | succ j =>
            simp only [List.take_succ_cons, List.cons.injEq] at ht
            obtain ⟨rfl, rfl⟩ := ht
            exact ⟨c', t', rfl, hc, (ih _).2 ⟨j, by simp at hj; omega, hm, by simpa using h2⟩⟩

/-- The sets have bytes of texts only; a star's set has all of them. -/
def El.ok (e : El) : Prop := (∀ b, e.set b = true → isText b = true) ∧ (e.star = true → ∀ b, isText b = true → e.set b = true)

theorem mB_text {a : List El} (h : ∀ e ∈ a, e.ok) : ∀ s, mB a s = true → s.all isText = true := by
  induction a with
  | nil => intro s hs; simp [mB] at hs; simp [hs]
  | cons e r ih =>
    intro s hs
    have ih' := ih fun f hf => h f (List.mem_cons_of_mem _ hf)
    have he := h e (List.mem_cons_self)
    cases hst : e.star with
    | true =>
      obtain ⟨i, hi, ha, hm⟩ := (mB_star e r s hst).1 hs
      rw [← List.take_append_drop i s, List.all_append, ih' _ hm, Bool.and_true]
      exact List.all_eq_true.2 fun x hx => he.1 x (List.all_eq_true.1 ha x hx)
    | false =>
      obtain ⟨c, t, rfl, hc, hm⟩ := (mB_one e r s hst).1 hs
      rw [List.all_cons, ih' _ hm, he.1 c hc]; rfl

/-- Elements that are no stars take one byte each. -/
theorem mB_drop {x : List El} (hx : ∀ e ∈ x, e.star = false) (y : List El) : ∀ s, mB (x ++ y) s = true → x.length ≤ s.length ∧ mB y (s.drop x.length) = true := by
  induction x with
  | nil => intro s h; exact ⟨by simp, by simpa using h⟩
  | cons e r ih =>
    intro s h
    obtain ⟨c, t, rfl, _, hm⟩ := (mB_one e (r ++ y) s (hx e List.mem_cons_self)).1 h
    obtain ⟨h1, h2⟩ := ih (fun f hf => hx f (List.mem_cons_of_mem _ hf)) t hm
    exact ⟨by simp; omega, by simpa using h2⟩

/-- What stands behind the last star: another place of the bytes that the star takes does nothing that a later star can't do. -/
theorem mB_later {e : El} {x y : List El} (hst : e.star = true) (hx : ∀ f ∈ x, f.star = false) {f : El} (hf : f.star = true) (hok : ∀ g ∈ e :: (x ++ f :: y), g.ok) (s : List UInt8) (c : UInt8)
    (hc : e.set c = true) (h : mB (e :: (x ++ f :: y)) s = true) : mB (f :: y) ((c :: s).drop x.length) = true := by
  have htext := mB_text hok s h
  have hct : isText c = true := (hok e List.mem_cons_self).1 c hc
  obtain ⟨i, hi, ha, hm⟩ := (mB_star e _ s hst).1 h
  obtain ⟨h1, h2⟩ := mB_drop hx (f :: y) _ hm
  rw [List.drop_drop] at h2
  obtain ⟨k, hk, hb, hr⟩ := (mB_star f y _ hf).1 h2
  have hall : (c :: s).all isText = true := by rw [List.all_cons, hct, htext]; rfl
  simp only [List.length_drop] at h1 hk
  refine (mB_star f y _ hf).2 ⟨i + 1 + k, by simp; omega, ?_, ?_⟩
  · refine List.all_eq_true.2 fun z hz => (hok f (by simp)).2 hf z (List.all_eq_true.1 hall z ?_)
    exact List.mem_of_mem_drop (List.mem_of_mem_take hz)
  · rw [List.drop_drop] at hr ⊢
    rw [show x.length + (i + 1 + k) = (i + x.length + k) + 1 from by omega, List.drop_succ_cons]
    exact hr

theorem mB_none_left {e : El} {x y : List El} (hst : e.star = true) (hx : ∀ f ∈ x, f.star = false) (s : List UInt8) (hs : s.length < x.length) : mB (e :: (x ++ y)) s = false := by
  rw [Bool.eq_false_iff]
  intro h
  obtain ⟨i, hi, _, hm⟩ := (mB_star e _ s hst).1 h
  have := (mB_drop hx y _ hm).1
  simp at this
  omega
end Go.Proofs.YtkkibibecgcbmaaGreatDoor.Gl

namespace Go.Proofs.YtkkibibecgcbmaaGreatDoor.Gl

def never : Nat := 1073741824

/-- The least byte of a set. -/
def leastS (S : UInt8 → Bool) : Option UInt8 := ((List.range 256).map UInt8.ofNat).find? S

theorem leastS_some {S : UInt8 → Bool} {c : UInt8} (h : leastS S = some c) : S c = true ∧ ∀ d, S d = true → c.toNat ≤ d.toNat := by
  unfold leastS at h
  refine ⟨List.find?_some h, fun d hd => ?_⟩
  obtain ⟨_, as, bs, heq, hno⟩ := List.find?_eq_some_iff_append.1 h
  have hlen : ((List.range 256).map UInt8.ofNat).length = 256 := by simp
  have hget : ∀ i, i < 256 → ((List.range 256).map UInt8.ofNat)[i]? = some (UInt8.ofNat i) := fun i hi => by simp [hi]
  have hc : ((List.range 256).map UInt8.ofNat)[as.length]? = some c := by rw [heq]; simp
  have hal : as.length < 256 := by rw [← hlen, heq]; simp
  rw [hget _ hal] at hc
  have hcn : c.toNat = as.length := by rw [← Option.some.inj hc]; simp; omega
  rw [hcn]
  refine Nat.le_of_not_lt fun hlt => ?_
  have hdl : d.toNat < 256 := UInt8.toNat_lt d
  have h1 := hget d.toNat hdl
  rw [heq, List.getElem?_append_left hlt] at h1
  have hm : UInt8.ofNat d.toNat ∈ as := List.mem_of_getElem? h1
  have := hno _ hm
  simp [hd] at this

theorem leastS_of {S : UInt8 → Bool} {d : UInt8} (h : S d = true) : ∃ c, leastS S = some c ∧ S c = true ∧ c.toNat ≤ d.toNat := by
  cases hl : leastS S with
  | none =>
    unfold leastS at hl
    have := List.find?_eq_none.1 hl d (by
      refine List.mem_map.2 ⟨d.toNat, List.mem_range.2 (UInt8.toNat_lt d), by simp⟩)
    exact absurd h this
  | some c => exact ⟨c, rfl, (leastS_some hl).1, (leastS_some hl).2 d h⟩

section
variable (a b : List El)

def starAt (l : List El) (i : Nat) : Bool := (l[i]?.map El.star).getD false

def stepP (i k : Nat) : Option (UInt8 × Nat × Nat) := match a[i]?, b[k]? with
  | some e, some f => if e.star && f.star then none else (leastS fun c => e.set c && f.set c).map fun c => (c, (if e.star then i else i + 1), (if f.star then k else k + 1))
  | _, _ => none

def lenF : Nat → Nat → Nat → Nat
  | 0, _, _ => never
  | n + 1, i, k =>
    min (if i = a.length ∧ k = b.length then 0 else never) (min (if starAt a i then lenF n (i + 1) k else never) (min (if starAt b k then lenF n i (k + 1) else never)
      (match stepP a b i k with | some (_, i', k') => 1 + lenF n i' k' | none => never)))

def lenP (i k : Nat) : Nat := lenF a b (a.length - i + (b.length - k) + 1) i k

theorem starAt_lt {l : List El} {i : Nat} (h : starAt l i = true) : i < l.length := by
  unfold starAt at h
  rcases Nat.lt_or_ge i l.length with h1 | h1
  · exact h1
  · rw [List.getElem?_eq_none h1] at h; simp at h

theorem stepP_spec {i k : Nat} {c : UInt8} {i' k' : Nat} (h : stepP a b i k = some (c, i', k')) : i < a.length ∧ k < b.length ∧ i ≤ i' ∧ k ≤ k' ∧ i' ≤ a.length ∧ k' ≤ b.length ∧ i + k < i' + k' := by
  unfold stepP at h
  split at h
  · rename_i e f he hf
    have h1 : i < a.length := (List.getElem?_eq_some_iff.1 he).1
    have h2 : k < b.length := (List.getElem?_eq_some_iff.1 hf).1
    split at h
    · simp at h
    · rename_i hns
      simp only [Option.map_eq_some_iff, Prod.mk.injEq] at h
      obtain ⟨_, _, _, rfl, rfl⟩ := h
      refine ⟨h1, h2, ?_, ?_, ?_, ?_, ?_⟩
      · split <;> omega
      · split <;> omega
      · split <;> omega
      · split <;> omega
      · cases hes : e.star <;> cases hfs : f.star <;> simp_all <;> omega
  · simp at h

theorem lenF_fuel : ∀ (n m i k : Nat), a.length - i + (b.length - k) < n → a.length - i + (b.length - k) < m → lenF a b n i k = lenF a b m i k
  | 0, _, _, _, h, _ => by omega
  | _ + 1, 0, _, _, _, h => by omega
  | n + 1, m + 1, i, k, h1, h2 => by
    unfold lenF
    have e1 : (if starAt a i then lenF a b n (i + 1) k else never) = (if starAt a i then lenF a b m (i + 1) k else never) := by
      cases hs : starAt a i with
      | false => rfl
      | true =>
        have := starAt_lt hs
        simp only [if_true]
        exact lenF_fuel n m _ _ (by omega) (by omega)
    have e2 : (if starAt b k then lenF a b n i (k + 1) else never) = (if starAt b k then lenF a b m i (k + 1) else never) := by
      cases hs : starAt b k with
      | false => rfl
      | true =>
        have := starAt_lt hs
        simp only [if_true]
        exact lenF_fuel n m _ _ (by omega) (by omega)
    have e3 : (match stepP a b i k with | some (_, i', k') => 1 + lenF a b n i' k' | none => never) = (match stepP a b i k with | some (_, i', k') => 1 + lenF a b m i' k' | none => never) := by
      cases hs : stepP a b i k with
      | none => rfl
      | some t =>
        obtain ⟨c, i', k'⟩ := t
        have := stepP_spec a b hs
        simp only
        rw [lenF_fuel n m _ _ (by omega) (by omega)]
    rw [e1, e2, e3]

/-- The equation of the lengths. -/
theorem lenP_eq (i k : Nat) : lenP a b i k =
    min (if i = a.length ∧ k = b.length then 0 else never) (min (if starAt a i then lenP a b (i + 1) k else never) (min (if starAt b k then lenP a b i (k + 1) else never)
      (match stepP a b i k with | some (_, i', k') => 1 + lenP a b i' k' | none => never))) := by
  conv => lhs; rw [lenP, lenF]
  have e1 : (if starAt a i then lenF a b (a.length - i + (b.length - k)) (i + 1) k else never) = (if starAt a i then lenP a b (i + 1) k else never) := by
    cases hs : starAt a i with
    | false => rfl
    | true =>
      have := starAt_lt hs
      simp only [if_true]
      exact lenF_fuel a b _ _ _ _ (by omega) (by omega)
  have e2 : (if starAt b k then lenF a b (a.length - i + (b.length - k)) i (k + 1) else never) = (if starAt b k then lenP a b i (k + 1) else never) := by
    cases hs : starAt b k with
    | false => rfl
    | true =>
      have := starAt_lt hs
      simp only [if_true]
      exact lenF_fuel a b _ _ _ _ (by omega) (by omega)
  have e3 : (match stepP a b i k with | some (_, i', k') => 1 + lenF a b (a.length - i + (b.length - k)) i' k' | none => never) = (match stepP a b i k with | some (_, i', k') => 1 + lenP a b i' k' | none => never) := by
    cases hs : stepP a b i k with
    | none => rfl
    | some t =>
      obtain ⟨c, i', k'⟩ := t
      have := stepP_spec a b hs
      simp only
      rw [lenP, lenF_fuel a b (a.length - i + (b.length - k)) (a.length - i' + (b.length - k') + 1) i' k' (by omega) (by omega)]
  rw [e1, e2, e3]

/-- A text that both alternatives match from a pair of places on. -/
def Com (i k : Nat) (s : List UInt8) : Prop := mB (a.drop i) s = true ∧ mB (b.drop k) s = true

theorem starAt_iff {l : List El} {i : Nat} : starAt l i = true ↔ ∃ e, l[i]? = some e ∧ e.star = true := by
  unfold starAt
  cases h : l[i]? with
  | none => simp
  | some e => simp

theorem drop_at {l : List El} {i : Nat} {e : El} (h : l[i]? = some e) : l.drop i = e :: l.drop (i + 1) := by
  obtain ⟨hi, he⟩ := List.getElem?_eq_some_iff.1 h
  rw [List.drop_eq_getElem_cons hi, he]

theorem mB_star_cases {e : El} {r : List El} {s : List UInt8} (h : e.star = true) : mB (e :: r) s = true ↔ mB r s = true ∨ ∃ c t, s = c :: t ∧ e.set c = true ∧ mB (e :: r) t = true := by
  rw [mB, if_pos h]
  cases s with
  | nil => simp [starB]
  | cons c t =>
    simp only [starB, Bool.or_eq_true, Bool.and_eq_true]
    constructor
    · rintro (h1 | ⟨h1, h2⟩)
      · exact Or.inl h1
      · exact Or.inr ⟨c, t, rfl, h1, h2⟩
    · rintro (h1 | ⟨c', t', ht, h1, h2⟩)
      · exact Or.inl h1
      · cases ht; exact Or.inr ⟨h1, h2⟩

theorem Com.skipOurs {i k : Nat} {s : List UInt8} (h : starAt a i = true) (hc : Com a b (i + 1) k s) : Com a b i k s := by
  obtain ⟨e, he, hs⟩ := starAt_iff.1 h
  exact ⟨by rw [drop_at he]; exact (mB_star_cases hs).2 (Or.inl hc.1), hc.2⟩
theorem Com.skipTheirs {i k : Nat} {s : List UInt8} (h : starAt b k = true) (hc : Com a b i (k + 1) s) : Com a b i k s := by
  obtain ⟨e, he, hs⟩ := starAt_iff.1 h
  exact ⟨hc.1, by rw [drop_at he]; exact (mB_star_cases hs).2 (Or.inl hc.2)⟩
theorem mB_take {l : List El} {i : Nat} {e : El} (h : l[i]? = some e) {c : UInt8} (hc : e.set c = true) {s : List UInt8} (hm : mB (l.drop (if e.star then i else i + 1)) s = true) : mB (l.drop i) (c :: s) = true := by
  cases hs : e.star with
  | true =>
    rw [hs, if_pos rfl] at hm
    rw [drop_at h] at hm ⊢
    exact (mB_star_cases hs).2 (Or.inr ⟨c, s, rfl, hc, hm⟩)
  | false =>
    rw [hs, if_neg (by simp)] at hm
    rw [drop_at h]
    exact (mB_one _ _ _ hs).2 ⟨c, s, rfl, hc, hm⟩
theorem Com.step {i k i' k' : Nat} {c : UInt8} {s : List UInt8} (h : stepP a b i k = some (c, i', k')) (hc : Com a b i' k' s) : Com a b i k (c :: s) := by
  unfold stepP at h
  split at h
  · rename_i e f he hf
    split at h
    · simp at h
    · simp only [Option.map_eq_some_iff, Prod.mk.injEq] at h
      obtain ⟨d, hd, rfl, rfl, rfl⟩ := h
      have := (leastS_some hd).1
      rw [Bool.and_eq_true] at this
      exact ⟨mB_take he this.1 hc.1, mB_take hf this.2 hc.2⟩
  · simp at h

/-- How a common text begins: by leaving a star, or with a byte that both take. -/
theorem Com.cases {i k : Nat} {s : List UInt8} (h : Com a b i k s) :
    (i = a.length ∧ k = b.length ∧ s = []) ∨ a.length < i ∨ b.length < k ∨ (starAt a i = true ∧ Com a b (i + 1) k s) ∨ (starAt b k = true ∧ Com a b i (k + 1) s) ∨
    (∃ c t, s = c :: t ∧ Com a b i k t) ∨ (∃ c d t i' k', s = c :: t ∧ stepP a b i k = some (d, i', k') ∧ d.toNat ≤ c.toNat ∧ Com a b i' k' t) := by
  obtain ⟨h1, h2⟩ := h
  by_cases hia : a.length < i
  · exact Or.inr (Or.inl hia)
  by_cases hkb : b.length < k
  · exact Or.inr (Or.inr (Or.inl hkb))
  cases ha : a[i]? with
  | none =>
    have hi : i = a.length := by have := List.getElem?_eq_none_iff.1 ha; omega
    have hs : s = [] := by rw [hi, List.drop_length] at h1; simpa [mB] using h1
    subst hs
    cases hb : b[k]? with
    | none =>
      have hk : k = b.length := by have := List.getElem?_eq_none_iff.1 hb; omega
      exact Or.inl ⟨hi, hk, rfl⟩
    | some f =>
      rw [drop_at hb] at h2
      cases hf : f.star with
      | true =>
        rcases (mB_star_cases hf).1 h2 with h3 | ⟨_, _, h3, _⟩
        · exact Or.inr (Or.inr (Or.inr (Or.inr (Or.inl ⟨starAt_iff.2 ⟨f, hb, hf⟩, h1, h3⟩))))
        · simp at h3
      | false =>
        obtain ⟨_, _, h3, _⟩ := (mB_one _ _ _ hf).1 h2
        simp at h3
  | some e =>
    have h1' := h1
    rw [drop_at ha] at h1
    have heat : ∀ t, e.star = true → mB (a.drop (i + 1)) t = true → mB (b.drop k) t = true → (starAt a i = true ∧ Com a b (i + 1) k t) := fun t hes hm h2 => ⟨starAt_iff.2 ⟨e, ha, hes⟩, hm, h2⟩
    have hcons : (e.star = true ∧ mB (a.drop (i + 1)) s = true) ∨ ∃ c t, s = c :: t ∧ e.set c = true ∧ mB (a.drop (if e.star then i else i + 1)) t = true := by
      cases hes : e.star with
      | true =>
        rcases (mB_star_cases hes).1 h1 with h3 | ⟨c, t, h3, h4, h5⟩
        · exact Or.inl ⟨rfl, h3⟩
        · exact Or.inr ⟨c, t, h3, h4, by simp only [if_true]; rw [drop_at ha]; exact h5⟩
      | false =>
        obtain ⟨c, t, h3, h4, h5⟩ := (mB_one _ _ _ hes).1 h1
        exact Or.inr ⟨c, t, h3, h4, by simpa using h5⟩
    rcases hcons with ⟨hes, hm⟩ | ⟨c, t, rfl, hc, hm⟩
    · exact Or.inr (Or.inr (Or.inr (Or.inl (heat s hes hm h2))))
    · cases hb : b[k]? with
      | none =>
        have hk : k = b.length := by have := List.getElem?_eq_none_iff.1 hb; omega
        rw [hk, List.drop_length] at h2
        simp [mB] at h2
      | some f =>
        have hcons2 : (f.star = true ∧ mB (b.drop (k + 1)) (c :: t) = true) ∨ (f.set c = true ∧ mB (b.drop (if f.star then k else k + 1)) t = true) := by
          have h2' := h2
          rw [drop_at hb] at h2
          cases hfs : f.star with
          | true =>
            rcases (mB_star_cases hfs).1 h2 with h3 | ⟨c', t', h3, h4, h5⟩
            · exact Or.inl ⟨rfl, h3⟩
            · cases h3
              exact Or.inr ⟨h4, by simp only [if_true]; rw [drop_at hb]; exact h5⟩
          | false =>
            obtain ⟨c', t', h3, h4, h5⟩ := (mB_one _ _ _ hfs).1 h2
            cases h3
            exact Or.inr ⟨h4, by simpa using h5⟩
        rcases hcons2 with ⟨hfs, hm2⟩ | ⟨hfc, hm2⟩
        · exact Or.inr (Or.inr (Or.inr (Or.inr (Or.inl ⟨starAt_iff.2 ⟨f, hb, hfs⟩, h1', hm2⟩))))
        · by_cases hboth : (e.star && f.star) = true
          · rw [Bool.and_eq_true] at hboth
            rw [hboth.1, if_pos rfl] at hm
            rw [hboth.2, if_pos rfl] at hm2
            exact Or.inr (Or.inr (Or.inr (Or.inr (Or.inr (Or.inl ⟨c, t, rfl, hm, hm2⟩)))))
          · obtain ⟨d, hd, _, hdc⟩ := leastS_of (S := fun c => e.set c && f.set c) (d := c) (by simp [hc, hfc])
            refine Or.inr (Or.inr (Or.inr (Or.inr (Or.inr (Or.inr ⟨c, d, t, (if e.star then i else i + 1), (if f.star then k else k + 1), rfl, ?_, hdc, hm, hm2⟩)))))
            unfold stepP
            rw [ha, hb]
            simp only
            rw [if_neg hboth, hd]
            rfl

theorem lenP_le_never (i k : Nat) : lenP a b i k ≤ never := by
  rw [lenP_eq]
  split
  · exact Nat.le_trans (Nat.min_le_left _ _) (by simp [never])
  · exact Nat.min_le_left _ _

theorem lenP_final (i k : Nat) (h : i = a.length ∧ k = b.length) : lenP a b i k = 0 := by rw [lenP_eq, if_pos h]; omega
theorem lenP_ours {i k : Nat} (h : starAt a i = true) : lenP a b i k ≤ lenP a b (i + 1) k := by
  conv => lhs; rw [lenP_eq]
  rw [if_pos h]
  omega
theorem lenP_theirs {i k : Nat} (h : starAt b k = true) : lenP a b i k ≤ lenP a b i (k + 1) := by
  conv => lhs; rw [lenP_eq]
  rw [if_pos h]
  omega
theorem lenP_step {i k i' k' : Nat} {c : UInt8} (h : stepP a b i k = some (c, i', k')) : lenP a b i k ≤ 1 + lenP a b i' k' := by
  conv => lhs; rw [lenP_eq, h]
  simp only
  omega

/-- No common text is shorter than the length. -/
theorem lenP_least : ∀ (n i k : Nat) (s : List UInt8), i ≤ a.length → k ≤ b.length → s.length + (a.length - i) + (b.length - k) ≤ n → Com a b i k s → lenP a b i k ≤ s.length
  | n, i, k, s, hi, hk, hn, h => by
    rcases h.cases with ⟨h1, h2, rfl⟩ | h1 | h1 | ⟨h1, h2⟩ | ⟨h1, h2⟩ | ⟨c, t, rfl, h2⟩ | ⟨c, d, t, i', k', rfl, h1, _, h2⟩
    · rw [lenP_final a b i k ⟨h1, h2⟩]; omega
    · omega
    · omega
    · have := starAt_lt h1
      cases n with
      | zero => omega
      | succ n => exact Nat.le_trans (lenP_ours a b h1) (lenP_least n _ _ s (by omega) hk (by omega) h2)
    · have := starAt_lt h1
      cases n with
      | zero => omega
      | succ n => exact Nat.le_trans (lenP_theirs a b h1) (lenP_least n _ _ s hi (by omega) (by omega) h2)
    · simp only [List.length_cons] at hn ⊢
      cases n with
      | zero => omega
      | succ n => exact Nat.le_trans (lenP_least n i k t hi hk (by omega) h2) (by omega)
    · have hs := stepP_spec a b h1
      simp only [List.length_cons] at hn ⊢
      cases n with
      | zero => omega
      | succ n => exact Nat.le_trans (lenP_step a b h1) (by have := lenP_least n i' k' t (by omega) (by omega) (by omega) h2; omega)

theorem lenP_min {i k : Nat} {s : List UInt8} (hi : i ≤ a.length) (hk : k ≤ b.length) (h : Com a b i k s) : lenP a b i k ≤ s.length := lenP_least a b _ i k s hi hk (Nat.le_refl _) h

/-- There is a common text of that length. -/
theorem lenP_text : ∀ (n i k : Nat), a.length - i + (b.length - k) ≤ n → lenP a b i k < never → ∃ s, Com a b i k s ∧ s.length = lenP a b i k
  | n, i, k, hn, h => by
    have heq := lenP_eq a b i k
    by_cases h0 : i = a.length ∧ k = b.length
    · refine ⟨[], ?_, by rw [lenP_final a b i k h0]; rfl⟩
      obtain ⟨rfl, rfl⟩ := h0
      exact ⟨by rw [List.drop_length]; rfl, by rw [List.drop_length]; rfl⟩
    rw [if_neg h0] at heq
    by_cases h1 : starAt a i = true ∧ lenP a b i k = lenP a b (i + 1) k
    · have := starAt_lt h1.1
      cases n with
      | zero => omega
      | succ n =>
        obtain ⟨s, hs, hl⟩ := lenP_text n (i + 1) k (by omega) (by rw [← h1.2]; exact h)
        exact ⟨s, Com.skipOurs a b h1.1 hs, by rw [hl, h1.2]⟩
    by_cases h2 : starAt b k = true ∧ lenP a b i k = lenP a b i (k + 1)
    · have := starAt_lt h2.1
      cases n with
      | zero => omega
      | succ n =>
        obtain ⟨s, hs, hl⟩ := lenP_text n i (k + 1) (by omega) (by rw [← h2.2]; exact h)
        exact ⟨s, Com.skipTheirs a b h2.1 hs, by rw [hl, h2.2]⟩
    cases h3 : stepP a b i k with
    | none =>
      rw [h3] at heq
      simp only at heq
      exfalso
      cases hs : starAt a i <;> cases ht : starAt b k <;> simp [hs, ht] at heq h1 h2 <;> omega
    | some t =>
      obtain ⟨c, i', k'⟩ := t
      rw [h3] at heq
      simp only at heq
      have hs' := stepP_spec a b h3
      have hl : lenP a b i k = 1 + lenP a b i' k' := by
        cases hs : starAt a i <;> cases ht : starAt b k <;> simp [hs, ht] at heq h1 h2 <;> omega
      cases n with
      | zero => omega
      | succ n =>
        obtain ⟨s, hs, hsl⟩ := lenP_text n i' k' (by omega) (by omega)
        exact ⟨c :: s, Com.step a b h3 hs, by simp; omega⟩

/-- A shortest text with a byte: some pair that is reached without a byte takes it. -/
theorem Com.takes : ∀ (n i k : Nat) (c : UInt8) (t : List UInt8) (F : Nat × Nat → Prop), i ≤ a.length → k ≤ b.length → a.length - i + (b.length - k) ≤ n → lenP a b i k = t.length + 1 →
    (∀ z, F z → starAt a z.1 = true → lenP a b (z.1 + 1) z.2 = t.length + 1 → F (z.1 + 1, z.2)) → (∀ z, F z → starAt b z.2 = true → lenP a b z.1 (z.2 + 1) = t.length + 1 → F (z.1, z.2 + 1)) →
    F (i, k) → Com a b i k (c :: t) → ∃ z d i' k', F z ∧ stepP a b z.1 z.2 = some (d, i', k') ∧ d.toNat ≤ c.toNat ∧ lenP a b i' k' = t.length ∧ Com a b i' k' t
  | n, i, k, c, t, F, hi, hk, hn, hl, h1, h2, hF, h => by
    rcases h.cases with ⟨_, _, h3⟩ | h3 | h3 | ⟨h3, h4⟩ | ⟨h3, h4⟩ | ⟨c', t', h3, h4⟩ | ⟨c', d, t', i', k', h3, h4, h5, h6⟩
    · simp at h3
    · omega
    · omega
    · have := starAt_lt h3
      have hle := lenP_min a b (by omega) hk h4
      have hge := lenP_ours a b (k := k) h3
      simp only [List.length_cons] at hle
      have he : lenP a b (i + 1) k = t.length + 1 := by omega
      cases n with
      | zero => omega
      | succ n => exact Com.takes n (i + 1) k c t F (by omega) hk (by omega) he h1 h2 (h1 (i, k) hF h3 he) h4
    · have := starAt_lt h3
      have hle := lenP_min a b hi (by omega) h4
      have hge := lenP_theirs a b (i := i) h3
      simp only [List.length_cons] at hle
      have he : lenP a b i (k + 1) = t.length + 1 := by omega
      cases n with
      | zero => omega
      | succ n => exact Com.takes n i (k + 1) c t F hi (by omega) (by omega) he h1 h2 (h2 (i, k) hF h3 he) h4
    · cases h3
      have := lenP_min a b hi hk h4
      omega
    · cases h3
      have hs := stepP_spec a b h4
      have hle := lenP_min a b (by omega) (by omega) h6
      have hge := lenP_step a b h4
      exact ⟨(i, k), d, i', k', hF, h4, h5, by omega, h6⟩
end
end Go.Proofs.YtkkibibecgcbmaaGreatDoor.Gl

namespace Go.Proofs.YtkkibibecgcbmaaGreatDoor.Gl

abbrev Pr := Nat × Nat

section
variable (a b : List El)

/-- The pairs that are reached from (i, k) without a byte, and from which the length is left; not those seen. -/
def gatherF (left : Nat) : Nat → List Pr → Nat → Nat → List Pr
  | 0, _, _, _ => []
  | n + 1, seen, i, k =>
    if (i, k) ∈ seen ∨ lenP a b i k ≠ left then [] else
      (i, k) :: ((if starAt a i then gatherF left n (seen ++ [(i, k)]) (i + 1) k else []) ++
        (if starAt b k then gatherF left n (seen ++ [(i, k)] ++ (if starAt a i then gatherF left n (seen ++ [(i, k)]) (i + 1) k else [])) i (k + 1) else []))

def gatherB (left : Nat) (seen : List Pr) (i k : Nat) : List Pr := gatherF a b left (a.length - i + (b.length - k) + 1) seen i k

theorem gatherF_fuel (left : Nat) : ∀ (n m : Nat) (seen : List Pr) (i k : Nat), a.length - i + (b.length - k) < n → a.length - i + (b.length - k) < m → gatherF a b left n seen i k = gatherF a b left m seen i k
  | 0, _, _, _, _, h, _ => by omega
  | _ + 1, 0, _, _, _, _, h => by omega
  | n + 1, m + 1, seen, i, k, h1, h2 => by
    unfold gatherF
    have e1 : ∀ S, (if starAt a i then gatherF a b left n S (i + 1) k else []) = (if starAt a i then gatherF a b left m S (i + 1) k else []) := by
      intro S
      cases hs : starAt a i with
      | false => rfl
      | true =>
        have := starAt_lt hs
        simp only [if_true]
        exact gatherF_fuel left n m _ _ _ (by omega) (by omega)
    have e2 : ∀ S, (if starAt b k then gatherF a b left n S i (k + 1) else []) = (if starAt b k then gatherF a b left m S i (k + 1) else []) := by
      intro S
      cases hs : starAt b k with
      | false => rfl
      | true =>
        have := starAt_lt hs
        simp only [if_true]
        exact gatherF_fuel left n m _ _ _ (by omega) (by omega)
    rw [e1, e2]

theorem gatherB_eq (left : Nat) (seen : List Pr) (i k : Nat) : gatherB a b left seen i k =
    if (i, k) ∈ seen ∨ lenP a b i k ≠ left then [] else
      (i, k) :: ((if starAt a i then gatherB a b left (seen ++ [(i, k)]) (i + 1) k else []) ++
        (if starAt b k then gatherB a b left (seen ++ [(i, k)] ++ (if starAt a i then gatherB a b left (seen ++ [(i, k)]) (i + 1) k else [])) i (k + 1) else [])) := by
  conv => lhs; rw [gatherB, gatherF]
  have e1 : ∀ S, (if starAt a i then gatherF a b left (a.length - i + (b.length - k)) S (i + 1) k else []) = (if starAt a i then gatherB a b left S (i + 1) k else []) := by
    intro S
    cases hs : starAt a i with
    | false => rfl
    | true =>
      have := starAt_lt hs
      simp only [if_true]
      exact gatherF_fuel a b left _ _ _ _ _ (by omega) (by omega)
  have e2 : ∀ S, (if starAt b k then gatherF a b left (a.length - i + (b.length - k)) S i (k + 1) else []) = (if starAt b k then gatherB a b left S i (k + 1) else []) := by
    intro S
    cases hs : starAt b k with
    | false => rfl
    | true =>
      have := starAt_lt hs
      simp only [if_true]
      exact gatherF_fuel a b left _ _ _ _ _ (by omega) (by omega)
  rw [e1, e2]

/-- z is closed in S: what follows from it without a byte, at the same length, lies in S. -/
def closedAt (left : Nat) (S : List Pr) (z : Pr) : Prop :=
  (starAt a z.1 = true → lenP a b (z.1 + 1) z.2 = left → (z.1 + 1, z.2) ∈ S) ∧ (starAt b z.2 = true → lenP a b z.1 (z.2 + 1) = left → (z.1, z.2 + 1) ∈ S)

theorem closedAt.mono {left : Nat} {S T : List Pr} {z : Pr} (h : closedAt a b left S z) (hs : ∀ y ∈ S, y ∈ T) : closedAt a b left T z := ⟨fun h1 h2 => hs _ (h.1 h1 h2), fun h1 h2 => hs _ (h.2 h1 h2)⟩

/-- What gather finds: pairs of the length, each behind the first one; all closed; the first one too, if it has the length. -/
theorem gatherB_spec (left : Nat) : ∀ (n : Nat) (seen : List Pr) (i k : Nat), a.length - i + (b.length - k) ≤ n → i ≤ a.length → k ≤ b.length →
    (lenP a b i k = left → (i, k) ∈ seen ++ gatherB a b left seen i k) ∧
    (∀ z ∈ gatherB a b left seen i k, lenP a b z.1 z.2 = left ∧ z.1 ≤ a.length ∧ z.2 ≤ b.length ∧ (∀ s, Com a b z.1 z.2 s → Com a b i k s) ∧ closedAt a b left (seen ++ gatherB a b left seen i k) z)
  | n, seen, i, k, hn, hi, hk => by
    rw [gatherB_eq]
    by_cases h : (i, k) ∈ seen ∨ lenP a b i k ≠ left
    · rw [if_pos h]
      refine ⟨fun hl => ?_, fun z hz => absurd hz (by simp)⟩
      rcases h with h | h
      · simpa using h
      · exact absurd hl h
    · rw [if_neg h]
      have hl : lenP a b i k = left := Decidable.of_not_not fun h' => h (Or.inr h')
      generalize hn1 : (if starAt a i then gatherB a b left (seen ++ [(i, k)]) (i + 1) k else []) = n1
      generalize hn2 : (if starAt b k then gatherB a b left (seen ++ [(i, k)] ++ n1) i (k + 1) else []) = n2
      have p1 : starAt a i = true → ((lenP a b (i + 1) k = left → (i + 1, k) ∈ (seen ++ [(i, k)]) ++ n1) ∧
          (∀ z ∈ n1, lenP a b z.1 z.2 = left ∧ z.1 ≤ a.length ∧ z.2 ≤ b.length ∧ (∀ s, Com a b z.1 z.2 s → Com a b (i + 1) k s) ∧ closedAt a b left ((seen ++ [(i, k)]) ++ n1) z)) := by
        intro hs
        have hlt := starAt_lt hs
        rw [if_pos hs] at hn1
        subst hn1
        cases n with
        | zero => omega
        | succ n => exact gatherB_spec left n _ _ _ (by omega) (by omega) hk
      have p2 : starAt b k = true → ((lenP a b i (k + 1) = left → (i, k + 1) ∈ (seen ++ [(i, k)] ++ n1) ++ n2) ∧
          (∀ z ∈ n2, lenP a b z.1 z.2 = left ∧ z.1 ≤ a.length ∧ z.2 ≤ b.length ∧ (∀ s, Com a b z.1 z.2 s → Com a b i (k + 1) s) ∧ closedAt a b left ((seen ++ [(i, k)] ++ n1) ++ n2) z)) := by
        intro hs
        have hlt := starAt_lt hs
        rw [if_pos hs] at hn2
        subst hn2
        cases n with
        | zero => omega
        | succ n => exact gatherB_spec left n _ _ _ (by omega) hi (by omega)
      have q1 : ∀ z ∈ n1, starAt a i = true := by
        intro z hz
        cases hs : starAt a i with
        | true => rfl
        | false => rw [hs] at hn1; simp at hn1; rw [hn1] at hz; simp at hz
      have q2 : ∀ z ∈ n2, starAt b k = true := by
        intro z hz
        cases hs : starAt b k with
        | true => rfl
        | false => rw [hs] at hn2; simp at hn2; rw [hn2] at hz; simp at hz
      have hsub1 : ∀ y ∈ (seen ++ [(i, k)]) ++ n1, y ∈ seen ++ (i, k) :: (n1 ++ n2) := by
        intro y hy; simp only [List.mem_append, List.mem_cons, List.not_mem_nil, or_false] at hy ⊢; rcases hy with (h | h) | h <;> simp [h]
      have hsub2 : ∀ y ∈ (seen ++ [(i, k)] ++ n1) ++ n2, y ∈ seen ++ (i, k) :: (n1 ++ n2) := by
        intro y hy; simp only [List.mem_append, List.mem_cons, List.not_mem_nil, or_false] at hy ⊢; rcases hy with ((h | h) | h) | h <;> simp [h]
      refine ⟨fun _ => by simp, fun z hz => ?_⟩
      rw [List.mem_cons, List.mem_append] at hz
      rcases hz with rfl | hz | hz
      · refine ⟨hl, hi, hk, fun _ h => h, fun hs h' => ?_, fun hs h' => ?_⟩
        · exact hsub1 _ ((p1 hs).1 h')
        · exact hsub2 _ ((p2 hs).1 h')
      · have hs := q1 z hz
        obtain ⟨r1, r2, r3, r4, r5⟩ := (p1 hs).2 z hz
        exact ⟨r1, r2, r3, fun s h' => Com.skipOurs a b hs (r4 s h'), r5.mono a b hsub1⟩
      · have hs := q2 z hz
        obtain ⟨r1, r2, r3, r4, r5⟩ := (p2 hs).2 z hz
        exact ⟨r1, r2, r3, fun s h' => Com.skipTheirs a b hs (r4 s h'), r5.mono a b hsub2⟩

/-- The pairs of a list gathered, one after the other. -/
def gatherAll (left : Nat) (seen : List Pr) : List Pr → List Pr
  | [] => []
  | z :: r => gatherB a b left seen z.1 z.2 ++ gatherAll left (seen ++ gatherB a b left seen z.1 z.2) r

theorem gatherAll_snoc (left : Nat) : ∀ (seen : List Pr) (l : List Pr) (z : Pr), gatherAll a b left seen (l ++ [z]) = gatherAll a b left seen l ++ gatherB a b left (seen ++ gatherAll a b left seen l) z.1 z.2
  | seen, [], z => by simp [gatherAll]
  | seen, y :: r, z => by
    rw [List.cons_append, gatherAll, gatherAll_snoc left _ r z, gatherAll]
    simp [List.append_assoc]

theorem gatherAll_spec (left : Nat) : ∀ (seen : List Pr) (l : List Pr), (∀ z ∈ l, z.1 ≤ a.length ∧ z.2 ≤ b.length ∧ lenP a b z.1 z.2 = left) →
    (∀ z ∈ l, z ∈ seen ++ gatherAll a b left seen l) ∧
    (∀ z ∈ gatherAll a b left seen l, lenP a b z.1 z.2 = left ∧ z.1 ≤ a.length ∧ z.2 ≤ b.length ∧ (∀ s, Com a b z.1 z.2 s → ∃ y ∈ l, Com a b y.1 y.2 s) ∧ closedAt a b left (seen ++ gatherAll a b left seen l) z)
  | seen, [], _ => ⟨fun _ h => absurd h (by simp), fun _ h => absurd h (by simp [gatherAll])⟩
  | seen, y :: r, hall => by
    have hy := hall y List.mem_cons_self
    obtain ⟨g1, g2⟩ := gatherB_spec a b left _ seen y.1 y.2 (Nat.le_refl _) hy.1 hy.2.1
    obtain ⟨i1, i2⟩ := gatherAll_spec left (seen ++ gatherB a b left seen y.1 y.2) r fun z hz => hall z (List.mem_cons_of_mem _ hz)
    rw [gatherAll]
    have hsub : ∀ x ∈ seen ++ gatherB a b left seen y.1 y.2, x ∈ seen ++ (gatherB a b left seen y.1 y.2 ++ gatherAll a b left (seen ++ gatherB a b left seen y.1 y.2) r) := by
      intro x hx; rw [← List.append_assoc]; exact List.mem_append_left _ hx
    refine ⟨fun z hz => ?_, fun z hz => ?_⟩
    · rcases List.mem_cons.1 hz with rfl | hz
      · exact hsub _ (g1 hy.2.2)
      · rw [← List.append_assoc]; exact i1 z hz
    · rcases List.mem_append.1 hz with hz | hz
      · obtain ⟨r1, r2, r3, r4, r5⟩ := g2 z hz
        exact ⟨r1, r2, r3, fun s h => ⟨y, List.mem_cons_self, r4 s h⟩, r5.mono a b hsub⟩
      · obtain ⟨r1, r2, r3, r4, r5⟩ := i2 z hz
        refine ⟨r1, r2, r3, fun s h => ?_, ?_⟩
        · obtain ⟨x, hx, hc⟩ := r4 s h; exact ⟨x, List.mem_cons_of_mem _ hx, hc⟩
        · rw [← List.append_assoc]; exact r5

/-- One pair of the front, in the search of the least byte. -/
def advStep (left : Nat) (st : UInt8 × List Pr) (z : Pr) : UInt8 × List Pr := match stepP a b z.1 z.2 with
  | none => st
  | some (c, i, k) => if lenP a b i k ≠ left ∨ (st.2 ≠ [] ∧ st.1.toNat < c.toNat) then st else if c = st.1 then (c, st.2 ++ [(i, k)]) else (c, [(i, k)])

def advB (left : Nat) (front : List Pr) : UInt8 × List Pr := front.foldl (advStep a b left) (0, [])

/-- What the search of the least byte has found, behind the pairs l. -/
def AdvInv (left : Nat) (l : List Pr) (st : UInt8 × List Pr) : Prop :=
  (∀ y ∈ st.2, ∃ z ∈ l, stepP a b z.1 z.2 = some (st.1, y)) ∧ (∀ y ∈ st.2, lenP a b y.1 y.2 = left) ∧
  (∀ z ∈ l, ∀ c y, stepP a b z.1 z.2 = some (c, y) → lenP a b y.1 y.2 = left → st.2 ≠ [] ∧ st.1.toNat ≤ c.toNat ∧ (c = st.1 → y ∈ st.2)) ∧ (st.2 = [] → st.1 = 0)

theorem advStep_inv (hz0 : ∀ z : Pr, ∀ y, stepP a b z.1 z.2 ≠ some (0, y)) (left : Nat) (l : List Pr) (st : UInt8 × List Pr) (z : Pr) (h : AdvInv a b left l st) : AdvInv a b left (l ++ [z]) (advStep a b left st z) := by
  obtain ⟨h1, h2, h3, h4⟩ := h
  unfold advStep
  cases hs : stepP a b z.1 z.2 with
  | none =>
    refine ⟨fun y hy => ?_, h2, fun x hx c y hx2 hy => ?_, h4⟩
    · obtain ⟨x, hx, he⟩ := h1 y hy; exact ⟨x, List.mem_append_left _ hx, he⟩
    · rcases List.mem_append.1 hx with hx | hx
      · exact h3 x hx c y hx2 hy
      · rw [List.mem_singleton] at hx; subst hx; rw [hs] at hx2; simp at hx2
  | some t =>
    obtain ⟨c, i, k⟩ := t
    simp only
    split
    · rename_i hc
      refine ⟨fun y hy => ?_, h2, fun x hx d y hx2 hy => ?_, h4⟩
      · obtain ⟨x, hx, he⟩ := h1 y hy; exact ⟨x, List.mem_append_left _ hx, he⟩
      · rcases List.mem_append.1 hx with hx | hx
        · exact h3 x hx d y hx2 hy
        · rw [List.mem_singleton] at hx
          subst hx
          rw [hs] at hx2
          simp only [Option.some.injEq, Prod.mk.injEq] at hx2
          obtain ⟨rfl, rfl⟩ := hx2
          rcases hc with hc | ⟨hc1, hc2⟩
          · exact absurd hy hc
          · exact ⟨hc1, by omega, fun e => by rw [e] at hc2; omega⟩
    · rename_i hc
      rw [not_or] at hc
      have hl : lenP a b i k = left := Decidable.of_not_not hc.1
      split
      · rename_i hce
        have hne : st.2 ≠ [] := fun e => by
          have := h4 e
          rw [this] at hce
          rw [hce] at hs
          exact hz0 z _ hs
        refine ⟨fun y hy => ?_, fun y hy => ?_, fun x hx d y hx2 hy => ?_, fun e => absurd e (by simp)⟩
        · simp only [List.mem_append, List.mem_singleton] at hy
          rcases hy with hy | rfl
          · obtain ⟨x, hx, he⟩ := h1 y hy; exact ⟨x, List.mem_append_left _ hx, by simp only; rw [hce]; exact he⟩
          · exact ⟨z, by simp, hs⟩
        · simp only [List.mem_append, List.mem_singleton] at hy
          rcases hy with hy | rfl
          · exact h2 y hy
          · exact hl
        · rcases List.mem_append.1 hx with hx | hx
          · obtain ⟨q1, q2, q3⟩ := h3 x hx d y hx2 hy
            simp only
            rw [hce]
            exact ⟨by simp, q2, fun e => List.mem_append_left _ (q3 e)⟩
          · rw [List.mem_singleton] at hx
            subst hx
            rw [hs] at hx2
            simp only [Option.some.injEq, Prod.mk.injEq] at hx2
            obtain ⟨rfl, rfl⟩ := hx2
            exact ⟨by simp, Nat.le_refl _, fun _ => by simp⟩
      · rename_i hce
        refine ⟨fun y hy => ?_, fun y hy => ?_, fun x hx d y hx2 hy => ?_, fun e => absurd e (by simp)⟩
        · rw [List.mem_singleton] at hy; subst hy; exact ⟨z, by simp, hs⟩
        · rw [List.mem_singleton] at hy; subst hy; exact hl
        · rcases List.mem_append.1 hx with hx | hx
          · obtain ⟨q1, q2, q3⟩ := h3 x hx d y hx2 hy
            have hlt : c.toNat ≤ st.1.toNat := by
              rcases Nat.lt_or_ge st.1.toNat c.toNat with h' | h'
              · exact absurd ⟨q1, h'⟩ hc.2
              · exact h'
            have hlt2 : c.toNat ≠ st.1.toNat := fun e => hce (UInt8.toNat_inj.1 e)
            exact ⟨by simp, by simp only; omega, fun e => by simp only at e; rw [e] at q2; omega⟩
          · rw [List.mem_singleton] at hx
            subst hx
            rw [hs] at hx2
            simp only [Option.some.injEq, Prod.mk.injEq] at hx2
            obtain ⟨rfl, rfl⟩ := hx2
            exact ⟨by simp, Nat.le_refl _, fun _ => by simp⟩

theorem advB_inv (hz0 : ∀ z : Pr, ∀ y, stepP a b z.1 z.2 ≠ some (0, y)) (left : Nat) (front : List Pr) : AdvInv a b left front (advB a b left front) := by
  have key : ∀ (r l : List Pr) (st : UInt8 × List Pr), AdvInv a b left l st → AdvInv a b left (l ++ r) (r.foldl (advStep a b left) st) := by
    intro r
    induction r with
    | nil => intro l st h; simpa using h
    | cons z r ih =>
      intro l st h
      rw [List.foldl_cons, show l ++ z :: r = (l ++ [z]) ++ r from by simp]
      exact ih _ _ (advStep_inv a b hz0 left l st z h)
  have := key front [] (0, []) ⟨fun y hy => absurd hy (by simp), fun y hy => absurd hy (by simp), fun z hz => absurd hz (by simp), fun _ => rfl⟩
  simpa [advB] using this

/-- The text, byte by byte: front has all pairs that the text so far leads to. -/
def loopB : Nat → List Pr → List Pr → List UInt8
  | 0, _, _ => []
  | left + 1, front, seen => (advB a b left front).1 :: loopB left (gatherAll a b left seen (advB a b left front).2) (seen ++ gatherAll a b left seen (advB a b left front).2)

def leastB : Option (List UInt8) := if lenP a b 0 0 = never then none else some (loopB a b (lenP a b 0 0) (gatherB a b (lenP a b 0 0) [] 0 0) ([] ++ gatherB a b (lenP a b 0 0) [] 0 0))

/-- Byte by byte less, or the same. -/
def lexLe : List UInt8 → List UInt8 → Prop
  | [], _ => True
  | _ :: _, [] => False
  | c :: s, d :: t => c.toNat < d.toNat ∨ (c = d ∧ lexLe s t)

structure FrontInv (left : Nat) (front seen : List Pr) : Prop where
  ne : front ≠ []
  len : ∀ z ∈ front, lenP a b z.1 z.2 = left
  fit : ∀ z ∈ front, z.1 ≤ a.length ∧ z.2 ≤ b.length
  closed : ∀ z ∈ front, closedAt a b left front z
  old : ∀ z ∈ seen, left ≤ lenP a b z.1 z.2

theorem loopB_spec (hz0 : ∀ z : Pr, ∀ y, stepP a b z.1 z.2 ≠ some (0, y)) : ∀ (left : Nat) (front seen : List Pr), FrontInv a b left front seen → left < never →
    (loopB a b left front seen).length = left ∧ (∃ z ∈ front, Com a b z.1 z.2 (loopB a b left front seen)) ∧
    (∀ z ∈ front, ∀ s, Com a b z.1 z.2 s → s.length = left → lexLe (loopB a b left front seen) s)
  | 0, front, seen, h, hn => by
    refine ⟨rfl, ?_, fun z _ s _ _ => trivial⟩
    obtain ⟨z, hz⟩ := List.exists_mem_of_ne_nil _ h.ne
    obtain ⟨s, hs, hl⟩ := lenP_text a b _ z.1 z.2 (Nat.le_refl _) (by rw [h.len z hz]; exact hn)
    rw [h.len z hz] at hl
    have : s = [] := List.eq_nil_of_length_eq_zero hl
    subst this
    exact ⟨z, hz, hs⟩
  | left + 1, front, seen, h, hn => by
    obtain ⟨v1, v2, v3, v4⟩ := advB_inv a b hz0 left front
    have htakes : ∀ z ∈ front, ∀ c t, Com a b z.1 z.2 (c :: t) → t.length = left → ∃ x ∈ front, ∃ d y, stepP a b x.1 x.2 = some (d, y) ∧ d.toNat ≤ c.toNat ∧ lenP a b y.1 y.2 = left ∧ Com a b y.1 y.2 t := by
      intro z hz c t hc hl
      have hf := h.fit z hz
      obtain ⟨x, d, i', k', hx, h1, h2, h3, h4⟩ := Com.takes a b _ z.1 z.2 c t (· ∈ front) hf.1 hf.2 (Nat.le_refl _) (by rw [h.len z hz, hl]) (fun x hx h1 h2 => (h.closed x hx).1 h1 (by rw [h2, hl])) (fun x hx h1 h2 => (h.closed x hx).2 h1 (by rw [h2, hl])) hz hc
      exact ⟨x, hx, d, (i', k'), h1, h2, by rw [← hl]; exact h3, h4⟩
    have hnext : (advB a b left front).2 ≠ [] := by
      obtain ⟨z, hz⟩ := List.exists_mem_of_ne_nil _ h.ne
      obtain ⟨s, hs, hl⟩ := lenP_text a b _ z.1 z.2 (Nat.le_refl _) (by rw [h.len z hz]; exact hn)
      rw [h.len z hz] at hl
      cases s with
      | nil => simp at hl
      | cons c t =>
        obtain ⟨x, hx, d, y, h1, _, h3, _⟩ := htakes z hz c t hs (by simpa using hl)
        exact (v3 x hx d y h1 h3).1
    have hfit : ∀ y ∈ (advB a b left front).2, y.1 ≤ a.length ∧ y.2 ≤ b.length ∧ lenP a b y.1 y.2 = left := by
      intro y hy
      obtain ⟨z, _, hs⟩ := v1 y hy
      have := stepP_spec a b (i' := y.1) (k' := y.2) hs
      exact ⟨this.2.2.2.2.1, this.2.2.2.2.2.1, v2 y hy⟩
    obtain ⟨g1, g2⟩ := gatherAll_spec a b left seen _ hfit
    have hnew : ∀ z ∈ seen ++ gatherAll a b left seen (advB a b left front).2, lenP a b z.1 z.2 = left → z ∈ gatherAll a b left seen (advB a b left front).2 := by
      intro z hz hl
      rcases List.mem_append.1 hz with hz | hz
      · have := h.old z hz; omega
      · exact hz
    have hinv : FrontInv a b left (gatherAll a b left seen (advB a b left front).2) (seen ++ gatherAll a b left seen (advB a b left front).2) := by
      refine ⟨?_, fun z hz => (g2 z hz).1, fun z hz => ⟨(g2 z hz).2.1, (g2 z hz).2.2.1⟩, fun z hz => ?_, fun z hz => ?_⟩
      · obtain ⟨y, hy⟩ := List.exists_mem_of_ne_nil _ hnext
        exact List.ne_nil_of_mem (hnew y (g1 y hy) (hfit y hy).2.2)
      · have := (g2 z hz).2.2.2.2
        exact ⟨fun h1 h2 => hnew _ (this.1 h1 h2) h2, fun h1 h2 => hnew _ (this.2 h1 h2) h2⟩
      · rcases List.mem_append.1 hz with hz | hz
        · have := h.old z hz; omega
        · rw [(g2 z hz).1]; exact Nat.le_refl _
    obtain ⟨i1, ⟨z, hz, i2⟩, i3⟩ := loopB_spec hz0 left _ _ hinv (by omega)
    rw [loopB]
    refine ⟨by simp [i1], ?_, fun x hx s hs hl => ?_⟩
    · obtain ⟨y, hy, hc⟩ := (g2 z hz).2.2.2.1 _ i2
      obtain ⟨x, hx, hst⟩ := v1 y hy
      exact ⟨x, hx, Com.step a b (i' := y.1) (k' := y.2) hst hc⟩
    · cases s with
      | nil => simp at hl
      | cons c t =>
        simp only [List.length_cons, Nat.add_right_cancel_iff] at hl
        obtain ⟨z', hz', d, y, h1, h2, h3, h4⟩ := htakes x hx c t hs hl
        obtain ⟨q1, q2, q3⟩ := v3 z' hz' d y h1 h3
        by_cases he : (advB a b left front).1 = c
        · right
          refine ⟨he, i3 y (hnew y (g1 y (q3 ?_)) h3) t h4 hl⟩
          rw [← he] at h2
          exact UInt8.toNat_inj.1 (by omega)
        · left
          have : (advB a b left front).1.toNat ≠ c.toNat := fun e => he (UInt8.toNat_inj.1 e)
          omega

/-- t is the least text that both alternatives match. -/
def IsLeast (t : List UInt8) : Prop := Com a b 0 0 t ∧ ∀ s, Com a b 0 0 s → t.length < s.length ∨ (t.length = s.length ∧ lexLe t s)

theorem leastB_spec (hz0 : ∀ z : Pr, ∀ y, stepP a b z.1 z.2 ≠ some (0, y)) (_hab : a.length + b.length < never) : match leastB a b with
    | none => ∀ s, s.length < never → ¬ Com a b 0 0 s
    | some t => IsLeast a b t ∧ t.length < never := by
  unfold leastB
  by_cases h : lenP a b 0 0 = never
  · rw [if_pos h]
    intro s hl hs
    have := lenP_min a b (Nat.zero_le _) (Nat.zero_le _) hs
    omega
  · rw [if_neg h]
    have hlt : lenP a b 0 0 < never := by have := lenP_le_never a b 0 0; omega
    obtain ⟨g1, g2⟩ := gatherB_spec a b (lenP a b 0 0) _ [] 0 0 (Nat.le_refl _) (Nat.zero_le _) (Nat.zero_le _)
    rw [List.nil_append] at g1
    have hinv : FrontInv a b (lenP a b 0 0) (gatherB a b (lenP a b 0 0) [] 0 0) ([] ++ gatherB a b (lenP a b 0 0) [] 0 0) := by
      refine ⟨List.ne_nil_of_mem (g1 rfl), fun z hz => (g2 z hz).1, fun z hz => ⟨(g2 z hz).2.1, (g2 z hz).2.2.1⟩, fun z hz => by have := (g2 z hz).2.2.2.2; rwa [List.nil_append] at this, fun z hz => ?_⟩
      rw [List.nil_append] at hz
      rw [(g2 z hz).1]
      exact Nat.le_refl _
    obtain ⟨i1, ⟨z, hz, i2⟩, i3⟩ := loopB_spec a b hz0 _ _ _ hinv hlt
    refine ⟨⟨(g2 z hz).2.2.2.1 _ i2, fun s hs => ?_⟩, by rw [i1]; exact hlt⟩
    have := lenP_min a b (Nat.zero_le _) (Nat.zero_le _) hs
    rw [i1]
    rcases Nat.lt_or_ge (lenP a b 0 0) s.length with h' | h'
    · exact Or.inl h'
    · exact Or.inr ⟨by omega, i3 (0, 0) (g1 rfl) s hs (by omega)⟩
end
end Go.Proofs.YtkkibibecgcbmaaGreatDoor.Gl

namespace Go.Proofs.YtkkibibecgcbmaaGreatDoor.Gl

/-- Behind the star st: the text may go on from the byte kept, taken by the star. -/
def back (l : List El) (s : List UInt8) (st : Option Nat) (kept : Nat) : Bool := match st with
  | none => false
  | some k => ((l[k]?.bind fun e => s[kept]?.map e.set).getD false) && mB (l.drop k) (s.drop (kept + 1))

structure MInv (l : List El) (s : List UInt8) (pos : Nat) (st : Option Nat) (read kept : Nat) : Prop where
  pos_le : pos ≤ l.length
  read_le : read ≤ s.length
  kept_le : kept ≤ read
  star : ∀ k, st = some k → k < pos ∧ (∃ e, l[k]? = some e ∧ e.star = true) ∧ (∀ j f, k < j → j < pos → l[j]? = some f → f.star = false) ∧ read = kept + (pos - (k + 1))
  eq : mB l s = (mB (l.drop pos) (s.drop read) || back l s st kept)

theorem MInv.start (l : List El) (s : List UInt8) : MInv l s 0 none 0 0 := ⟨Nat.zero_le _, Nat.zero_le _, Nat.le_refl _, fun _ h => by simp at h, by simp [back]⟩

theorem drop_at8 {s : List UInt8} {i : Nat} {c : UInt8} (h : s[i]? = some c) : s.drop i = c :: s.drop (i + 1) := by
  obtain ⟨hi, he⟩ := List.getElem?_eq_some_iff.1 h
  rw [List.drop_eq_getElem_cons hi, he]

/-- The elements between the star k and pos. -/
theorem drop_split (l : List El) (k pos : Nat) (h : k < pos) : l.drop (k + 1) = (l.drop (k + 1)).take (pos - (k + 1)) ++ l.drop pos := by
  have := (List.take_append_drop (pos - (k + 1)) (l.drop (k + 1))).symm
  rwa [List.drop_drop, show k + 1 + (pos - (k + 1)) = pos from by omega] at this

theorem mid_plain {l : List El} {k pos : Nat} (hs : ∀ j f, k < j → j < pos → l[j]? = some f → f.star = false) : ∀ f ∈ (l.drop (k + 1)).take (pos - (k + 1)), f.star = false := by
  intro f hf
  obtain ⟨i, hi⟩ := List.mem_iff_getElem?.1 hf
  rw [List.getElem?_take] at hi
  split at hi
  · rw [List.getElem?_drop] at hi
    exact hs (k + 1 + i) f (by omega) (by omega) hi
  · simp at hi

theorem mid_length {l : List El} {k pos : Nat} (hp : pos ≤ l.length) : ((l.drop (k + 1)).take (pos - (k + 1))).length = pos - (k + 1) := by
  rw [List.length_take, List.length_drop]
  omega

theorem star_take {l : List El} {s : List UInt8} {pos read : Nat} {e : El} (he : l[pos]? = some e) (hs : e.star = true) :
    mB (l.drop pos) (s.drop read) = (mB (l.drop (pos + 1)) (s.drop read) || back l s (some pos) read) := by
  rw [Bool.eq_iff_iff, Bool.or_eq_true, drop_at he, mB_star_cases hs]
  simp only [back]
  rw [he, drop_at he]
  cases hc : s[read]? with
  | none =>
    have : s.drop read = [] := List.drop_eq_nil_of_le (List.getElem?_eq_none_iff.1 hc)
    simp [this]
  | some c =>
    rw [drop_at8 hc]
    simp only [Option.bind_some, Option.map_some, Option.getD_some, Bool.and_eq_true]
    constructor
    · rintro (h | ⟨c', t, h1, h2, h3⟩)
      · exact Or.inl h
      · cases h1; exact Or.inr ⟨h2, h3⟩
    · rintro (h | ⟨h2, h3⟩)
      · exact Or.inl h
      · exact Or.inr ⟨c, _, rfl, h2, h3⟩

theorem MInv.onStar {l : List El} {s : List UInt8} {pos read kept : Nat} {st : Option Nat} (hok : ∀ e ∈ l, e.ok) (h : MInv l s pos st read kept) {e : El} (he : l[pos]? = some e) (hs : e.star = true) : MInv l s (pos + 1) (some pos) read read := by
  have hlt := (List.getElem?_eq_some_iff.1 he).1
  refine ⟨hlt, h.read_le, Nat.le_refl _, fun k hk => ?_, ?_⟩
  · cases hk
    exact ⟨Nat.lt_succ_self _, ⟨e, he, hs⟩, fun j f h1 h2 _ => by omega, by omega⟩
  · rw [← star_take he hs, h.eq]
    cases hb : back l s st kept with
    | false => rw [Bool.or_false]
    | true =>
      rw [Bool.or_true]
      symm
      cases st with
      | none => simp [back] at hb
      | some k =>
        obtain ⟨hk, ⟨f, hf, hfs⟩, hmid, hread⟩ := h.star k rfl
        simp only [back] at hb
        rw [hf] at hb
        cases hc : s[kept]? with
        | none => rw [hc] at hb; simp at hb
        | some c =>
          rw [hc] at hb
          simp only [Option.bind_some, Option.map_some, Option.getD_some, Bool.and_eq_true] at hb
          obtain ⟨h1, h2⟩ := hb
          have hsplit := drop_split l k pos hk
          rw [drop_at hf, hsplit, drop_at he] at h2
          have hlater := mB_later hfs (mid_plain hmid) hs (fun g hg => hok g ?_) _ c h1 h2
          · rw [mid_length h.pos_le, ← drop_at8 hc, List.drop_drop, ← hread, ← drop_at he] at hlater
            exact hlater
          · rcases List.mem_cons.1 hg with rfl | hg
            · exact List.mem_of_getElem? hf
            · rw [← drop_at he, ← hsplit] at hg
              exact List.mem_of_mem_drop hg

theorem MInv.onByte {l : List El} {s : List UInt8} {pos read kept : Nat} {st : Option Nat} (h : MInv l s pos st read kept) {e : El} (he : l[pos]? = some e) (hs : e.star = false) {c : UInt8} (hc : s[read]? = some c) (hset : e.set c = true) : MInv l s (pos + 1) st (read + 1) kept := by
  have hlt := (List.getElem?_eq_some_iff.1 he).1
  have hrl := (List.getElem?_eq_some_iff.1 hc).1
  refine ⟨hlt, hrl, Nat.le_succ_of_le h.kept_le, fun k hk => ?_, ?_⟩
  · obtain ⟨h1, h2, h3, h4⟩ := h.star k hk
    refine ⟨by omega, h2, fun j f hj1 hj2 hj => ?_, by omega⟩
    rcases Nat.lt_or_ge j pos with hlt' | hge
    · exact h3 j f hj1 hlt' hj
    · obtain rfl : j = pos := by omega
      rw [he] at hj
      cases hj
      exact hs
  · rw [h.eq, drop_at he, drop_at8 hc, mB, if_neg (by simp [hs]), oneB, hset, Bool.true_and]

/-- The text can't go on here. -/
def stuckAt (l : List El) (s : List UInt8) (pos read : Nat) : Prop := l[pos]? = none ∨ ∃ e c, l[pos]? = some e ∧ e.star = false ∧ s[read]? = some c ∧ e.set c = false

theorem stuck_false {l : List El} {s : List UInt8} {pos read : Nat} {c : UInt8} (hc : s[read]? = some c) (h : stuckAt l s pos read) : mB (l.drop pos) (s.drop read) = false := by
  rw [drop_at8 hc]
  rcases h with h | ⟨e, d, he, hs, hd, hset⟩
  · rw [List.drop_eq_nil_of_le (List.getElem?_eq_none_iff.1 h)]
    rfl
  · rw [hc] at hd
    cases hd
    rw [drop_at he, mB, if_neg (by simp [hs]), oneB, hset, Bool.false_and]

theorem MInv.onBack {l : List El} {s : List UInt8} {pos read kept k : Nat} (h : MInv l s pos (some k) read kept) {c : UInt8} (hc : s[read]? = some c) (hst : stuckAt l s pos read) {e : El} (he : l[k]? = some e) {d : UInt8} (hd : s[kept]? = some d) (hset : e.set d = true) : MInv l s (k + 1) (some k) (kept + 1) (kept + 1) := by
  have hrl := (List.getElem?_eq_some_iff.1 hd).1
  obtain ⟨h1, ⟨f, hf, hfs⟩, h3, h4⟩ := h.star k rfl
  rw [he] at hf
  cases hf
  have hp := h.pos_le
  refine ⟨by omega, hrl, Nat.le_refl _, fun j hj => ?_, ?_⟩
  · cases hj
    exact ⟨Nat.lt_succ_self _, ⟨e, he, hfs⟩, fun j f hj1 hj2 _ => by omega, by omega⟩
  · rw [← star_take he hfs, h.eq, stuck_false hc hst, Bool.false_or, back, he, hd]
    simp [hset]

theorem MInv.onFail {l : List El} {s : List UInt8} {pos read kept : Nat} {st : Option Nat} (h : MInv l s pos st read kept) {c : UInt8} (hc : s[read]? = some c) (hst : stuckAt l s pos read)
    (hb : st = none ∨ ∃ k e d, st = some k ∧ l[k]? = some e ∧ s[kept]? = some d ∧ e.set d = false) : mB l s = false := by
  rw [h.eq, stuck_false hc hst, Bool.false_or]
  rcases hb with rfl | ⟨k, e, d, rfl, he, hd, hset⟩
  · rfl
  · rw [back, he, hd]
    simp [hset]

theorem MInv.onEnd {l : List El} {s : List UInt8} {pos kept : Nat} {st : Option Nat} (h : MInv l s pos st s.length kept) : mB l s = mB (l.drop pos) [] := by
  rw [h.eq, List.drop_length]
  cases st with
  | none => simp [back]
  | some k =>
    obtain ⟨h1, ⟨f, hf, hfs⟩, h3, h4⟩ := h.star k rfl
    have hp := h.pos_le
    rw [back, drop_at hf, drop_split l k pos h1]
    by_cases hlt : kept < s.length
    · rw [mB_none_left hfs (mid_plain h3) _ (by rw [mid_length hp, List.length_drop]; omega), Bool.and_false, Bool.or_false]
    · rw [hf, List.getElem?_eq_none (by omega)]
      simp

theorem mB_end_star {l : List El} {pos : Nat} {e : El} (he : l[pos]? = some e) (hs : e.star = true) : mB (l.drop pos) [] = mB (l.drop (pos + 1)) [] := by
  rw [drop_at he, mB, if_pos hs, starB]
theorem mB_end_one {l : List El} {pos : Nat} {e : El} (he : l[pos]? = some e) (hs : e.star = false) : mB (l.drop pos) [] = false := by
  rw [drop_at he, mB, if_neg (by simp [hs]), oneB]
theorem mB_end {l : List El} : mB (l.drop l.length) [] = true := by rw [List.drop_length]; rfl
end Go.Proofs.YtkkibibecgcbmaaGreatDoor.Gl
