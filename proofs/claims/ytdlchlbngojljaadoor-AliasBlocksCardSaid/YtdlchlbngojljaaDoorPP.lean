/- Patterns and what they match, on lists of bytes. The least common text of two alternatives, on lists of bytes: the lengths of the shortest texts. -/
namespace Go.Proofs.YtdlchlbngojljaaDoor.Gl
/-- An element of an alternative. -/
structure El where
 star : Bool
 self : Bool
 set : UInt8 → Bool
def isText (b : UInt8) : Bool := decide (32 ≤ b.toNat) && decide (b.toNat ≤ 126)
def rangeB (a b c : UInt8) : Bool := decide (a.toNat ≤ c.toNat) && decide (c.toNat ≤ b.toNat)
/-- The members of a set, added to those of acc. -/
def memB (acc : UInt8 → Bool) : List UInt8 → Option (UInt8 → Bool)
 | [] => some acc
 | [a] => some fun x => acc x || rangeB a a x
 | [a, b] => some fun x => (acc x || rangeB a a x) || rangeB b b x
 | a :: b :: c :: t => if b = 45 then (if c.toNat < a.toNat then none else memB (fun x => acc x || rangeB a c x) t) else memB (fun x => acc x || rangeB a a x) (b :: c :: t)
/-- The set between brackets. -/
def setB : List UInt8 → Option (UInt8 → Bool)
 | [] => none
 | c :: r => if c = 33 then (if r = [] then none else (memB (fun _ => false) r).map fun S x => isText x && !S x) else memB (fun _ => false) (c :: r)
/-- The first element of c :: r, and how many bytes of r it takes. -/
def firstEl (c : UInt8) (r : List UInt8) : Option (El × Nat) :=
 if c = 42 then some (⟨true, false, isText⟩, 0)
 else if c = 63 then some (⟨false, false, isText⟩, 0)
 else if c = 91 then (if r.contains 93 then (setB (r.take (r.idxOf 93))).map fun S => (⟨false, false, S⟩, r.idxOf 93 + 1) else none)
 else some (⟨false, true, fun x => x == c⟩, 0)
def toksF : Nat → List UInt8 → Option (List (Option El))
 | _, [] => some []
 | 0, _ :: _ => none
 | n + 1, c :: r => if c = 124 then (toksF n r).map (none :: ·) else match firstEl c r with
  | none => none
  | some (e, k) => (toksF n (r.drop k)).map (some e :: ·)
def toks (p : List UInt8) : Option (List (Option El)) := toksF p.length p
def altsOf : List (Option El) → List (List El)
 | [] => [[]]
 | none :: t => [] :: altsOf t
 | some e :: t => match altsOf t with
  | [] => [[e]]
  | h :: r => (e :: h) :: r
def starB (f : List UInt8 → Bool) (S : UInt8 → Bool) : List UInt8 → Bool
 | [] => f []
 | c :: t => f (c :: t) || (S c && starB f S t)
def oneB (f : List UInt8 → Bool) (S : UInt8 → Bool) : List UInt8 → Bool
 | [] => false
 | c :: t => S c && f t
/-- Does an alternative match a text? -/
def mB : List El → List UInt8 → Bool
 | [] => List.isEmpty
 | e :: r => if e.star then starB (mB r) e.set else oneB (mB r) e.set
theorem toksF_fuel : ∀ (n m : Nat) (p : List UInt8), p.length ≤ n → p.length ≤ m → toksF n p = toksF m p
 | _, _, [], _, _ => by simp [toksF]
 | 0, _, _ :: _, h, _ => by simp at h
 | _ + 1, 0, _ :: _, _, h => by simp at h
 | n + 1, m + 1, c :: r, h, k => by
  simp only [List.length_cons] at h k
  unfold toksF
  split
  ·rw [toksF_fuel n m r (by omega) (by omega)]
  ·split
   ·rfl
   ·rw [toksF_fuel n m _ (by simp; omega) (by simp; omega)]
theorem toks_cons (c : UInt8) (r : List UInt8) : toks (c :: r) = if c = 124 then (toks r).map (none :: ·) else match firstEl c r with
  | none => none
  | some (e, k) => (toks (r.drop k)).map (some e :: ·) := by
 unfold toks
 rw [List.length_cons, toksF]
 split
 ·rfl
 ·split
  ·rfl
  ·rw [toksF_fuel _ _ (r.drop _) (by simp) (Nat.le_refl _)]
theorem altsOf_ne (T : List (Option El)) : altsOf T ≠ [] := by
 cases T with
 | nil => simp [altsOf]
 | cons a t => cases a with
  | none => simp [altsOf]
  | some e => simp only [altsOf]; split <;> simp
theorem altsOf_none (T U : List (Option El)) : altsOf (T ++ none :: U) = altsOf T ++ altsOf U := by
 induction T with
 | nil => simp [altsOf]
 | cons a t ih => cases a with
  | none => simp [altsOf, ih]
  | some e =>
   simp only [List.cons_append, altsOf, ih]
   cases h : altsOf t with
   | nil => exact absurd h (altsOf_ne t)
   | cons x y => simp
def snocLast (L : List (List El)) (e : El) : List (List El) := L.dropLast ++ [L.getLastD [] ++ [e]]
theorem altsOf_some (T : List (Option El)) (e : El) : altsOf (T ++ [some e]) = snocLast (altsOf T) e := by
 induction T with
 | nil => simp [altsOf, snocLast]
 | cons a t ih => cases a with
  | none =>
   simp only [List.cons_append, altsOf, ih, snocLast]
   cases h : altsOf t with
   | nil => exact absurd h (altsOf_ne t)
   | cons x y => simp
  | some f =>
   simp only [List.cons_append, altsOf, ih, snocLast]
   cases h : altsOf t with
   | nil => exact absurd h (altsOf_ne t)
   | cons x y =>
    cases y with
    | nil => simp
    | cons z u => simp
/-! What is matched. -/
theorem starB_iff (f : List UInt8 → Bool) (S : UInt8 → Bool) (s : List UInt8) : starB f S s = true ↔ ∃ i, i ≤ s.length ∧ (s.take i).all S = true ∧ f (s.drop i) = true := by
 induction s with
 | nil => simp [starB]
 | cons c t ih =>
  simp only [starB, Bool.or_eq_true, Bool.and_eq_true, ih]
  constructor
  ·rintro (h | ⟨hc, i, hi, ha, hf⟩)
   ·exact ⟨0, by omega, by simp, by simpa using h⟩
   ·exact ⟨i + 1, by simp; omega, by simp [hc]; simpa using ha, by simpa using hf⟩
  ·rintro ⟨i, hi, ha, hf⟩
   cases i with
   | zero => exact Or.inl (by simpa using hf)
   | succ i =>
    simp only [List.take_succ_cons, List.all_cons, Bool.and_eq_true, List.drop_succ_cons] at ha hf
    exact Or.inr ⟨ha.1, i, by simp at hi; omega, ha.2, hf⟩
theorem mB_star (e : El) (r : List El) (s : List UInt8) (h : e.star = true) : mB (e :: r) s = true ↔ ∃ i, i ≤ s.length ∧ (s.take i).all e.set = true ∧ mB r (s.drop i) = true := by
 rw [mB, if_pos h, starB_iff]
theorem mB_one (e : El) (r : List El) (s : List UInt8) (h : e.star = false) : mB (e :: r) s = true ↔ ∃ c t, s = c :: t ∧ e.set c = true ∧ mB r t = true := by
 rw [mB, if_neg (by simp [h])]
 cases s with
 | nil => simp [oneB]
 | cons c t =>
  simp only [oneB, Bool.and_eq_true]
  constructor
  ·rintro ⟨h1, h2⟩; exact ⟨c, t, rfl, h1, h2⟩
  ·rintro ⟨c', t', ht, h1, h2⟩; cases ht; exact ⟨h1, h2⟩
theorem mB_append (x y : List El) : ∀ s, mB (x ++ y) s = true ↔ ∃ i, i ≤ s.length ∧ mB x (s.take i) = true ∧ mB y (s.drop i) = true := by
 induction x with
 | nil =>
  intro s
  constructor
  ·intro h; exact ⟨0, by omega, by simp [mB], by simpa using h⟩
  ·rintro ⟨i, hi, h, k⟩
   simp only [mB, List.isEmpty_iff, List.take_eq_nil_iff] at h
   rcases h with rfl | rfl
   ·simpa using k
   ·simpa using k
 | cons e r ih =>
  intro s
  rw [List.cons_append]
  cases hs : e.star with
  | true =>
   rw [mB_star e _ s hs]
   constructor
   ·rintro ⟨i, hi, ha, hm⟩
    obtain ⟨k, hk, h1, h2⟩ := (ih _).1 hm
    simp only [List.length_drop] at hk
    refine ⟨i + k, by omega, (mB_star e r _ hs).2 ⟨i, by simp; omega, ?_, ?_⟩, by rw [List.drop_drop] at h2; exact h2⟩
    ·rw [List.take_take, Nat.min_eq_left (by omega)]; exact ha
    ·rw [List.drop_take]; simpa using h1
   ·rintro ⟨j, hj, h1, h2⟩
    obtain ⟨i, hi, ha, hm⟩ := (mB_star e r _ hs).1 h1
    simp only [List.length_take] at hi
    refine ⟨i, by omega, ?_, (ih _).2 ⟨j - i, by simp; omega, ?_, ?_⟩⟩
    ·rw [List.take_take, Nat.min_eq_left (by omega)] at ha; exact ha
    ·rw [List.drop_take] at hm; exact hm
    ·rw [List.drop_drop, show i + (j - i) = j from by omega]; exact h2
  | false =>
   rw [mB_one e _ s hs]
   constructor
   ·rintro ⟨c, t, rfl, hc, hm⟩
    obtain ⟨k, hk, h1, h2⟩ := (ih _).1 hm
    exact ⟨k + 1, by simp; omega, (mB_one e r _ hs).2 ⟨c, t.take k, by simp, hc, h1⟩, by simpa using h2⟩
   ·rintro ⟨j, hj, h1, h2⟩
    obtain ⟨c, t, ht, hc, hm⟩ := (mB_one e r _ hs).1 h1
    cases s with
    | nil => simp at ht
    | cons c' t' =>
     cases j with
     | zero => simp at ht
     | succ j =>
      simp only [List.take_succ_cons, List.cons.injEq] at ht
      obtain ⟨rfl, rfl⟩ := ht
      exact ⟨c', t', rfl, hc, (ih _).2 ⟨j, by simp at hj; omega, hm, by simpa using h2⟩⟩
/-- The sets have bytes of texts only; a star's set has all of them. -/
def El.ok (e : El) : Prop := (∀ b, e.set b = true → isText b = true) ∧ (e.star = true → ∀ b, isText b = true → e.set b = true)
theorem mB_text {a : List El} (h : ∀ e ∈ a, e.ok) : ∀ s, mB a s = true → s.all isText = true := by
 induction a with
 | nil => intro s hs; simp [mB] at hs; simp [hs]
 | cons e r ih =>
  intro s hs
  have ih' := ih fun f hf => h f (List.mem_cons_of_mem _ hf)
  have he := h e (List.mem_cons_self)
  cases hst : e.star with
  | true =>
   obtain ⟨i, hi, ha, hm⟩ := (mB_star e r s hst).1 hs
   rw [← List.take_append_drop i s, List.all_append, ih' _ hm, Bool.and_true]
   exact List.all_eq_true.2 fun x hx => he.1 x (List.all_eq_true.1 ha x hx)
  | false =>
   obtain ⟨c, t, rfl, hc, hm⟩ := (mB_one e r s hst).1 hs
   rw [List.all_cons, ih' _ hm, he.1 c hc]; rfl
/-- Elements that are no stars take one byte each. -/
theorem mB_drop {x : List El} (hx : ∀ e ∈ x, e.star = false) (y : List El) : ∀ s, mB (x ++ y) s = true → x.length ≤ s.length ∧ mB y (s.drop x.length) = true := by
 induction x with
 | nil => intro s h; exact ⟨by simp, by simpa using h⟩
 | cons e r ih =>
  intro s h
  obtain ⟨c, t, rfl, _, hm⟩ := (mB_one e (r ++ y) s (hx e List.mem_cons_self)).1 h
  obtain ⟨h1, h2⟩ := ih (fun f hf => hx f (List.mem_cons_of_mem _ hf)) t hm
  exact ⟨by simp; omega, by simpa using h2⟩
/-- What stands behind the last star: another place of the bytes that the star takes does nothing that a later star can't do. -/
theorem mB_later {e : El} {x y : List El} (hst : e.star = true) (hx : ∀ f ∈ x, f.star = false) {f : El} (hf : f.star = true) (hok : ∀ g ∈ e :: (x ++ f :: y), g.ok) (s : List UInt8) (c : UInt8)
  (hc : e.set c = true) (h : mB (e :: (x ++ f :: y)) s = true) : mB (f :: y) ((c :: s).drop x.length) = true := by
 have htext := mB_text hok s h
 have hct : isText c = true := (hok e List.mem_cons_self).1 c hc
 obtain ⟨i, hi, ha, hm⟩ := (mB_star e _ s hst).1 h
 obtain ⟨h1, h2⟩ := mB_drop hx (f :: y) _ hm
 rw [List.drop_drop] at h2
 obtain ⟨k, hk, hb, hr⟩ := (mB_star f y _ hf).1 h2
 have hall : (c :: s).all isText = true := by rw [List.all_cons, hct, htext]; rfl
 simp only [List.length_drop] at h1 hk
 refine (mB_star f y _ hf).2 ⟨i + 1 + k, by simp; omega, ?_, ?_⟩
 ·refine List.all_eq_true.2 fun z hz => (hok f (by simp)).2 hf z (List.all_eq_true.1 hall z ?_)
  exact List.mem_of_mem_drop (List.mem_of_mem_take hz)
 ·rw [List.drop_drop] at hr ⊢
  rw [show x.length + (i + 1 + k) = (i + x.length + k) + 1 from by omega, List.drop_succ_cons]
  exact hr
theorem mB_none_left {e : El} {x y : List El} (hst : e.star = true) (hx : ∀ f ∈ x, f.star = false) (s : List UInt8) (hs : s.length < x.length) : mB (e :: (x ++ y)) s = false := by
 rw [Bool.eq_false_iff]
 intro h
 obtain ⟨i, hi, _, hm⟩ := (mB_star e _ s hst).1 h
 have := (mB_drop hx y _ hm).1
 simp at this
 omega
end Go.Proofs.YtdlchlbngojljaaDoor.Gl
namespace Go.Proofs.YtdlchlbngojljaaDoor.Gl
def never : Nat := 1073741824
/-- The least byte of a set. -/
def leastS (S : UInt8 → Bool) : Option UInt8 := ((List.range 256).map UInt8.ofNat).find? S
theorem leastS_some {S : UInt8 → Bool} {c : UInt8} (h : leastS S = some c) : S c = true ∧ ∀ d, S d = true → c.toNat ≤ d.toNat := by
 unfold leastS at h
 refine ⟨List.find?_some h, fun d hd => ?_⟩
 obtain ⟨_, as, bs, heq, hno⟩ := List.find?_eq_some_iff_append.1 h
 have hlen : ((List.range 256).map UInt8.ofNat).length = 256 := by simp
 have hget : ∀ i, i < 256 → ((List.range 256).map UInt8.ofNat)[i]? = some (UInt8.ofNat i) := fun i hi => by simp [hi]
 have hc : ((List.range 256).map UInt8.ofNat)[as.length]? = some c := by rw [heq]; simp
 have hal : as.length < 256 := by rw [← hlen, heq]; simp
 rw [hget _ hal] at hc
 have hcn : c.toNat = as.length := by rw [← Option.some.inj hc]; simp; omega
 rw [hcn]
 refine Nat.le_of_not_lt fun hlt => ?_
 have hdl : d.toNat < 256 := UInt8.toNat_lt d
 have h1 := hget d.toNat hdl
 rw [heq, List.getElem?_append_left hlt] at h1
 have hm : UInt8.ofNat d.toNat ∈ as := List.mem_of_getElem? h1
 have := hno _ hm
 simp [hd] at this
theorem leastS_of {S : UInt8 → Bool} {d : UInt8} (h : S d = true) : ∃ c, leastS S = some c ∧ S c = true ∧ c.toNat ≤ d.toNat := by
 cases hl : leastS S with
 | none =>
  unfold leastS at hl
  have := List.find?_eq_none.1 hl d (by
   refine List.mem_map.2 ⟨d.toNat, List.mem_range.2 (UInt8.toNat_lt d), by simp⟩)
  exact absurd h this
 | some c => exact ⟨c, rfl, (leastS_some hl).1, (leastS_some hl).2 d h⟩
section
variable (a b : List El)
def starAt (l : List El) (i : Nat) : Bool := (l[i]?.map El.star).getD false
def stepP (i k : Nat) : Option (UInt8 × Nat × Nat) := match a[i]?, b[k]? with
 | some e, some f => if e.star && f.star then none else (leastS fun c => e.set c && f.set c).map fun c => (c, (if e.star then i else i + 1), (if f.star then k else k + 1))
 | _, _ => none
def lenF : Nat → Nat → Nat → Nat
 | 0, _, _ => never
 | n + 1, i, k =>
  min (if i = a.length ∧ k = b.length then 0 else never) (min (if starAt a i then lenF n (i + 1) k else never) (min (if starAt b k then lenF n i (k + 1) else never)
   (match stepP a b i k with | some (_, i', k') => 1 + lenF n i' k' | none => never)))
def lenP (i k : Nat) : Nat := lenF a b (a.length - i + (b.length - k) + 1) i k
theorem starAt_lt {l : List El} {i : Nat} (h : starAt l i = true) : i < l.length := by
 unfold starAt at h
 rcases Nat.lt_or_ge i l.length with h1 | h1
 ·exact h1
 ·rw [List.getElem?_eq_none h1] at h; simp at h
theorem stepP_spec {i k : Nat} {c : UInt8} {i' k' : Nat} (h : stepP a b i k = some (c, i', k')) : i < a.length ∧ k < b.length ∧ i ≤ i' ∧ k ≤ k' ∧ i' ≤ a.length ∧ k' ≤ b.length ∧ i + k < i' + k' := by
 unfold stepP at h
 split at h
 ·rename_i e f he hf
  have h1 : i < a.length := (List.getElem?_eq_some_iff.1 he).1
  have h2 : k < b.length := (List.getElem?_eq_some_iff.1 hf).1
  split at h
  ·simp at h
  ·rename_i hns
   simp only [Option.map_eq_some_iff, Prod.mk.injEq] at h
   obtain ⟨_, _, _, rfl, rfl⟩ := h
   refine ⟨h1, h2, ?_, ?_, ?_, ?_, ?_⟩
   ·split <;> omega
   ·split <;> omega
   ·split <;> omega
   ·split <;> omega
   ·cases hes : e.star <;> cases hfs : f.star <;> simp_all <;> omega
 ·simp at h
theorem lenF_fuel : ∀ (n m i k : Nat), a.length - i + (b.length - k) < n → a.length - i + (b.length - k) < m → lenF a b n i k = lenF a b m i k
 | 0, _, _, _, h, _ => by omega
 | _ + 1, 0, _, _, _, h => by omega
 | n + 1, m + 1, i, k, h1, h2 => by
  unfold lenF
  have e1 : (if starAt a i then lenF a b n (i + 1) k else never) = (if starAt a i then lenF a b m (i + 1) k else never) := by
   cases hs : starAt a i with
   | false => rfl
   | true =>
    have := starAt_lt hs
    simp only [if_true]
    exact lenF_fuel n m _ _ (by omega) (by omega)
  have e2 : (if starAt b k then lenF a b n i (k + 1) else never) = (if starAt b k then lenF a b m i (k + 1) else never) := by
   cases hs : starAt b k with
   | false => rfl
   | true =>
    have := starAt_lt hs
    simp only [if_true]
    exact lenF_fuel n m _ _ (by omega) (by omega)
  have e3 : (match stepP a b i k with | some (_, i', k') => 1 + lenF a b n i' k' | none => never) = (match stepP a b i k with | some (_, i', k') => 1 + lenF a b m i' k' | none => never) := by
   cases hs : stepP a b i k with
   | none => rfl
   | some t =>
    obtain ⟨c, i', k'⟩ := t
    have := stepP_spec a b hs
    simp only
    rw [lenF_fuel n m _ _ (by omega) (by omega)]
  rw [e1, e2, e3]
/-- The equation of the lengths. -/
theorem lenP_eq (i k : Nat) : lenP a b i k =
  min (if i = a.length ∧ k = b.length then 0 else never) (min (if starAt a i then lenP a b (i + 1) k else never) (min (if starAt b k then lenP a b i (k + 1) else never)
   (match stepP a b i k with | some (_, i', k') => 1 + lenP a b i' k' | none => never))) := by
 conv => lhs; rw [lenP, lenF]
 have e1 : (if starAt a i then lenF a b (a.length - i + (b.length - k)) (i + 1) k else never) = (if starAt a i then lenP a b (i + 1) k else never) := by
  cases hs : starAt a i with
  | false => rfl
  | true =>
   have := starAt_lt hs
   simp only [if_true]
   exact lenF_fuel a b _ _ _ _ (by omega) (by omega)
 have e2 : (if starAt b k then lenF a b (a.length - i + (b.length - k)) i (k + 1) else never) = (if starAt b k then lenP a b i (k + 1) else never) := by
  cases hs : starAt b k with
  | false => rfl
  | true =>
   have := starAt_lt hs
   simp only [if_true]
   exact lenF_fuel a b _ _ _ _ (by omega) (by omega)
 have e3 : (match stepP a b i k with | some (_, i', k') => 1 + lenF a b (a.length - i + (b.length - k)) i' k' | none => never) = (match stepP a b i k with | some (_, i', k') => 1 + lenP a b i' k' | none => never) := by
  cases hs : stepP a b i k with
  | none => rfl
  | some t =>
   obtain ⟨c, i', k'⟩ := t
   have := stepP_spec a b hs
   simp only
   rw [lenP, lenF_fuel a b (a.length - i + (b.length - k)) (a.length - i' + (b.length - k') + 1) i' k' (by omega) (by omega)]
 rw [e1, e2, e3]
/-- A text that both alternatives match from a pair of places on. -/
def Com (i k : Nat) (s : List UInt8) : Prop := mB (a.drop i) s = true ∧ mB (b.drop k) s = true
theorem starAt_iff {l : List El} {i : Nat} : starAt l i = true ↔ ∃ e, l[i]? = some e ∧ e.star = true := by
 unfold starAt
 cases h : l[i]? with
 | none => simp
 | some e => simp
theorem drop_at {l : List El} {i : Nat} {e : El} (h : l[i]? = some e) : l.drop i = e :: l.drop (i + 1) := by
 obtain ⟨hi, he⟩ := List.getElem?_eq_some_iff.1 h
 rw [List.drop_eq_getElem_cons hi, he]
theorem mB_star_cases {e : El} {r : List El} {s : List UInt8} (h : e.star = true) : mB (e :: r) s = true ↔ mB r s = true ∨ ∃ c t, s = c :: t ∧ e.set c = true ∧ mB (e :: r) t = true := by
 rw [mB, if_pos h]
 cases s with
 | nil => simp [starB]
 | cons c t =>
  simp only [starB, Bool.or_eq_true, Bool.and_eq_true]
  constructor
  ·rintro (h1 | ⟨h1, h2⟩)
   ·exact Or.inl h1
   ·exact Or.inr ⟨c, t, rfl, h1, h2⟩
  ·rintro (h1 | ⟨c', t', ht, h1, h2⟩)
   ·exact Or.inl h1
   ·cases ht; exact Or.inr ⟨h1, h2⟩
theorem Com.skipOurs {i k : Nat} {s : List UInt8} (h : starAt a i = true) (hc : Com a b (i + 1) k s) : Com a b i k s := by
 obtain ⟨e, he, hs⟩ := starAt_iff.1 h
 exact ⟨by rw [drop_at he]; exact (mB_star_cases hs).2 (Or.inl hc.1), hc.2⟩
theorem Com.skipTheirs {i k : Nat} {s : List UInt8} (h : starAt b k = true) (hc : Com a b i (k + 1) s) : Com a b i k s := by
 obtain ⟨e, he, hs⟩ := starAt_iff.1 h
 exact ⟨hc.1, by rw [drop_at he]; exact (mB_star_cases hs).2 (Or.inl hc.2)⟩
theorem mB_take {l : List El} {i : Nat} {e : El} (h : l[i]? = some e) {c : UInt8} (hc : e.set c = true) {s : List UInt8} (hm : mB (l.drop (if e.star then i else i + 1)) s = true) : mB (l.drop i) (c :: s) = true := by
 cases hs : e.star with
 | true =>
  rw [hs, if_pos rfl] at hm
  rw [drop_at h] at hm ⊢
  exact (mB_star_cases hs).2 (Or.inr ⟨c, s, rfl, hc, hm⟩)
 | false =>
  rw [hs, if_neg (by simp)] at hm
  rw [drop_at h]
  exact (mB_one _ _ _ hs).2 ⟨c, s, rfl, hc, hm⟩
theorem Com.step {i k i' k' : Nat} {c : UInt8} {s : List UInt8} (h : stepP a b i k = some (c, i', k')) (hc : Com a b i' k' s) : Com a b i k (c :: s) := by
 unfold stepP at h
 split at h
 ·rename_i e f he hf
  split at h
  ·simp at h
  ·simp only [Option.map_eq_some_iff, Prod.mk.injEq] at h
   obtain ⟨d, hd, rfl, rfl, rfl⟩ := h
   have := (leastS_some hd).1
   rw [Bool.and_eq_true] at this
   exact ⟨mB_take he this.1 hc.1, mB_take hf this.2 hc.2⟩
 ·simp at h
/-- How a common text begins: by leaving a star, or with a byte that both take. -/
theorem Com.cases {i k : Nat} {s : List UInt8} (h : Com a b i k s) :
  (i = a.length ∧ k = b.length ∧ s = []) ∨ a.length < i ∨ b.length < k ∨ (starAt a i = true ∧ Com a b (i + 1) k s) ∨ (starAt b k = true ∧ Com a b i (k + 1) s) ∨
  (∃ c t, s = c :: t ∧ Com a b i k t) ∨ (∃ c d t i' k', s = c :: t ∧ stepP a b i k = some (d, i', k') ∧ d.toNat ≤ c.toNat ∧ Com a b i' k' t) := by
 obtain ⟨h1, h2⟩ := h
 by_cases hia : a.length < i
 ·exact Or.inr (Or.inl hia)
 by_cases hkb : b.length < k
 ·exact Or.inr (Or.inr (Or.inl hkb))
 cases ha : a[i]? with
 | none =>
  have hi : i = a.length := by have := List.getElem?_eq_none_iff.1 ha; omega
  have hs : s = [] := by rw [hi, List.drop_length] at h1; simpa [mB] using h1
  subst hs
  cases hb : b[k]? with
  | none =>
   have hk : k = b.length := by have := List.getElem?_eq_none_iff.1 hb; omega
   exact Or.inl ⟨hi, hk, rfl⟩
  | some f =>
   rw [drop_at hb] at h2
   cases hf : f.star with
   | true =>
    rcases (mB_star_cases hf).1 h2 with h3 | ⟨_, _, h3, _⟩
    ·exact Or.inr (Or.inr (Or.inr (Or.inr (Or.inl ⟨starAt_iff.2 ⟨f, hb, hf⟩, h1, h3⟩))))
    ·simp at h3
   | false =>
    obtain ⟨_, _, h3, _⟩ := (mB_one _ _ _ hf).1 h2
    simp at h3
 | some e =>
  have h1' := h1
  rw [drop_at ha] at h1
  have heat : ∀ t, e.star = true → mB (a.drop (i + 1)) t = true → mB (b.drop k) t = true → (starAt a i = true ∧ Com a b (i + 1) k t) := fun t hes hm h2 => ⟨starAt_iff.2 ⟨e, ha, hes⟩, hm, h2⟩
  have hcons : (e.star = true ∧ mB (a.drop (i + 1)) s = true) ∨ ∃ c t, s = c :: t ∧ e.set c = true ∧ mB (a.drop (if e.star then i else i + 1)) t = true := by
   cases hes : e.star with
   | true =>
    rcases (mB_star_cases hes).1 h1 with h3 | ⟨c, t, h3, h4, h5⟩
    ·exact Or.inl ⟨rfl, h3⟩
    ·exact Or.inr ⟨c, t, h3, h4, by simp only [if_true]; rw [drop_at ha]; exact h5⟩
   | false =>
    obtain ⟨c, t, h3, h4, h5⟩ := (mB_one _ _ _ hes).1 h1
    exact Or.inr ⟨c, t, h3, h4, by simpa using h5⟩
  rcases hcons with ⟨hes, hm⟩ | ⟨c, t, rfl, hc, hm⟩
  ·exact Or.inr (Or.inr (Or.inr (Or.inl (heat s hes hm h2))))
  ·cases hb : b[k]? with
   | none =>
    have hk : k = b.length := by have := List.getElem?_eq_none_iff.1 hb; omega
    rw [hk, List.drop_length] at h2
    simp [mB] at h2
   | some f =>
    have hcons2 : (f.star = true ∧ mB (b.drop (k + 1)) (c :: t) = true) ∨ (f.set c = true ∧ mB (b.drop (if f.star then k else k + 1)) t = true) := by
     have h2' := h2
     rw [drop_at hb] at h2
     cases hfs : f.star with
     | true =>
      rcases (mB_star_cases hfs).1 h2 with h3 | ⟨c', t', h3, h4, h5⟩
      ·exact Or.inl ⟨rfl, h3⟩
      ·cases h3
       exact Or.inr ⟨h4, by simp only [if_true]; rw [drop_at hb]; exact h5⟩
     | false =>
      obtain ⟨c', t', h3, h4, h5⟩ := (mB_one _ _ _ hfs).1 h2
      cases h3
      exact Or.inr ⟨h4, by simpa using h5⟩
    rcases hcons2 with ⟨hfs, hm2⟩ | ⟨hfc, hm2⟩
    ·exact Or.inr (Or.inr (Or.inr (Or.inr (Or.inl ⟨starAt_iff.2 ⟨f, hb, hfs⟩, h1', hm2⟩))))
    ·by_cases hboth : (e.star && f.star) = true
     ·rw [Bool.and_eq_true] at hboth
      rw [hboth.1, if_pos rfl] at hm
      rw [hboth.2, if_pos rfl] at hm2
      exact Or.inr (Or.inr (Or.inr (Or.inr (Or.inr (Or.inl ⟨c, t, rfl, hm, hm2⟩)))))
     ·obtain ⟨d, hd, _, hdc⟩ := leastS_of (S := fun c => e.set c && f.set c) (d := c) (by simp [hc, hfc])
      refine Or.inr (Or.inr (Or.inr (Or.inr (Or.inr (Or.inr ⟨c, d, t, (if e.star then i else i + 1), (if f.star then k else k + 1), rfl, ?_, hdc, hm, hm2⟩)))))
      unfold stepP
      rw [ha, hb]
      simp only
      rw [if_neg hboth, hd]
      rfl
theorem lenP_le_never (i k : Nat) : lenP a b i k ≤ never := by
 rw [lenP_eq]
 split
 ·exact Nat.le_trans (Nat.min_le_left _ _) (by simp [never])
 ·exact Nat.min_le_left _ _
theorem lenP_final (i k : Nat) (h : i = a.length ∧ k = b.length) : lenP a b i k = 0 := by rw [lenP_eq, if_pos h]; omega
theorem lenP_ours {i k : Nat} (h : starAt a i = true) : lenP a b i k ≤ lenP a b (i + 1) k := by
 conv => lhs; rw [lenP_eq]
 rw [if_pos h]
 omega
theorem lenP_theirs {i k : Nat} (h : starAt b k = true) : lenP a b i k ≤ lenP a b i (k + 1) := by
 conv => lhs; rw [lenP_eq]
 rw [if_pos h]
 omega
theorem lenP_step {i k i' k' : Nat} {c : UInt8} (h : stepP a b i k = some (c, i', k')) : lenP a b i k ≤ 1 + lenP a b i' k' := by
 conv => lhs; rw [lenP_eq, h]
 simp only
 omega
/-- No common text is shorter than the length. -/
theorem lenP_least : ∀ (n i k : Nat) (s : List UInt8), i ≤ a.length → k ≤ b.length → s.length + (a.length - i) + (b.length - k) ≤ n → Com a b i k s → lenP a b i k ≤ s.length
 | n, i, k, s, hi, hk, hn, h => by
  rcases h.cases with ⟨h1, h2, rfl⟩ | h1 | h1 | ⟨h1, h2⟩ | ⟨h1, h2⟩ | ⟨c, t, rfl, h2⟩ | ⟨c, d, t, i', k', rfl, h1, _, h2⟩
  ·rw [lenP_final a b i k ⟨h1, h2⟩]; omega
  ·omega
  ·omega
  ·have := starAt_lt h1
   cases n with
   | zero => omega
   | succ n => exact Nat.le_trans (lenP_ours a b h1) (lenP_least n _ _ s (by omega) hk (by omega) h2)
  ·have := starAt_lt h1
   cases n with
   | zero => omega
   | succ n => exact Nat.le_trans (lenP_theirs a b h1) (lenP_least n _ _ s hi (by omega) (by omega) h2)
  ·simp only [List.length_cons] at hn ⊢
   cases n with
   | zero => omega
   | succ n => exact Nat.le_trans (lenP_least n i k t hi hk (by omega) h2) (by omega)
  ·have hs := stepP_spec a b h1
   simp only [List.length_cons] at hn ⊢
   cases n with
   | zero => omega
   | succ n => exact Nat.le_trans (lenP_step a b h1) (by have := lenP_least n i' k' t (by omega) (by omega) (by omega) h2; omega)
theorem lenP_min {i k : Nat} {s : List UInt8} (hi : i ≤ a.length) (hk : k ≤ b.length) (h : Com a b i k s) : lenP a b i k ≤ s.length := lenP_least a b _ i k s hi hk (Nat.le_refl _) h
/-- There is a common text of that length. -/
theorem lenP_text : ∀ (n i k : Nat), a.length - i + (b.length - k) ≤ n → lenP a b i k < never → ∃ s, Com a b i k s ∧ s.length = lenP a b i k
 | n, i, k, hn, h => by
  have heq := lenP_eq a b i k
  by_cases h0 : i = a.length ∧ k = b.length
  ·refine ⟨[], ?_, by rw [lenP_final a b i k h0]; rfl⟩
   obtain ⟨rfl, rfl⟩ := h0
   exact ⟨by rw [List.drop_length]; rfl, by rw [List.drop_length]; rfl⟩
  rw [if_neg h0] at heq
  by_cases h1 : starAt a i = true ∧ lenP a b i k = lenP a b (i + 1) k
  ·have := starAt_lt h1.1
   cases n with
   | zero => omega
   | succ n =>
    obtain ⟨s, hs, hl⟩ := lenP_text n (i + 1) k (by omega) (by rw [← h1.2]; exact h)
    exact ⟨s, Com.skipOurs a b h1.1 hs, by rw [hl, h1.2]⟩
  by_cases h2 : starAt b k = true ∧ lenP a b i k = lenP a b i (k + 1)
  ·have := starAt_lt h2.1
   cases n with
   | zero => omega
   | succ n =>
    obtain ⟨s, hs, hl⟩ := lenP_text n i (k + 1) (by omega) (by rw [← h2.2]; exact h)
    exact ⟨s, Com.skipTheirs a b h2.1 hs, by rw [hl, h2.2]⟩
  cases h3 : stepP a b i k with
  | none =>
   rw [h3] at heq
   simp only at heq
   exfalso
   cases hs : starAt a i <;> cases ht : starAt b k <;> simp [hs, ht] at heq h1 h2 <;> omega
  | some t =>
   obtain ⟨c, i', k'⟩ := t
   rw [h3] at heq
   simp only at heq
   have hs' := stepP_spec a b h3
   have hl : lenP a b i k = 1 + lenP a b i' k' := by
    cases hs : starAt a i <;> cases ht : starAt b k <;> simp [hs, ht] at heq h1 h2 <;> omega
   cases n with
   | zero => omega
   | succ n =>
    obtain ⟨s, hs, hsl⟩ := lenP_text n i' k' (by omega) (by omega)
    exact ⟨c :: s, Com.step a b h3 hs, by simp; omega⟩
/-- A shortest text with a byte: some pair that is reached without a byte takes it. -/
theorem Com.takes : ∀ (n i k : Nat) (c : UInt8) (t : List UInt8) (F : Nat × Nat → Prop), i ≤ a.length → k ≤ b.length → a.length - i + (b.length - k) ≤ n → lenP a b i k = t.length + 1 →
  (∀ z, F z → starAt a z.1 = true → lenP a b (z.1 + 1) z.2 = t.length + 1 → F (z.1 + 1, z.2)) → (∀ z, F z → starAt b z.2 = true → lenP a b z.1 (z.2 + 1) = t.length + 1 → F (z.1, z.2 + 1)) →
  F (i, k) → Com a b i k (c :: t) → ∃ z d i' k', F z ∧ stepP a b z.1 z.2 = some (d, i', k') ∧ d.toNat ≤ c.toNat ∧ lenP a b i' k' = t.length ∧ Com a b i' k' t
 | n, i, k, c, t, F, hi, hk, hn, hl, h1, h2, hF, h => by
  rcases h.cases with ⟨_, _, h3⟩ | h3 | h3 | ⟨h3, h4⟩ | ⟨h3, h4⟩ | ⟨c', t', h3, h4⟩ | ⟨c', d, t', i', k', h3, h4, h5, h6⟩
  ·simp at h3
  ·omega
  ·omega
  ·have := starAt_lt h3
   have hle := lenP_min a b (by omega) hk h4
   have hge := lenP_ours a b (k := k) h3
   simp only [List.length_cons] at hle
   have he : lenP a b (i + 1) k = t.length + 1 := by omega
   cases n with
   | zero => omega
   | succ n => exact Com.takes n (i + 1) k c t F (by omega) hk (by omega) he h1 h2 (h1 (i, k) hF h3 he) h4
  ·have := starAt_lt h3
   have hle := lenP_min a b hi (by omega) h4
   have hge := lenP_theirs a b (i := i) h3
   simp only [List.length_cons] at hle
   have he : lenP a b i (k + 1) = t.length + 1 := by omega
   cases n with
   | zero => omega
   | succ n => exact Com.takes n i (k + 1) c t F hi (by omega) (by omega) he h1 h2 (h2 (i, k) hF h3 he) h4
  ·cases h3
   have := lenP_min a b hi hk h4
   omega
  ·cases h3
   have hs := stepP_spec a b h4
   have hle := lenP_min a b (by omega) (by omega) h6
   have hge := lenP_step a b h4
   exact ⟨(i, k), d, i', k', hF, h4, h5, by omega, h6⟩
end
end Go.Proofs.YtdlchlbngojljaaDoor.Gl
