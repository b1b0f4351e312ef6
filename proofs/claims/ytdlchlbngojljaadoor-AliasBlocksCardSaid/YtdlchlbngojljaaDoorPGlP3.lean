/- The least common text of two alternatives: the search by pairs of places. -/
import Derived.Test.YtdlchlbngojljaaDoorPP
namespace Go.Proofs.YtdlchlbngojljaaDoor.Gl
abbrev Pr := Nat × Nat
section
variable (a b : List El)
/-- The pairs that are reached from (i, k) without a byte, and from which the length is left; not those seen. -/
def gatherF (left : Nat) : Nat → List Pr → Nat → Nat → List Pr
 | 0, _, _, _ => []
 | n + 1, seen, i, k =>
  if (i, k) ∈ seen ∨ lenP a b i k ≠ left then [] else
   (i, k) :: ((if starAt a i then gatherF left n (seen ++ [(i, k)]) (i + 1) k else []) ++
    (if starAt b k then gatherF left n (seen ++ [(i, k)] ++ (if starAt a i then gatherF left n (seen ++ [(i, k)]) (i + 1) k else [])) i (k + 1) else []))
def gatherB (left : Nat) (seen : List Pr) (i k : Nat) : List Pr := gatherF a b left (a.length - i + (b.length - k) + 1) seen i k
theorem gatherF_fuel (left : Nat) : ∀ (n m : Nat) (seen : List Pr) (i k : Nat), a.length - i + (b.length - k) < n → a.length - i + (b.length - k) < m → gatherF a b left n seen i k = gatherF a b left m seen i k
 | 0, _, _, _, _, h, _ => by omega
 | _ + 1, 0, _, _, _, _, h => by omega
 | n + 1, m + 1, seen, i, k, h1, h2 => by
  unfold gatherF
  have e1 : ∀ S, (if starAt a i then gatherF a b left n S (i + 1) k else []) = (if starAt a i then gatherF a b left m S (i + 1) k else []) := by
   intro S
   cases hs : starAt a i with
   | false => rfl
   | true =>
    have := starAt_lt hs
    simp only [if_true]
    exact gatherF_fuel left n m _ _ _ (by omega) (by omega)
  have e2 : ∀ S, (if starAt b k then gatherF a b left n S i (k + 1) else []) = (if starAt b k then gatherF a b left m S i (k + 1) else []) := by
   intro S
   cases hs : starAt b k with
   | false => rfl
   | true =>
    have := starAt_lt hs
    simp only [if_true]
    exact gatherF_fuel left n m _ _ _ (by omega) (by omega)
  rw [e1, e2]
theorem gatherB_eq (left : Nat) (seen : List Pr) (i k : Nat) : gatherB a b left seen i k =
  if (i, k) ∈ seen ∨ lenP a b i k ≠ left then [] else
   (i, k) :: ((if starAt a i then gatherB a b left (seen ++ [(i, k)]) (i + 1) k else []) ++
    (if starAt b k then gatherB a b left (seen ++ [(i, k)] ++ (if starAt a i then gatherB a b left (seen ++ [(i, k)]) (i + 1) k else [])) i (k + 1) else [])) := by
 conv => lhs; rw [gatherB, gatherF]
 have e1 : ∀ S, (if starAt a i then gatherF a b left (a.length - i + (b.length - k)) S (i + 1) k else []) = (if starAt a i then gatherB a b left S (i + 1) k else []) := by
  intro S
  cases hs : starAt a i with
  | false => rfl
  | true =>
   have := starAt_lt hs
   simp only [if_true]
   exact gatherF_fuel a b left _ _ _ _ _ (by omega) (by omega)
 have e2 : ∀ S, (if starAt b k then gatherF a b left (a.length - i + (b.length - k)) S i (k + 1) else []) = (if starAt b k then gatherB a b left S i (k + 1) else []) := by
  intro S
  cases hs : starAt b k with
  | false => rfl
  | true =>
   have := starAt_lt hs
   simp only [if_true]
   exact gatherF_fuel a b left _ _ _ _ _ (by omega) (by omega)
 rw [e1, e2]
/-- z is closed in S: what follows from it without a byte, at the same length, lies in S. -/
def closedAt (left : Nat) (S : List Pr) (z : Pr) : Prop :=
 (starAt a z.1 = true → lenP a b (z.1 + 1) z.2 = left → (z.1 + 1, z.2) ∈ S) ∧ (starAt b z.2 = true → lenP a b z.1 (z.2 + 1) = left → (z.1, z.2 + 1) ∈ S)
theorem closedAt.mono {left : Nat} {S T : List Pr} {z : Pr} (h : closedAt a b left S z) (hs : ∀ y ∈ S, y ∈ T) : closedAt a b left T z := ⟨fun h1 h2 => hs _ (h.1 h1 h2), fun h1 h2 => hs _ (h.2 h1 h2)⟩
/-- What gather finds: pairs of the length, each behind the first one; all closed; the first one too, if it has the length. -/
theorem gatherB_spec (left : Nat) : ∀ (n : Nat) (seen : List Pr) (i k : Nat), a.length - i + (b.length - k) ≤ n → i ≤ a.length → k ≤ b.length →
  (lenP a b i k = left → (i, k) ∈ seen ++ gatherB a b left seen i k) ∧
  (∀ z ∈ gatherB a b left seen i k, lenP a b z.1 z.2 = left ∧ z.1 ≤ a.length ∧ z.2 ≤ b.length ∧ (∀ s, Com a b z.1 z.2 s → Com a b i k s) ∧ closedAt a b left (seen ++ gatherB a b left seen i k) z)
 | n, seen, i, k, hn, hi, hk => by
  rw [gatherB_eq]
  by_cases h : (i, k) ∈ seen ∨ lenP a b i k ≠ left
  ·rw [if_pos h]
   refine ⟨fun hl => ?_, fun z hz => absurd hz (by simp)⟩
   rcases h with h | h
   ·simpa using h
   ·exact absurd hl h
  ·rw [if_neg h]
   have hl : lenP a b i k = left := Decidable.of_not_not fun h' => h (Or.inr h')
   generalize hn1 : (if starAt a i then gatherB a b left (seen ++ [(i, k)]) (i + 1) k else []) = n1
   generalize hn2 : (if starAt b k then gatherB a b left (seen ++ [(i, k)] ++ n1) i (k + 1) else []) = n2
   have p1 : starAt a i = true → ((lenP a b (i + 1) k = left → (i + 1, k) ∈ (seen ++ [(i, k)]) ++ n1) ∧
     (∀ z ∈ n1, lenP a b z.1 z.2 = left ∧ z.1 ≤ a.length ∧ z.2 ≤ b.length ∧ (∀ s, Com a b z.1 z.2 s → Com a b (i + 1) k s) ∧ closedAt a b left ((seen ++ [(i, k)]) ++ n1) z)) := by
    intro hs
    have hlt := starAt_lt hs
    rw [if_pos hs] at hn1
    subst hn1
    cases n with
    | zero => omega
    | succ n => exact gatherB_spec left n _ _ _ (by omega) (by omega) hk
   have p2 : starAt b k = true → ((lenP a b i (k + 1) = left → (i, k + 1) ∈ (seen ++ [(i, k)] ++ n1) ++ n2) ∧
     (∀ z ∈ n2, lenP a b z.1 z.2 = left ∧ z.1 ≤ a.length ∧ z.2 ≤ b.length ∧ (∀ s, Com a b z.1 z.2 s → Com a b i (k + 1) s) ∧ closedAt a b left ((seen ++ [(i, k)] ++ n1) ++ n2) z)) := by
    intro hs
    have hlt := starAt_lt hs
    rw [if_pos hs] at hn2
    subst hn2
    cases n with
    | zero => omega
    | succ n => exact gatherB_spec left n _ _ _ (by omega) hi (by omega)
   have q1 : ∀ z ∈ n1, starAt a i = true := by
    intro z hz
    cases hs : starAt a i with
    | true => rfl
    | false => rw [hs] at hn1; simp at hn1; rw [hn1] at hz; simp at hz
   have q2 : ∀ z ∈ n2, starAt b k = true := by
    intro z hz
    cases hs : starAt b k with
    | true => rfl
    | false => rw [hs] at hn2; simp at hn2; rw [hn2] at hz; simp at hz
   have hsub1 : ∀ y ∈ (seen ++ [(i, k)]) ++ n1, y ∈ seen ++ (i, k) :: (n1 ++ n2) := by
    intro y hy; simp only [List.mem_append, List.mem_cons, List.not_mem_nil, or_false] at hy ⊢; rcases hy with (h | h) | h <;> simp [h]
   have hsub2 : ∀ y ∈ (seen ++ [(i, k)] ++ n1) ++ n2, y ∈ seen ++ (i, k) :: (n1 ++ n2) := by
    intro y hy; simp only [List.mem_append, List.mem_cons, List.not_mem_nil, or_false] at hy ⊢; rcases hy with ((h | h) | h) | h <;> simp [h]
   refine ⟨fun _ => by simp, fun z hz => ?_⟩
   rw [List.mem_cons, List.mem_append] at hz
   rcases hz with rfl | hz | hz
   ·refine ⟨hl, hi, hk, fun _ h => h, fun hs h' => ?_, fun hs h' => ?_⟩
    ·exact hsub1 _ ((p1 hs).1 h')
    ·exact hsub2 _ ((p2 hs).1 h')
   ·have hs := q1 z hz
    obtain ⟨r1, r2, r3, r4, r5⟩ := (p1 hs).2 z hz
    exact ⟨r1, r2, r3, fun s h' => Com.skipOurs a b hs (r4 s h'), r5.mono a b hsub1⟩
   ·have hs := q2 z hz
    obtain ⟨r1, r2, r3, r4, r5⟩ := (p2 hs).2 z hz
    exact ⟨r1, r2, r3, fun s h' => Com.skipTheirs a b hs (r4 s h'), r5.mono a b hsub2⟩
/-- The pairs of a list gathered, one after the other. -/
def gatherAll (left : Nat) (seen : List Pr) : List Pr → List Pr
 | [] => []
 | z :: r => gatherB a b left seen z.1 z.2 ++ gatherAll left (seen ++ gatherB a b left seen z.1 z.2) r
theorem gatherAll_snoc (left : Nat) : ∀ (seen : List Pr) (l : List Pr) (z : Pr), gatherAll a b left seen (l ++ [z]) = gatherAll a b left seen l ++ gatherB a b left (seen ++ gatherAll a b left seen l) z.1 z.2
 | seen, [], z => by simp [gatherAll]
 | seen, y :: r, z => by
  rw [List.cons_append, gatherAll, gatherAll_snoc left _ r z, gatherAll]
  simp [List.append_assoc]
theorem gatherAll_spec (left : Nat) : ∀ (seen : List Pr) (l : List Pr), (∀ z ∈ l, z.1 ≤ a.length ∧ z.2 ≤ b.length ∧ lenP a b z.1 z.2 = left) →
  (∀ z ∈ l, z ∈ seen ++ gatherAll a b left seen l) ∧
  (∀ z ∈ gatherAll a b left seen l, lenP a b z.1 z.2 = left ∧ z.1 ≤ a.length ∧ z.2 ≤ b.length ∧ (∀ s, Com a b z.1 z.2 s → ∃ y ∈ l, Com a b y.1 y.2 s) ∧ closedAt a b left (seen ++ gatherAll a b left seen l) z)
 | seen, [], _ => ⟨fun _ h => absurd h (by simp), fun _ h => absurd h (by simp [gatherAll])⟩
 | seen, y :: r, hall => by
  have hy := hall y List.mem_cons_self
  obtain ⟨g1, g2⟩ := gatherB_spec a b left _ seen y.1 y.2 (Nat.le_refl _) hy.1 hy.2.1
  obtain ⟨i1, i2⟩ := gatherAll_spec left (seen ++ gatherB a b left seen y.1 y.2) r fun z hz => hall z (List.mem_cons_of_mem _ hz)
  rw [gatherAll]
  have hsub : ∀ x ∈ seen ++ gatherB a b left seen y.1 y.2, x ∈ seen ++ (gatherB a b left seen y.1 y.2 ++ gatherAll a b left (seen ++ gatherB a b left seen y.1 y.2) r) := by
   intro x hx; rw [← List.append_assoc]; exact List.mem_append_left _ hx
  refine ⟨fun z hz => ?_, fun z hz => ?_⟩
  ·rcases List.mem_cons.1 hz with rfl | hz
   ·exact hsub _ (g1 hy.2.2)
   ·rw [← List.append_assoc]; exact i1 z hz
  ·rcases List.mem_append.1 hz with hz | hz
   ·obtain ⟨r1, r2, r3, r4, r5⟩ := g2 z hz
    exact ⟨r1, r2, r3, fun s h => ⟨y, List.mem_cons_self, r4 s h⟩, r5.mono a b hsub⟩
   ·obtain ⟨r1, r2, r3, r4, r5⟩ := i2 z hz
    refine ⟨r1, r2, r3, fun s h => ?_, ?_⟩
    ·obtain ⟨x, hx, hc⟩ := r4 s h; exact ⟨x, List.mem_cons_of_mem _ hx, hc⟩
    ·rw [← List.append_assoc]; exact r5
/-- One pair of the front, in the search of the least byte. -/
def advStep (left : Nat) (st : UInt8 × List Pr) (z : Pr) : UInt8 × List Pr := match stepP a b z.1 z.2 with
 | none => st
 | some (c, i, k) => if lenP a b i k ≠ left ∨ (st.2 ≠ [] ∧ st.1.toNat < c.toNat) then st else if c = st.1 then (c, st.2 ++ [(i, k)]) else (c, [(i, k)])
def advB (left : Nat) (front : List Pr) : UInt8 × List Pr := front.foldl (advStep a b left) (0, [])
/-- What the search of the least byte has found, behind the pairs l. -/
def AdvInv (left : Nat) (l : List Pr) (st : UInt8 × List Pr) : Prop :=
 (∀ y ∈ st.2, ∃ z ∈ l, stepP a b z.1 z.2 = some (st.1, y)) ∧ (∀ y ∈ st.2, lenP a b y.1 y.2 = left) ∧
 (∀ z ∈ l, ∀ c y, stepP a b z.1 z.2 = some (c, y) → lenP a b y.1 y.2 = left → st.2 ≠ [] ∧ st.1.toNat ≤ c.toNat ∧ (c = st.1 → y ∈ st.2)) ∧ (st.2 = [] → st.1 = 0)
theorem advStep_inv (hz0 : ∀ z : Pr, ∀ y, stepP a b z.1 z.2 ≠ some (0, y)) (left : Nat) (l : List Pr) (st : UInt8 × List Pr) (z : Pr) (h : AdvInv a b left l st) : AdvInv a b left (l ++ [z]) (advStep a b left st z) := by
 obtain ⟨h1, h2, h3, h4⟩ := h
 unfold advStep
 cases hs : stepP a b z.1 z.2 with
 | none =>
  refine ⟨fun y hy => ?_, h2, fun x hx c y hx2 hy => ?_, h4⟩
  ·obtain ⟨x, hx, he⟩ := h1 y hy; exact ⟨x, List.mem_append_left _ hx, he⟩
  ·rcases List.mem_append.1 hx with hx | hx
   ·exact h3 x hx c y hx2 hy
   ·rw [List.mem_singleton] at hx; subst hx; rw [hs] at hx2; simp at hx2
 | some t =>
  obtain ⟨c, i, k⟩ := t
  simp only
  split
  ·rename_i hc
   refine ⟨fun y hy => ?_, h2, fun x hx d y hx2 hy => ?_, h4⟩
   ·obtain ⟨x, hx, he⟩ := h1 y hy; exact ⟨x, List.mem_append_left _ hx, he⟩
   ·rcases List.mem_append.1 hx with hx | hx
    ·exact h3 x hx d y hx2 hy
    ·rw [List.mem_singleton] at hx
     subst hx
     rw [hs] at hx2
     simp only [Option.some.injEq, Prod.mk.injEq] at hx2
     obtain ⟨rfl, rfl⟩ := hx2
     rcases hc with hc | ⟨hc1, hc2⟩
     ·exact absurd hy hc
     ·exact ⟨hc1, by omega, fun e => by rw [e] at hc2; omega⟩
  ·rename_i hc
   rw [not_or] at hc
   have hl : lenP a b i k = left := Decidable.of_not_not hc.1
   split
   ·rename_i hce
    have hne : st.2 ≠ [] := fun e => by
     have := h4 e
     rw [this] at hce
     rw [hce] at hs
     exact hz0 z _ hs
    refine ⟨fun y hy => ?_, fun y hy => ?_, fun x hx d y hx2 hy => ?_, fun e => absurd e (by simp)⟩
    ·simp only [List.mem_append, List.mem_singleton] at hy
     rcases hy with hy | rfl
     ·obtain ⟨x, hx, he⟩ := h1 y hy; exact ⟨x, List.mem_append_left _ hx, by simp only; rw [hce]; exact he⟩
     ·exact ⟨z, by simp, hs⟩
    ·simp only [List.mem_append, List.mem_singleton] at hy
     rcases hy with hy | rfl
     ·exact h2 y hy
     ·exact hl
    ·rcases List.mem_append.1 hx with hx | hx
     ·obtain ⟨q1, q2, q3⟩ := h3 x hx d y hx2 hy
      simp only
      rw [hce]
      exact ⟨by simp, q2, fun e => List.mem_append_left _ (q3 e)⟩
     ·rw [List.mem_singleton] at hx
      subst hx
      rw [hs] at hx2
      simp only [Option.some.injEq, Prod.mk.injEq] at hx2
      obtain ⟨rfl, rfl⟩ := hx2
      exact ⟨by simp, Nat.le_refl _, fun _ => by simp⟩
   ·rename_i hce
    refine ⟨fun y hy => ?_, fun y hy => ?_, fun x hx d y hx2 hy => ?_, fun e => absurd e (by simp)⟩
    ·rw [List.mem_singleton] at hy; subst hy; exact ⟨z, by simp, hs⟩
    ·rw [List.mem_singleton] at hy; subst hy; exact hl
    ·rcases List.mem_append.1 hx with hx | hx
     ·obtain ⟨q1, q2, q3⟩ := h3 x hx d y hx2 hy
      have hlt : c.toNat ≤ st.1.toNat := by
       rcases Nat.lt_or_ge st.1.toNat c.toNat with h' | h'
       ·exact absurd ⟨q1, h'⟩ hc.2
       ·exact h'
      have hlt2 : c.toNat ≠ st.1.toNat := fun e => hce (UInt8.toNat_inj.1 e)
      exact ⟨by simp, by simp only; omega, fun e => by simp only at e; rw [e] at q2; omega⟩
     ·rw [List.mem_singleton] at hx
      subst hx
      rw [hs] at hx2
      simp only [Option.some.injEq, Prod.mk.injEq] at hx2
      obtain ⟨rfl, rfl⟩ := hx2
      exact ⟨by simp, Nat.le_refl _, fun _ => by simp⟩
theorem advB_inv (hz0 : ∀ z : Pr, ∀ y, stepP a b z.1 z.2 ≠ some (0, y)) (left : Nat) (front : List Pr) : AdvInv a b left front (advB a b left front) := by
 have key : ∀ (r l : List Pr) (st : UInt8 × List Pr), AdvInv a b left l st → AdvInv a b left (l ++ r) (r.foldl (advStep a b left) st) := by
  intro r
  induction r with
  | nil => intro l st h; simpa using h
  | cons z r ih =>
   intro l st h
   rw [List.foldl_cons, show l ++ z :: r = (l ++ [z]) ++ r from by simp]
   exact ih _ _ (advStep_inv a b hz0 left l st z h)
 have := key front [] (0, []) ⟨fun y hy => absurd hy (by simp), fun y hy => absurd hy (by simp), fun z hz => absurd hz (by simp), fun _ => rfl⟩
 simpa [advB] using this
/-- The text, byte by byte: front has all pairs that the text so far leads to. -/
def loopB : Nat → List Pr → List Pr → List UInt8
 | 0, _, _ => []
 | left + 1, front, seen => (advB a b left front).1 :: loopB left (gatherAll a b left seen (advB a b left front).2) (seen ++ gatherAll a b left seen (advB a b left front).2)
def leastB : Option (List UInt8) := if lenP a b 0 0 = never then none else some (loopB a b (lenP a b 0 0) (gatherB a b (lenP a b 0 0) [] 0 0) ([] ++ gatherB a b (lenP a b 0 0) [] 0 0))
/-- Byte by byte less, or the same. -/
def lexLe : List UInt8 → List UInt8 → Prop
 | [], _ => True
 | _ :: _, [] => False
 | c :: s, d :: t => c.toNat < d.toNat ∨ (c = d ∧ lexLe s t)
structure FrontInv (left : Nat) (front seen : List Pr) : Prop where
 ne : front ≠ []
 len : ∀ z ∈ front, lenP a b z.1 z.2 = left
 fit : ∀ z ∈ front, z.1 ≤ a.length ∧ z.2 ≤ b.length
 closed : ∀ z ∈ front, closedAt a b left front z
 old : ∀ z ∈ seen, left ≤ lenP a b z.1 z.2
theorem loopB_spec (hz0 : ∀ z : Pr, ∀ y, stepP a b z.1 z.2 ≠ some (0, y)) : ∀ (left : Nat) (front seen : List Pr), FrontInv a b left front seen → left < never →
  (loopB a b left front seen).length = left ∧ (∃ z ∈ front, Com a b z.1 z.2 (loopB a b left front seen)) ∧
  (∀ z ∈ front, ∀ s, Com a b z.1 z.2 s → s.length = left → lexLe (loopB a b left front seen) s)
 | 0, front, seen, h, hn => by
  refine ⟨rfl, ?_, fun z _ s _ _ => trivial⟩
  obtain ⟨z, hz⟩ := List.exists_mem_of_ne_nil _ h.ne
  obtain ⟨s, hs, hl⟩ := lenP_text a b _ z.1 z.2 (Nat.le_refl _) (by rw [h.len z hz]; exact hn)
  rw [h.len z hz] at hl
  have : s = [] := List.eq_nil_of_length_eq_zero hl
  subst this
  exact ⟨z, hz, hs⟩
 | left + 1, front, seen, h, hn => by
  obtain ⟨v1, v2, v3, v4⟩ := advB_inv a b hz0 left front
  have htakes : ∀ z ∈ front, ∀ c t, Com a b z.1 z.2 (c :: t) → t.length = left → ∃ x ∈ front, ∃ d y, stepP a b x.1 x.2 = some (d, y) ∧ d.toNat ≤ c.toNat ∧ lenP a b y.1 y.2 = left ∧ Com a b y.1 y.2 t := by
   intro z hz c t hc hl
   have hf := h.fit z hz
   obtain ⟨x, d, i', k', hx, h1, h2, h3, h4⟩ := Com.takes a b _ z.1 z.2 c t (· ∈ front) hf.1 hf.2 (Nat.le_refl _) (by rw [h.len z hz, hl]) (fun x hx h1 h2 => (h.closed x hx).1 h1 (by rw [h2, hl])) (fun x hx h1 h2 => (h.closed x hx).2 h1 (by rw [h2, hl])) hz hc
   exact ⟨x, hx, d, (i', k'), h1, h2, by rw [← hl]; exact h3, h4⟩
  have hnext : (advB a b left front).2 ≠ [] := by
   obtain ⟨z, hz⟩ := List.exists_mem_of_ne_nil _ h.ne
   obtain ⟨s, hs, hl⟩ := lenP_text a b _ z.1 z.2 (Nat.le_refl _) (by rw [h.len z hz]; exact hn)
   rw [h.len z hz] at hl
   cases s with
   | nil => simp at hl
   | cons c t =>
    obtain ⟨x, hx, d, y, h1, _, h3, _⟩ := htakes z hz c t hs (by simpa using hl)
    exact (v3 x hx d y h1 h3).1
  have hfit : ∀ y ∈ (advB a b left front).2, y.1 ≤ a.length ∧ y.2 ≤ b.length ∧ lenP a b y.1 y.2 = left := by
   intro y hy
   obtain ⟨z, _, hs⟩ := v1 y hy
   have := stepP_spec a b (i' := y.1) (k' := y.2) hs
   exact ⟨this.2.2.2.2.1, this.2.2.2.2.2.1, v2 y hy⟩
  obtain ⟨g1, g2⟩ := gatherAll_spec a b left seen _ hfit
  have hnew : ∀ z ∈ seen ++ gatherAll a b left seen (advB a b left front).2, lenP a b z.1 z.2 = left → z ∈ gatherAll a b left seen (advB a b left front).2 := by
   intro z hz hl
   rcases List.mem_append.1 hz with hz | hz
   ·have := h.old z hz; omega
   ·exact hz
  have hinv : FrontInv a b left (gatherAll a b left seen (advB a b left front).2) (seen ++ gatherAll a b left seen (advB a b left front).2) := by
   refine ⟨?_, fun z hz => (g2 z hz).1, fun z hz => ⟨(g2 z hz).2.1, (g2 z hz).2.2.1⟩, fun z hz => ?_, fun z hz => ?_⟩
   ·obtain ⟨y, hy⟩ := List.exists_mem_of_ne_nil _ hnext
    exact List.ne_nil_of_mem (hnew y (g1 y hy) (hfit y hy).2.2)
   ·have := (g2 z hz).2.2.2.2
    exact ⟨fun h1 h2 => hnew _ (this.1 h1 h2) h2, fun h1 h2 => hnew _ (this.2 h1 h2) h2⟩
   ·rcases List.mem_append.1 hz with hz | hz
    ·have := h.old z hz; omega
    ·rw [(g2 z hz).1]; exact Nat.le_refl _
  obtain ⟨i1, ⟨z, hz, i2⟩, i3⟩ := loopB_spec hz0 left _ _ hinv (by omega)
  rw [loopB]
  refine ⟨by simp [i1], ?_, fun x hx s hs hl => ?_⟩
  ·obtain ⟨y, hy, hc⟩ := (g2 z hz).2.2.2.1 _ i2
   obtain ⟨x, hx, hst⟩ := v1 y hy
   exact ⟨x, hx, Com.step a b (i' := y.1) (k' := y.2) hst hc⟩
  ·cases s with
   | nil => simp at hl
   | cons c t =>
    simp only [List.length_cons, Nat.add_right_cancel_iff] at hl
    obtain ⟨z', hz', d, y, h1, h2, h3, h4⟩ := htakes x hx c t hs hl
    obtain ⟨q1, q2, q3⟩ := v3 z' hz' d y h1 h3
    by_cases he : (advB a b left front).1 = c
    ·right
     refine ⟨he, i3 y (hnew y (g1 y (q3 ?_)) h3) t h4 hl⟩
     rw [← he] at h2
     exact UInt8.toNat_inj.1 (by omega)
    ·left
     have : (advB a b left front).1.toNat ≠ c.toNat := fun e => he (UInt8.toNat_inj.1 e)
     omega
/-- t is the least text that both alternatives match. -/
def IsLeast (t : List UInt8) : Prop := Com a b 0 0 t ∧ ∀ s, Com a b 0 0 s → t.length < s.length ∨ (t.length = s.length ∧ lexLe t s)
theorem leastB_spec (hz0 : ∀ z : Pr, ∀ y, stepP a b z.1 z.2 ≠ some (0, y)) (_hab : a.length + b.length < never) : match leastB a b with
  | none => ∀ s, s.length < never → ¬ Com a b 0 0 s
  | some t => IsLeast a b t ∧ t.length < never := by
 unfold leastB
 by_cases h : lenP a b 0 0 = never
 ·rw [if_pos h]
  intro s hl hs
  have := lenP_min a b (Nat.zero_le _) (Nat.zero_le _) hs
  omega
 ·rw [if_neg h]
  have hlt : lenP a b 0 0 < never := by have := lenP_le_never a b 0 0; omega
  obtain ⟨g1, g2⟩ := gatherB_spec a b (lenP a b 0 0) _ [] 0 0 (Nat.le_refl _) (Nat.zero_le _) (Nat.zero_le _)
  rw [List.nil_append] at g1
  have hinv : FrontInv a b (lenP a b 0 0) (gatherB a b (lenP a b 0 0) [] 0 0) ([] ++ gatherB a b (lenP a b 0 0) [] 0 0) := by
   refine ⟨List.ne_nil_of_mem (g1 rfl), fun z hz => (g2 z hz).1, fun z hz => ⟨(g2 z hz).2.1, (g2 z hz).2.2.1⟩, fun z hz => by have := (g2 z hz).2.2.2.2; rwa [List.nil_append] at this, fun z hz => ?_⟩
   rw [List.nil_append] at hz
   rw [(g2 z hz).1]
   exact Nat.le_refl _
  obtain ⟨i1, ⟨z, hz, i2⟩, i3⟩ := loopB_spec a b hz0 _ _ _ hinv hlt
  refine ⟨⟨(g2 z hz).2.2.2.1 _ i2, fun s hs => ?_⟩, by rw [i1]; exact hlt⟩
  have := lenP_min a b (Nat.zero_le _) (Nat.zero_le _) hs
  rw [i1]
  rcases Nat.lt_or_ge (lenP a b 0 0) s.length with h' | h'
  ·exact Or.inl h'
  ·exact Or.inr ⟨by omega, i3 (0, 0) (g1 rfl) s hs (by omega)⟩
end
end Go.Proofs.YtdlchlbngojljaaDoor.Gl
