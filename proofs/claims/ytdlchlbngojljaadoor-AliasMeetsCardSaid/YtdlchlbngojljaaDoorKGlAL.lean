/- The order of texts, the least of all alternatives' texts, and patterns one behind the other. -/
import Derived.Test.YtdlchlbngojljaaDoorKGlAJ
namespace Go.Proofs.YtdlchlbngojljaaDoor.Gl
open Go.RowKit

theorem lexLe_refl : ∀ s : List UInt8, lexLe s s
  | [] => trivial
  | _ :: s => Or.inr ⟨rfl, lexLe_refl s⟩
theorem lexLe_total : ∀ s t : List UInt8, lexLe s t ∨ lexLe t s
  | [], _ => Or.inl trivial
  | _ :: _, [] => Or.inr trivial
  | c :: s, d :: t => by
    rcases Nat.lt_trichotomy c.toNat d.toNat with h | h | h
    · exact Or.inl (Or.inl h)
    · have := UInt8.toNat_inj.1 h
      subst this
      rcases lexLe_total s t with k | k
      · exact Or.inl (Or.inr ⟨rfl, k⟩)
      · exact Or.inr (Or.inr ⟨rfl, k⟩)
    · exact Or.inr (Or.inl h)
theorem lexLe_trans : ∀ s t u : List UInt8, lexLe s t → lexLe t u → lexLe s u
  | [], _, _, _, _ => trivial
  | _ :: _, [], _, h, _ => h.elim
  | _ :: _, _ :: _, [], _, h => h.elim
  | c :: s, d :: t, e :: u, h, k => by
    rcases h with h | ⟨rfl, h⟩
    · rcases k with k | ⟨rfl, _⟩
      · exact Or.inl (Nat.lt_trans h k)
      · exact Or.inl h
    · rcases k with k | ⟨rfl, k⟩
      · exact Or.inl k
      · exact Or.inr ⟨rfl, lexLe_trans s t u h k⟩

theorem lexLe_less : ∀ t s : List UInt8, t.length = s.length → (lexLe t s ↔ Op.bytesLess s t = false)
  | [], [], _ => by simp [lexLe, Op.bytesLess]
  | [], _ :: _, h => by simp at h
  | _ :: _, [], h => by simp at h
  | c :: t, d :: s, h => by
    have ih := lexLe_less t s (by simpa using h)
    rw [lexLe, Op.bytesLess, Bool.or_eq_false_iff]
    rw [ih]
    constructor
    · rintro (h1 | ⟨rfl, h1⟩)
      · refine ⟨decide_eq_false fun h2 => ?_, ?_⟩
        · have : d.toNat < c.toNat := h2
          omega
        · rw [Bool.and_eq_false_iff]
          left
          rw [beq_eq_false_iff_ne]
          rintro rfl
          omega
      · refine ⟨decide_eq_false fun h2 => ?_, by rw [h1, Bool.and_false]⟩
        have : c.toNat < c.toNat := h2
        omega
    · rintro ⟨h1, h2⟩
      have h1' : ¬ d.toNat < c.toNat := fun h3 => of_decide_eq_false h1 h3
      by_cases he : c = d
      · subst he
        right
        refine ⟨rfl, ?_⟩
        simpa using h2
      · left
        have : c.toNat ≠ d.toNat := fun e => he (UInt8.toNat_inj.1 e)
        omega

def leB (t s : List UInt8) : Prop := t.length < s.length ∨ (t.length = s.length ∧ lexLe t s)
theorem leB_iff (t s : List UInt8) : lessB s t = false ↔ leB t s := by
  unfold lessB leB
  rw [Bool.or_eq_false_iff, Bool.and_eq_false_iff, decide_eq_false_iff_not, decide_eq_false_iff_not]
  constructor
  · rintro ⟨h1, h2⟩
    by_cases h : t.length = s.length
    · right
      refine ⟨h, (lexLe_less t s h).2 ?_⟩
      rcases h2 with h2 | h2
      · exact absurd h.symm h2
      · exact h2
    · left; omega
  · rintro (h | ⟨h, k⟩)
    · exact ⟨by omega, Or.inl (by omega)⟩
    · exact ⟨by omega, Or.inr ((lexLe_less t s h).1 k)⟩
theorem leB_refl (t : List UInt8) : leB t t := Or.inr ⟨rfl, lexLe_refl t⟩
theorem leB_trans {s t u : List UInt8} (h : leB s t) (k : leB t u) : leB s u := by
  rcases h with h | ⟨h, h'⟩
  · rcases k with k | ⟨k, _⟩
    · exact Or.inl (by omega)
    · exact Or.inl (by omega)
  · rcases k with k | ⟨k, k'⟩
    · exact Or.inl (by omega)
    · exact Or.inr ⟨by omega, lexLe_trans _ _ _ h' k'⟩
theorem leB_total (s t : List UInt8) : leB s t ∨ leB t s := by
  rcases Nat.lt_trichotomy s.length t.length with h | h | h
  · exact Or.inl (Or.inl h)
  · rcases lexLe_total s t with k | k
    · exact Or.inl (Or.inr ⟨h, k⟩)
    · exact Or.inr (Or.inr ⟨h.symm, k⟩)
  · exact Or.inr (Or.inl h)

/-- st is the least of the texts that are in S. -/
def MinOf (S : List UInt8 → Prop) (st : Option (List UInt8)) : Prop := match st with
  | none => ∀ s, ¬ S s
  | some t => S t ∧ ∀ s, S s → leB t s
theorem MinOf.congr {S T : List UInt8 → Prop} {st : Option (List UInt8)} (h : MinOf S st) (hi : ∀ s, S s ↔ T s) : MinOf T st := by
  have : S = T := funext fun s => propext (hi s)
  rw [← this]; exact h
theorem cmnStep_min {S : List UInt8 → Prop} {st : Option (List UInt8)} (h : MinOf S st) (a b : List El) : MinOf (fun s => S s ∨ leastB a b = some s) (cmnStep st a b) := by
  unfold cmnStep
  cases hl : leastB a b with
  | none => exact h.congr fun s => by simp
  | some t =>
    cases st with
    | none => exact ⟨Or.inr rfl, fun s hs => by
        rcases hs with hs | hs
        · exact absurd hs (h s)
        · cases hs; exact leB_refl _⟩
    | some m =>
      simp only
      cases hlt : lessB t m with
      | true =>
        have hle : leB t m := by
          rcases leB_total t m with k | k
          · exact k
          · have := (leB_iff m t).2 k
            rw [hlt] at this
            cases this
        refine ⟨Or.inr rfl, fun s hs => ?_⟩
        rcases hs with hs | hs
        · exact leB_trans hle (h.2 s hs)
        · cases hs; exact leB_refl _
      | false =>
        refine ⟨Or.inl h.1, fun s hs => ?_⟩
        rcases hs with hs | hs
        · exact h.2 s hs
        · cases hs; exact (leB_iff m t).1 hlt
theorem cmnRow_min (a : List El) : ∀ (y : List (List El)) (S : List UInt8 → Prop) (st : Option (List UInt8)), MinOf S st → MinOf (fun s => S s ∨ ∃ b ∈ y, leastB a b = some s) (cmnRow y st a)
  | [], S, st, h => h.congr fun s => by simp
  | b :: y, S, st, h => by
    have := cmnRow_min a y _ _ (cmnStep_min h a b)
    exact this.congr fun s => by simp [or_assoc]
theorem common_min (y : List (List El)) : ∀ (x : List (List El)) (S : List UInt8 → Prop) (st : Option (List UInt8)), MinOf S st → MinOf (fun s => S s ∨ ∃ a ∈ x, ∃ b ∈ y, leastB a b = some s) (x.foldl (cmnRow y) st)
  | [], S, st, h => h.congr fun s => by simp
  | a :: x, S, st, h => by
    have := common_min y x _ _ (cmnRow_min a y S st h)
    exact this.congr fun s => by simp [or_assoc]
theorem commonB_min (x y : List (List El)) : MinOf (fun s => ∃ a ∈ x, ∃ b ∈ y, leastB a b = some s) (commonB x y) :=
  (common_min y x (fun _ => False) none (fun _ h => h)).congr fun s => by simp

theorem good_hz0 {a : List El} (b : List El) (h : ∀ e ∈ a, ElGood e) : ∀ z : Pr, ∀ y, stepP a b z.1 z.2 ≠ some (0, y) := by
  intro z y hs
  unfold stepP at hs
  split at hs
  · rename_i e f he hf
    split at hs
    · simp at hs
    · simp only [Option.map_eq_some_iff, Prod.mk.injEq] at hs
      obtain ⟨c, hc, rfl, _⟩ := hs
      have h1 := (leastS_some hc).1
      rw [Bool.and_eq_true] at h1
      have := (h e (List.mem_of_getElem? he)).1.1 _ h1.1
      exact absurd this (by decide)
  · simp at hs

/-- The texts that two lists of alternatives match in common, and the least of them. -/
theorem commonB_spec {x y : List (List El)} (hx : Good x) (hy : Good y) : match commonB x y with
    | none => ∀ s, s.length < never → (x.any fun a => mB a s) = true → (y.any fun a => mB a s) = true → False
    | some t => t.length < never ∧ (x.any fun a => mB a t) = true ∧ (y.any fun a => mB a t) = true ∧ ∀ s, (x.any fun a => mB a s) = true → (y.any fun a => mB a s) = true → leB t s := by
  have hab : ∀ a ∈ x, ∀ b ∈ y, a.length + b.length < never := fun a ha b hb => by
    have h1 := (hx a ha).1
    have h2 := (hy b hb).1
    unfold never
    omega
  have hcom : ∀ s, (x.any fun a => mB a s) = true → (y.any fun a => mB a s) = true → ∃ a ∈ x, ∃ b ∈ y, Com a b 0 0 s := fun s h1 h2 => by
    obtain ⟨a, ha, h1⟩ := List.any_eq_true.1 h1
    obtain ⟨b, hb, h2⟩ := List.any_eq_true.1 h2
    exact ⟨a, ha, b, hb, h1, h2⟩
  have hsp := fun a (ha : a ∈ x) b (hb : b ∈ y) => leastB_spec a b (good_hz0 b (hx a ha).2) (hab a ha b hb)
  have hm := commonB_min x y
  cases hc : commonB x y with
  | none =>
    rw [hc] at hm
    intro s hs h1 h2
    obtain ⟨a, ha, b, hb, h⟩ := hcom s h1 h2
    have := hsp a ha b hb
    cases hl : leastB a b with
    | none => rw [hl] at this; exact this s hs h
    | some t => exact hm t ⟨a, ha, b, hb, hl⟩
  | some t =>
    rw [hc] at hm
    obtain ⟨⟨a, ha, b, hb, hl⟩, hmin⟩ := hm
    have h0 := hsp a ha b hb
    rw [hl] at h0
    obtain ⟨⟨⟨m1, m2⟩, _⟩, hlen⟩ := h0
    refine ⟨hlen, List.any_eq_true.2 ⟨a, ha, m1⟩, List.any_eq_true.2 ⟨b, hb, m2⟩, fun s h1 h2 => ?_⟩
    obtain ⟨a', ha', b', hb', h⟩ := hcom s h1 h2
    have h3 := hsp a' ha' b' hb'
    cases hl' : leastB a' b' with
    | none =>
      rw [hl'] at h3
      rcases Nat.lt_or_ge s.length never with hs | hs
      · exact absurd h (h3 s hs)
      · exact Or.inl (Nat.lt_of_lt_of_le hlen hs)
    | some u =>
      rw [hl'] at h3
      exact leB_trans (hmin u ⟨a', ha', b', hb', hl'⟩) (h3.1.2 s h)

/-! One pattern behind the other. -/

theorem firstEl_append {c : UInt8} {r z : List UInt8} {e : El} {k : Nat} (h : firstEl c r = some (e, k)) : firstEl c (r ++ z) = some (e, k) ∧ k ≤ r.length := by
  unfold firstEl at h ⊢
  split
  · rename_i h1
    rw [if_pos h1] at h
    simp only [Option.some.injEq, Prod.mk.injEq] at h
    exact ⟨by rw [h.1, h.2], by omega⟩
  · rename_i h1
    rw [if_neg h1] at h
    split
    · rename_i h2
      rw [if_pos h2] at h
      simp only [Option.some.injEq, Prod.mk.injEq] at h
      exact ⟨by rw [h.1, h.2], by omega⟩
    · rename_i h2
      rw [if_neg h2] at h
      split
      · rename_i h3
        rw [if_pos h3] at h
        split at h
        · rename_i h4
          have hm : (93 : UInt8) ∈ r := by simpa using h4
          have hi : r.idxOf 93 < r.length := List.idxOf_lt_length_iff.2 hm
          have he : (r ++ z).idxOf 93 = r.idxOf 93 := by rw [List.idxOf_append, if_pos hm]
          rw [if_pos (by simpa using Or.inl hm), he, List.take_append_of_le_length (by omega)]
          refine ⟨h, ?_⟩
          simp only [Option.map_eq_some_iff, Prod.mk.injEq] at h
          obtain ⟨_, _, _, h5⟩ := h
          omega
        · simp at h
      · rename_i h3
        rw [if_neg h3] at h
        simp only [Option.some.injEq, Prod.mk.injEq] at h
        exact ⟨by rw [h.1, h.2], by omega⟩

theorem toks_append (z : List UInt8) : ∀ (n : Nat) (p : List UInt8) (T : List (Option El)), p.length ≤ n → toks p = some T → toks (p ++ z) = (toks z).map (T ++ ·)
  | _, [], T, _, h => by
    have : T = [] := by have h' : (some [] : Option (List (Option El))) = some T := h; cases h'; rfl
    subst this
    cases hz : toks z <;> simp [hz]
  | 0, _ :: _, _, hn, _ => by simp at hn
  | n + 1, c :: r, T, hn, h => by
    simp only [List.length_cons] at hn
    rw [toks_cons] at h
    rw [List.cons_append, toks_cons]
    split at h
    · rename_i hc
      simp only [Option.map_eq_some_iff] at h
      obtain ⟨U, hU, rfl⟩ := h
      rw [if_pos hc, toks_append z n r U (by omega) hU]
      cases toks z <;> simp
    · rename_i hc
      rw [if_neg hc]
      split at h
      · simp at h
      · rename_i e k hf
        simp only [Option.map_eq_some_iff] at h
        obtain ⟨U, hU, rfl⟩ := h
        obtain ⟨hf2, hk⟩ := firstEl_append (z := z) hf
        rw [hf2]
        simp only
        rw [List.drop_append_of_le_length hk, toks_append z n (r.drop k) U (by simp; omega) hU]
        cases toks z <;> simp

theorem toks_plain : ∀ (n : Nat) (p : List UInt8) (T : List (Option El)), p.length ≤ n → (124 : UInt8) ∉ p → toks p = some T → ∃ ts : List El, T = ts.map some
  | _, [], T, _, _, h => by
    have : T = [] := by have h' : (some [] : Option (List (Option El))) = some T := h; cases h'; rfl
    exact ⟨[], this⟩
  | 0, _ :: _, _, hn, _, _ => by simp at hn
  | n + 1, c :: r, T, hn, hp, h => by
    simp only [List.length_cons] at hn
    simp only [List.mem_cons, not_or] at hp
    rw [toks_cons, if_neg (fun e => hp.1 e.symm)] at h
    split at h
    · simp at h
    · rename_i e k hf
      simp only [Option.map_eq_some_iff] at h
      obtain ⟨U, hU, rfl⟩ := h
      obtain ⟨ts, rfl⟩ := toks_plain n (r.drop k) U (by simp; omega) (fun hm => hp.2 (List.mem_of_mem_drop hm)) hU
      exact ⟨e :: ts, rfl⟩
theorem altsOf_plain (ts : List El) : altsOf (ts.map some) = [ts] := by
  induction ts with
  | nil => rfl
  | cons e r ih => simp [altsOf, ih]

theorem all_text {p : List UInt8} (h : p.all isText = true) : allIn TextSet p = true := by
  unfold allIn
  rw [← h]
  exact congrArg (fun f => p.all f) (funext text_iff)

theorem altsP_choice {p q : List UInt8} {x y : List (List El)} (hx : altsP p = some x) (hy : altsP q = some y) (hl : p.length + q.length + 1 ≤ 256) : altsP (p ++ 124 :: q) = some (x ++ y) := by
  obtain ⟨_, hpt, T, hT, rfl⟩ := altsP_parts hx
  obtain ⟨_, hqt, U, hU, rfl⟩ := altsP_parts hy
  unfold altsP
  rw [if_neg (by simp; omega), if_neg (by
    rw [all_text (by rw [List.all_append, hpt, List.all_cons, hqt]; decide)]
    simp)]
  rw [toks_append _ _ p T (Nat.le_refl _) hT, toks_cons, if_pos rfl, hU]
  simp [altsOf_none]
theorem patB_choice {p q : List UInt8} {x y : List (List El)} (hx : altsP p = some x) (hy : altsP q = some y) (hl : p.length + q.length + 1 ≤ 256) (s : List UInt8) : patB (p ++ 124 :: q) s = (patB p s || patB q s) := by
  unfold patB
  rw [altsP_choice hx hy hl, hx, hy]
  simp [List.any_append]

theorem patB_join {p q : List UInt8} {x y : List (List El)} (hx : altsP p = some x) (hy : altsP q = some y) (hl : p.length + q.length ≤ 256) (hp : (124 : UInt8) ∉ p) (hq : (124 : UInt8) ∉ q) (s : List UInt8) :
    patB (p ++ q) s = true ↔ ∃ i, i ≤ s.length ∧ patB p (s.take i) = true ∧ patB q (s.drop i) = true := by
  obtain ⟨_, hpt, T, hT, rfl⟩ := altsP_parts hx
  obtain ⟨_, hqt, U, hU, rfl⟩ := altsP_parts hy
  obtain ⟨ts, rfl⟩ := toks_plain _ p T (Nat.le_refl _) hp hT
  obtain ⟨us, rfl⟩ := toks_plain _ q U (Nat.le_refl _) hq hU
  have h : altsP (p ++ q) = some [ts ++ us] := by
    unfold altsP
    rw [if_neg (by simp; omega), if_neg (by
      rw [all_text (by rw [List.all_append, hpt, hqt]; rfl)]
      simp)]
    rw [toks_append _ _ p _ (Nat.le_refl _) hT, hU]
    simp only [Option.map_some, Option.some.injEq]
    rw [← List.map_append, altsOf_plain]
  unfold patB
  rw [h, hx, hy, altsOf_plain, altsOf_plain]
  simp only [List.any_cons, List.any_nil, Bool.or_false]
  exact mB_append ts us s
end Go.Proofs.YtdlchlbngojljaaDoor.Gl
