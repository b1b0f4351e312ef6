/- Tokens of lines, on lists of bytes: whole lines. Plain facts: no memory, no seat. -/
import Derived.Test.YtccmlodocfpbhaaDoorT1
namespace Go.Proofs.YtccmlodocfpbhaaDoor

/-- What a line's bytes may be. -/
def lnCh (b : UInt8) : Bool := prCh b || b == 9
theorem opL_good {k n s q : List UInt8} {x : Tok} (hk : k ≠ []) (hk1 : k.all upCh = true) (hn : n.all nmCh = true) (hs : s.all lnCh = true) (h : opL k n s = .ok x q) : Good x ∧ ∃ p, s = p ++ q := by
  unfold opL at h
  split at h
  · cases h
  · rename_i o ho
    have hom : o ∈ opsL := List.mem_of_find?_eq_some ho
    have hop := List.find?_some ho
    split at h
    · rename_i r hr
      split at h
      · cases h
      · cases h
      · rename_i v q' hv
        cases h
        have hsr : s = o ++ 34 :: r := by
          have := List.prefix_iff_eq_append.1 (List.isPrefixOf_iff_prefix.1 hop)
          rw [← this, hr]
        have hr2 : r.all lnCh = true := by
          rw [hsr, List.all_append, List.all_cons] at hs
          simp only [Bool.and_eq_true] at hs
          exact hs.2.2
        obtain ⟨g, ⟨p, hp⟩, _⟩ := valL_good r.length r v q (Nat.le_refl _) hr2 hv
        exact ⟨⟨hk, hk1, hn, hom, g⟩, o ++ 34 :: (p ++ [34]), by rw [hsr, hp]; simp⟩
    · cases h
theorem all_suffix {p : UInt8 → Bool} {s a b : List UInt8} (h : s.all p = true) (e : a ++ b = s) : b.all p = true := by
  rw [← e, List.all_append, Bool.and_eq_true] at h
  exact h.2
/-- WHAT IS READ CAN BE WRITTEN. -/
theorem tokenL_good {s q : List UInt8} {x : Tok} (hs : s.all lnCh = true) (h : tokenL s = .ok x q) : Good x ∧ ∃ p, s = p ++ q ∧ p ≠ [] := by
  obtain ⟨e1, u1, _⟩ := spanL_eq upCh s
  unfold tokenL at h
  split at h
  · cases h
  · rename_i hk
    have hr := all_suffix hs e1
    have fin : ∀ t : List UInt8, (∃ p, (spanL upCh s).2 = p ++ t) → ∃ p, s = p ++ t ∧ p ≠ [] := fun t ⟨p, hp⟩ => ⟨(spanL upCh s).1 ++ p, by rw [List.append_assoc, ← hp, e1], fun e => hk (List.append_eq_nil_iff.1 e).1⟩
    split at h
    · rename_i hnil
      rw [hnil] at hr fin
      obtain ⟨g, hp⟩ := opL_good hk u1 rfl hr h
      exact ⟨g, fin q hp⟩
    · rename_i c s1 hc
      rw [hc] at hr fin
      split at h
      · unfold nameL at h
        obtain ⟨e2, u2, _⟩ := spanL_eq nmCh s1
        split at h
        · cases h
        · rename_i c2 s2 hc2
          split at h
          · cases h
          · split at h
            · have hs1 : s1.all lnCh = true := by
                rw [List.all_cons, Bool.and_eq_true] at hr
                exact hr.2
              have h2 := all_suffix hs1 e2
              rw [hc2, List.all_cons, Bool.and_eq_true] at h2
              obtain ⟨g, p, hp⟩ := opL_good hk u1 u2 h2.2 h
              exact ⟨g, fin q ⟨c :: ((spanL nmCh s1).1 ++ c2 :: p), by
                have : s1 = (spanL nmCh s1).1 ++ c2 :: (p ++ q) := by rw [← hp, ← hc2, e2]
                rw [List.cons_append, List.append_assoc, List.cons_append, ← this]⟩⟩
            · cases h
      · obtain ⟨g, hp⟩ := opL_good hk u1 rfl hr h
        exact ⟨g, fin q hp⟩

def sepCh (b : UInt8) : Bool := b == 32 || b == 9 || b == 44
def trimL (s : List UInt8) : List UInt8 := s.dropWhile sepCh
/-- The tokens of what is left of a line. -/
def tokensF : Nat → List UInt8 → Rd (List Tok)
  | 0, _ => .bad
  | f + 1, s => if s = [] then .ok [] [] else
    match tokenL s with
    | .bad => .bad
    | .cut => .cut
    | .ok x r => if r ≠ [] ∧ trimL r = r then .bad else
      match tokensF f (trimL r) with
      | .bad => .bad
      | .cut => .cut
      | .ok l q => .ok (x :: l) q
/-- The tokens of a line (whose bytes are those of lines). -/
def tokensL (s : List UInt8) : Rd (List Tok) := tokensF (s.length + 1) (trimL s)
/-- Tokens with what stands behind each. -/
def lineL : List (Tok × List UInt8) → List UInt8
  | [] => []
  | (x, sp) :: l => fmtT x ++ (sp ++ lineL l)
/-- All that stands between tokens is separators, and something stands between two. -/
def Seps : List (Tok × List UInt8) → Prop
  | [] => True
  | [(x, sp)] => Good x ∧ sp.all sepCh = true
  | (x, sp) :: y :: l => Good x ∧ sp.all sepCh = true ∧ sp ≠ [] ∧ Seps (y :: l)
theorem fmtT_head {x : Tok} (h : Good x) : ∃ b t, fmtT x = b :: t ∧ sepCh b = false := by
  cases hk : x.key with
  | nil => exact absurd hk h.k0
  | cons b t =>
    have := h.k1
    rw [hk, List.all_cons, Bool.and_eq_true] at this
    refine ⟨b, _, by unfold fmtT; rw [hk, List.cons_append], ?_⟩
    cases e : sepCh b with
    | false => rfl
    | true =>
      simp only [sepCh, Bool.or_eq_true, beq_iff_eq] at e
      rcases e with (rfl | rfl) | rfl <;> exact absurd this.1 (by decide)
theorem trimL_sep : ∀ (sp r : List UInt8), sp.all sepCh = true → trimL (sp ++ r) = trimL r
  | [], _, _ => rfl
  | b :: sp, r, h => by
    rw [List.all_cons, Bool.and_eq_true] at h
    have ih := trimL_sep sp r h.2
    unfold trimL at ih ⊢
    rw [List.cons_append, List.dropWhile_cons, if_pos h.1, ih]
theorem trimL_fmt {x : Tok} (h : Good x) (r : List UInt8) : trimL (fmtT x ++ r) = fmtT x ++ r := by
  obtain ⟨b, t, hb, hs⟩ := fmtT_head h
  unfold trimL
  rw [hb, List.cons_append, List.dropWhile_cons, hs]
  rfl
/-- THE TOKENS OF A LINE OF TOKENS, WHATEVER SEPARATORS STAND BETWEEN THEM AND BEHIND THEM, ARE THESE TOKENS. -/
theorem tokensF_line : ∀ (l : List (Tok × List UInt8)) (f : Nat), Seps l → l.length < f → tokensF f (lineL l) = .ok (l.map Prod.fst) []
  | [], f + 1, _, _ => by simp [tokensF, lineL]
  | [(x, sp)], f + 1, h, hf => by
    obtain ⟨b, t, hb, _⟩ := fmtT_head h.1
    have hne : ¬ (lineL [(x, sp)] = []) := by unfold lineL; rw [hb]; simp
    have ht : trimL sp = [] := by have := trimL_sep sp [] h.2; rw [List.append_nil] at this; rw [this]; rfl
    rw [tokensF, if_neg hne]
    simp only [lineL, List.append_nil, tokenL_fmt h.1, ht]
    rw [if_neg (by rintro ⟨h1, h2⟩; exact h1 h2.symm)]
    match f, hf with
    | f + 1, _ => simp [tokensF]
  | (x, sp) :: (y, sq) :: l, f + 1, h, hf => by
    obtain ⟨g, hs, hn, hr⟩ := h
    obtain ⟨b, t, hb, _⟩ := fmtT_head g
    have hne : ¬ (lineL ((x, sp) :: (y, sq) :: l) = []) := by unfold lineL; rw [hb]; simp
    have gy : Good y := by
      match l, hr with
      | [], hr => exact hr.1
      | _ :: _, hr => exact hr.1
    have ih := tokensF_line ((y, sq) :: l) f hr (by simp at hf ⊢; omega)
    have ht : trimL (sp ++ lineL ((y, sq) :: l)) = lineL ((y, sq) :: l) := by rw [trimL_sep _ _ hs]; exact trimL_fmt gy _
    rw [tokensF, if_neg hne]
    rw [show lineL ((x, sp) :: (y, sq) :: l) = fmtT x ++ (sp ++ lineL ((y, sq) :: l)) from rfl, tokenL_fmt g]
    simp only [ht]
    rw [if_neg (by
      rintro ⟨_, e⟩
      have := congrArg List.length e
      rw [List.length_append] at this
      cases hsp : sp with
      | nil => exact hn hsp
      | cons c sp' => rw [hsp] at this; simp at this), ih]
    rfl
/-- The line of tokens. -/
def fmtL : List Tok → List UInt8
  | [] => []
  | [x] => fmtT x
  | x :: y :: l => fmtT x ++ 44 :: 32 :: fmtL (y :: l)
theorem fmtL_line : ∀ l : List Tok, (∀ x ∈ l, Good x) → ∃ m, lineL m = fmtL l ∧ Seps m ∧ m.map Prod.fst = l ∧ m.length = l.length
  | [], _ => ⟨[], rfl, trivial, rfl, rfl⟩
  | [x], h => ⟨[(x, [])], by simp [lineL, fmtL], ⟨h x (by simp), rfl⟩, rfl, rfl⟩
  | x :: y :: l, h => by
    obtain ⟨m, h1, h2, h3, h4⟩ := fmtL_line (y :: l) fun z hz => h z (by simp at hz ⊢; exact .inr hz)
    match m, h1, h2, h3, h4 with
    | p :: m, h1, h2, h3, h4 =>
      refine ⟨(x, [44, 32]) :: p :: m, ?_, ⟨h x (by simp), rfl, by simp, h2⟩, by rw [List.map_cons, h3], by rw [List.length_cons, h4]; rfl⟩
      rw [show lineL ((x, [44, 32]) :: p :: m) = fmtT x ++ ([44, 32] ++ lineL (p :: m)) from rfl, h1]
      rfl
/-- THE TOKENS OF THE LINE OF TOKENS ARE THESE TOKENS. -/
theorem tokensF_fmt {l : List Tok} (h : ∀ x ∈ l, Good x) {f : Nat} (hf : l.length < f) : tokensF f (fmtL l) = .ok l [] := by
  obtain ⟨m, h1, h2, h3, h4⟩ := fmtL_line l h
  rw [← h1, tokensF_line m f h2 (by omega), h3]
/-- All tokens of a line can be written. -/
theorem tokensF_good : ∀ (f : Nat) (s : List UInt8) (l : List Tok) (q : List UInt8), s.all lnCh = true → tokensF f s = .ok l q → ∀ x ∈ l, Good x
  | 0, _, _, _, _, h => by cases h
  | f + 1, s, l, q, hs, h => by
    rw [tokensF] at h
    split at h
    · cases h
      intro x hx
      cases hx
    · split at h
      · cases h
      · cases h
      · rename_i x r hx
        obtain ⟨g, p, hp, _⟩ := tokenL_good hs hx
        split at h
        · cases h
        · split at h
          · cases h
          · cases h
          · rename_i l' q' hl
            cases h
            have hr : r.all lnCh = true := all_suffix hs hp.symm
            have ht : (trimL r).all lnCh = true := List.all_eq_true.2 fun b hb => List.all_eq_true.1 hr b ((List.dropWhile_sublist _).mem hb)
            intro z hz
            rcases List.mem_cons.1 hz with rfl | hz
            · exact g
            · exact tokensF_good f (trimL r) l' q ht hl z hz
theorem fmtL_len : ∀ l : List Tok, (∀ x ∈ l, Good x) → l.length ≤ (fmtL l).length
  | [], _ => by simp
  | [x], h => by
    obtain ⟨b, t, hb, _⟩ := fmtT_head (h x (by simp))
    simp [fmtL, hb]
  | x :: y :: l, h => by
    have := fmtL_len (y :: l) fun z hz => h z (by simp at hz ⊢; exact .inr hz)
    simp only [fmtL, List.length_append, List.length_cons] at this ⊢
    omega
theorem trimL_fmtL : ∀ l : List Tok, (∀ x ∈ l, Good x) → trimL (fmtL l) = fmtL l
  | [], _ => rfl
  | [x], h => by
    have := trimL_fmt (h x (by simp)) []
    rwa [List.append_nil] at this
  | x :: y :: l, h => trimL_fmt (h x (by simp)) _
/-- THE TOKENS OF THE LINE OF TOKENS. -/
theorem tokensL_fmt {l : List Tok} (h : ∀ x ∈ l, Good x) : tokensL (fmtL l) = .ok l [] := by
  unfold tokensL
  rw [trimL_fmtL l h]
  exact tokensF_fmt h (by have := fmtL_len l h; omega)
end Go.Proofs.YtccmlodocfpbhaaDoor
