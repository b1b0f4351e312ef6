/- Pieces of templates, on lists of bytes: what is written for a piece is read as it. Plain facts: no memory, no seat. -/
import Derived.Test.YtfpkppgecmbglaaGreatDoorT1
namespace Go.Proofs.YtfpkppgecmbglaaGreatDoor

/-- A piece of a template. -/
structure Pc where
  kind : Nat
  text : List UInt8
  word : Nat
  more : Bool
def azCh (b : UInt8) : Bool := 97 ≤ b && b ≤ 122
def wordOf : Nat → List UInt8
  | 2 => [107, 101, 114, 110, 101, 108]
  | 3 => [110, 117, 109, 98, 101, 114]
  | 4 => [100, 101, 118, 112, 97, 116, 104]
  | 5 => [105, 100]
  | 6 => [100, 114, 105, 118, 101, 114]
  | 7 => [97, 116, 116, 114]
  | 8 => [101, 110, 118]
  | 9 => [114, 101, 115, 117, 108, 116]
  | 10 => [112, 97, 114, 101, 110, 116]
  | 11 => [110, 97, 109, 101]
  | _ => []
def letterOf : Nat → UInt8
  | 2 => 107 | 3 => 110 | 4 => 112 | 5 => 98 | 6 => 100 | 7 => 115 | 8 => 69 | 9 => 99 | 10 => 80 | _ => 32
def kindOfWord (w : List UInt8) : Nat := ([2, 3, 4, 5, 6, 7, 8, 9, 10, 11].find? fun k => wordOf k == w).getD 0
def kindOfLetter (b : UInt8) : Nat := ([2, 3, 4, 5, 6, 7, 8, 9, 10].find? fun k => letterOf k == b).getD 0
theorem kindOfWord_of {k : Nat} (h1 : 2 ≤ k) (h2 : k ≤ 11) : kindOfWord (wordOf k) = k ∧ (wordOf k).all azCh = true ∧ ∃ b t, wordOf k = b :: t ∧ b ≠ 36 := by
  have : k = 2 ∨ k = 3 ∨ k = 4 ∨ k = 5 ∨ k = 6 ∨ k = 7 ∨ k = 8 ∨ k = 9 ∨ k = 10 ∨ k = 11 := by omega
  rcases this with rfl | rfl | rfl | rfl | rfl | rfl | rfl | rfl | rfl | rfl <;> exact ⟨by decide, by decide, _, _, rfl, by decide⟩
theorem kindOfLetter_of {k : Nat} (h1 : 2 ≤ k) (h2 : k ≤ 10) : kindOfLetter (letterOf k) = k ∧ letterOf k ≠ 37 := by
  have : k = 2 ∨ k = 3 ∨ k = 4 ∨ k = 5 ∨ k = 6 ∨ k = 7 ∨ k = 8 ∨ k = 9 ∨ k = 10 := by omega
  rcases this with rfl | rfl | rfl | rfl | rfl | rfl | rfl | rfl | rfl <;> exact ⟨by decide, by decide⟩
/-- What braces hold, and what stands behind them. -/
def braceL : List UInt8 → Option (List UInt8 × List UInt8)
  | 123 :: s => match (spanL (fun b => b != 125) s).2 with
    | [] => none
    | _ :: r => some ((spanL (fun b => b != 125) s).1, r)
  | _ => none
theorem braceL_of {a : List UInt8} (h : a.all (fun b => b != 125) = true) (r : List UInt8) : braceL (123 :: (a ++ 125 :: r)) = some (a, r) := by
  have hs := spanL_app (fun b => b != 125) a (125 :: r) h (fun b s e => by cases e; rfl)
  simp only [braceL, hs]
/-- A number from 1 to 99. -/
def decN (n : Nat) : List UInt8 := if n < 10 then [UInt8.ofNat (48 + n)] else [UInt8.ofNat (48 + n / 10), UInt8.ofNat (48 + n % 10)]
def numN (s : List UInt8) : Option Nat :=
  match s with
  | [a] => if 49 ≤ a.toNat ∧ a.toNat ≤ 57 then some (a.toNat - 48) else none
  | [a, b] => if 49 ≤ a.toNat ∧ a.toNat ≤ 57 ∧ 48 ≤ b.toNat ∧ b.toNat ≤ 57 then some (10 * (a.toNat - 48) + (b.toNat - 48)) else none
  | _ => none
theorem ofNat_toNat {m : Nat} (h : m < 256) : (UInt8.ofNat m).toNat = m := by
  simp [UInt8.toNat_ofNat']
  omega
theorem numN_decN {n : Nat} (h1 : 1 ≤ n) (h2 : n ≤ 99) : numN (decN n) = some n := by
  unfold decN
  split
  · rename_i h
    simp only [numN, ofNat_toNat (show 48 + n < 256 by omega)]
    rw [if_pos (by omega)]
    congr 1
    omega
  · simp only [numN, ofNat_toNat (show 48 + n / 10 < 256 by omega), ofNat_toNat (show 48 + n % 10 < 256 by omega)]
    rw [if_pos (by omega)]
    congr 1
    omega
def countL (s : List UInt8) : Option (Nat × Bool) := if s.getLast? = some 43 then (numN s.dropLast).map fun n => (n, true) else (numN s).map fun n => (n, false)
theorem decN_ch {n : Nat} (h1 : 1 ≤ n) (h2 : n ≤ 99) : (decN n).all (fun b => b != 125) = true ∧ (decN n).getLast? ≠ some 43 := by
  have d : ∀ m : Nat, m < 10 → UInt8.ofNat (48 + m) ≠ 125 ∧ UInt8.ofNat (48 + m) ≠ 43 := fun m hm => by
    constructor
    · intro e
      have := congrArg UInt8.toNat e
      rw [ofNat_toNat (by omega)] at this
      have h3 : (125 : UInt8).toNat = 125 := rfl
      omega
    · intro e
      have := congrArg UInt8.toNat e
      rw [ofNat_toNat (by omega)] at this
      have h3 : (43 : UInt8).toNat = 43 := rfl
      omega
  unfold decN
  split
  · rename_i h
    have := d n h
    generalize UInt8.ofNat (48 + n) = b at this ⊢
    simp [this.1, this.2]
  · have e1 := d (n / 10) (by omega)
    have e2 := d (n % 10) (by omega)
    generalize UInt8.ofNat (48 + n / 10) = b at e1 ⊢
    generalize UInt8.ofNat (48 + n % 10) = c at e2 ⊢
    simp [e1.1, e2.1, e2.2]
theorem countL_one {n : Nat} (h1 : 1 ≤ n) (h2 : n ≤ 99) : countL (decN n) = some (n, false) := by
  unfold countL
  rw [if_neg (decN_ch h1 h2).2, numN_decN h1 h2]
  rfl
theorem countL_more {n : Nat} (h1 : 1 ≤ n) (h2 : n ≤ 99) : countL (decN n ++ [43]) = some (n, true) := by
  unfold countL
  rw [if_pos (by simp), List.dropLast_concat, numN_decN h1 h2]
  rfl

section
variable (nm ky : List UInt8 → Bool)
/-- A piece whose kind is known, behind its word or letter, and the rest. -/
def placeL (k : Nat) (s : List UInt8) : Option (Pc × List UInt8) :=
  if k = 0 then none
  else if k = 7 then (braceL s).bind fun x => if nm x.1 then some (⟨7, x.1, 0, false⟩, x.2) else none
  else if k = 8 then (braceL s).bind fun x => if ky x.1 then some (⟨8, x.1, 0, false⟩, x.2) else none
  else if k = 9 ∧ s.head? = some 123 then (braceL s).bind fun x => (countL x.1).map fun c => (⟨9, [], c.1, c.2⟩, x.2)
  else some (⟨k, [], 0, false⟩, s)
/-- One piece (of texts: one byte) at the beginning of a text that is not empty. -/
def stepL : List UInt8 → Option (Pc × List UInt8)
  | [] => none
  | b :: r =>
    if b ≠ 36 ∧ b ≠ 37 then some (⟨1, [b], 0, false⟩, r)
    else if r.head? = some b then some (⟨1, [b], 0, false⟩, r.tail)
    else if b = 37 then match r with
      | [] => none
      | c :: r' => placeL nm ky (kindOfLetter c) r'
    else placeL nm ky (kindOfWord (spanL azCh r).1) (spanL azCh r).2
/-- The piece is as in the table. -/
structure Well (p : Pc) : Prop where
  k1 : 2 ≤ p.kind
  k2 : p.kind ≤ 11
  t7 : p.kind = 7 → nm p.text = true
  t8 : p.kind = 8 → ky p.text = true
  t0 : p.kind ≠ 7 → p.kind ≠ 8 → p.text = []
  w9 : p.kind = 9 → p.word ≤ 99 ∧ (p.word = 0 → p.more = false)
  w0 : p.kind ≠ 9 → p.word = 0 ∧ p.more = false
def tailOf (p : Pc) : List UInt8 :=
  if p.kind = 7 ∨ p.kind = 8 then 123 :: (p.text ++ [125])
  else if p.kind = 9 ∧ 0 < p.word then 123 :: ((if p.more then decN p.word ++ [43] else decN p.word) ++ [125])
  else []
variable {nm ky}
theorem placeL_of (hn : ∀ s, nm s = true → s.all (fun b => b != 125) = true) (hk : ∀ s, ky s = true → s.all (fun b => b != 125) = true) {p : Pc} (h : Well nm ky p) (r : List UInt8)
    (h9 : p.kind = 9 → p.word = 0 → r.head? ≠ some 123) : placeL nm ky p.kind (tailOf p ++ r) = some (p, r) := by
  obtain ⟨k, t, w, m⟩ := p
  obtain ⟨k1, k2, t7, t8, t0, w9, w0⟩ := h
  simp only at k1 k2 t7 t8 t0 w9 w0 h9
  have hk0 : ¬ k = 0 := by omega
  unfold placeL
  rw [if_neg hk0]
  by_cases e7 : k = 7
  · subst e7
    obtain ⟨rfl, rfl⟩ := w0 (by decide)
    simp only [tailOf, true_or, if_true, List.cons_append, List.append_assoc, List.nil_append, braceL_of (hn t (t7 rfl)), Option.bind_some, t7 rfl]
  by_cases e8 : k = 8
  · subst e8
    obtain ⟨rfl, rfl⟩ := w0 (by decide)
    simp only [tailOf, or_true, if_true, List.cons_append, List.append_assoc, List.nil_append, braceL_of (hk t (t8 rfl)), Option.bind_some, t8 rfl]
    rfl
  obtain rfl := t0 e7 e8
  rw [if_neg e7, if_neg e8]
  by_cases e9 : k = 9
  · subst e9
    obtain ⟨hw, hm⟩ := w9 rfl
    by_cases hw0 : w = 0
    · subst hw0
      obtain rfl := hm rfl
      have ht : tailOf ⟨9, [], 0, false⟩ = [] := by simp [tailOf]
      rw [ht, List.nil_append, if_neg (fun x => h9 rfl rfl x.2)]
    · have hw1 : 1 ≤ w := by omega
      cases m with
      | false =>
        have ht : tailOf ⟨9, [], w, false⟩ ++ r = 123 :: (decN w ++ 125 :: r) := by simp [tailOf, Nat.lt_of_lt_of_le Nat.zero_lt_one hw1]
        rw [ht, if_pos ⟨rfl, rfl⟩, braceL_of (decN_ch hw1 hw).1]
        simp [countL_one hw1 hw]
      | true =>
        have ht : tailOf ⟨9, [], w, true⟩ ++ r = 123 :: ((decN w ++ [43]) ++ 125 :: r) := by simp [tailOf, Nat.lt_of_lt_of_le Nat.zero_lt_one hw1]
        rw [ht, if_pos ⟨rfl, rfl⟩, braceL_of (by rw [List.all_append, (decN_ch hw1 hw).1]; rfl)]
        simp [countL_more hw1 hw]
  · obtain ⟨rfl, rfl⟩ := w0 e9
    have ht : tailOf ⟨k, [], 0, false⟩ = [] := by simp [tailOf, e7, e8, e9]
    rw [ht, List.nil_append, if_neg (fun x => e9 x.1)]
/-- WHAT IS WRITTEN WITH "$" IS READ AS THE PIECE. -/
theorem stepL_word (hn : ∀ s, nm s = true → s.all (fun b => b != 125) = true) (hk : ∀ s, ky s = true → s.all (fun b => b != 125) = true) {p : Pc} (h : Well nm ky p) (r : List UInt8)
    (h9 : p.kind = 9 → p.word = 0 → r.head? ≠ some 123) (hz : tailOf p = [] → ∀ b s, r = b :: s → azCh b = false) : stepL nm ky (36 :: (wordOf p.kind ++ (tailOf p ++ r))) = some (p, r) := by
  obtain ⟨e1, e2, b, t, e3, e4⟩ := kindOfWord_of h.k1 h.k2
  have hs := spanL_app azCh (wordOf p.kind) (tailOf p ++ r) e2 (fun c s hc => by
    by_cases ht : tailOf p = []
    · rw [ht, List.nil_append] at hc
      exact hz ht c s hc
    · unfold tailOf at ht hc
      split at ht
      · rw [if_pos (by assumption)] at hc
        cases hc
        rfl
      · rw [if_neg (by assumption)] at hc
        split at ht
        · rw [if_pos (by assumption)] at hc
          cases hc
          rfl
        · exact absurd rfl ht)
  have hh : (wordOf p.kind ++ (tailOf p ++ r)).head? ≠ some 36 := by
    rw [e3, List.cons_append, List.head?_cons]
    intro e
    exact e4 (Option.some.inj e)
  unfold stepL
  dsimp only
  rw [if_neg (by simp), if_neg hh, if_neg (by decide), hs, e1]
  exact placeL_of hn hk h r h9
/-- WHAT IS WRITTEN WITH "%" IS READ AS THE PIECE. -/
theorem stepL_letter (hn : ∀ s, nm s = true → s.all (fun b => b != 125) = true) (hk : ∀ s, ky s = true → s.all (fun b => b != 125) = true) {p : Pc} (h : Well nm ky p) (h11 : p.kind ≠ 11) (ht : tailOf p = []) (r : List UInt8)
    (h9 : p.kind = 9 → p.word = 0 → r.head? ≠ some 123) : stepL nm ky (37 :: letterOf p.kind :: r) = some (p, r) := by
  obtain ⟨e1, e2⟩ := kindOfLetter_of h.k1 (by have := h.k2; omega)
  unfold stepL
  dsimp only
  rw [if_neg (by simp), if_neg (by rw [List.head?_cons]; intro e; exact e2 (Option.some.inj e)), if_pos rfl]
  simp only [e1]
  have := placeL_of hn hk h r h9
  rwa [ht, List.nil_append] at this
/-- A byte of a text. -/
def escL (t : List UInt8) : List UInt8 := t.flatMap fun b => if b = 36 ∨ b = 37 then [b, b] else [b]
theorem stepL_byte (b : UInt8) (r : List UInt8) : stepL nm ky (escL [b] ++ r) = some (⟨1, [b], 0, false⟩, r) := by
  by_cases h : b = 36 ∨ b = 37
  · have e : escL [b] ++ r = b :: b :: r := by simp [escL, h]
    rw [e]
    unfold stepL
    dsimp only
    rw [if_neg (by rcases h with rfl | rfl <;> simp), if_pos (by rw [List.head?_cons])]
    rfl
  · have e : escL [b] ++ r = b :: r := by simp [escL, h]
    rw [e]
    unfold stepL
    dsimp only
    rw [if_pos ⟨fun x => h (.inl x), fun x => h (.inr x)⟩]
end
end Go.Proofs.YtfpkppgecmbglaaGreatDoor
