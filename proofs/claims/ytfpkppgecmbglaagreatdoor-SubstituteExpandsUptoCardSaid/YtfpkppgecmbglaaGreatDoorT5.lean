/- Templates, on lists of bytes: reading them piece by piece, whole texts or single bytes. Plain facts: no memory, no seat. -/
import Derived.Test.YtfpkppgecmbglaaGreatDoorT4
namespace Go.Proofs.YtfpkppgecmbglaaGreatDoor

section
variable (nm ky : List UInt8 → Bool)
/-- The pieces of a text behind pieces that have been read. -/
def pfrom (acc : List Pc) (s : List UInt8) : Option (List Pc) := (rawF nm ky s.length s).map fun l => l.foldl addP acc
def plainCh (b : UInt8) : Bool := b != 36 && b != 37
/-- One piece at the beginning of a text that is not empty, a text as far as it goes. -/
def firstL (s : List UInt8) : Option (Pc × List UInt8) :=
  if (spanL plainCh s).1 = [] then stepL nm ky s else some (⟨1, (spanL plainCh s).1, 0, false⟩, (spanL plainCh s).2)
variable {nm ky}
theorem spanL_len (p : UInt8 → Bool) (s : List UInt8) : (spanL p s).1.length + (spanL p s).2.length = s.length := by
  have := congrArg List.length (spanL_eq p s).1
  simpa using this
theorem braceL_inv {s a r : List UInt8} (h : braceL s = some (a, r)) : s = 123 :: (a ++ 125 :: r) ∧ a.all (fun b => b != 125) = true := by
  match s with
  | [] => cases h
  | c :: s =>
    by_cases hc : c = 123
    · subst hc
      rw [braceL] at h
      split at h
      · cases h
      · rename_i q r' hr
        obtain ⟨e1, e2, e3⟩ := spanL_eq (fun b => b != 125) s
        have e3 := e3 q r' hr
        cases h
        have : q = 125 := by simpa using e3
        subst this
        rw [hr] at e1
        exact ⟨by rw [e1], e2⟩
    · unfold braceL at h
      split at h
      · rename_i s' e
        cases e
        exact absurd rfl hc
      · cases h
theorem numN_le {s : List UInt8} {n : Nat} (h : numN s = some n) : 1 ≤ n ∧ n ≤ 99 := by
  unfold numN at h
  split at h
  · split at h
    · cases h; omega
    · cases h
  · split at h
    · cases h; omega
    · cases h
  · cases h
theorem countL_le {s : List UInt8} {c : Nat × Bool} (h : countL s = some c) : 1 ≤ c.1 ∧ c.1 ≤ 99 := by
  unfold countL at h
  split at h
  · obtain ⟨n, hn, rfl⟩ := Option.map_eq_some_iff.1 h
    exact numN_le hn
  · obtain ⟨n, hn, rfl⟩ := Option.map_eq_some_iff.1 h
    exact numN_le hn
theorem placeL_le {k : Nat} {s r : List UInt8} {p : Pc} (h : placeL nm ky k s = some (p, r)) : r.length ≤ s.length ∧ p.kind = k ∧ k ≠ 0 ∧ (k ≤ 11 → 1 < k → Well nm ky p) ∧ p.text.length ≤ s.length := by
  unfold placeL at h
  split at h
  · cases h
  rename_i h0
  split at h
  · rename_i h7
    subst h7
    obtain ⟨x, hx, h⟩ := Option.bind_eq_some_iff.1 h
    split at h
    · rename_i hv
      cases h
      obtain ⟨e, _⟩ := braceL_inv hx
      refine ⟨by rw [e]; simp; omega, rfl, by decide, fun _ _ => ⟨by simp, by simp, fun _ => hv, fun h => by simp at h, fun h => absurd rfl h, fun h => by simp at h, fun _ => ⟨rfl, rfl⟩⟩, by rw [e]; simp; omega⟩
    · cases h
  rename_i h7
  split at h
  · rename_i h8
    subst h8
    obtain ⟨x, hx, h⟩ := Option.bind_eq_some_iff.1 h
    split at h
    · rename_i hv
      cases h
      obtain ⟨e, _⟩ := braceL_inv hx
      refine ⟨by rw [e]; simp; omega, rfl, by decide, fun _ _ => ⟨by simp, by simp, fun h => by simp at h, fun _ => hv, fun _ h => absurd rfl h, fun h => by simp at h, fun _ => ⟨rfl, rfl⟩⟩, by rw [e]; simp; omega⟩
    · cases h
  rename_i h8
  split at h
  · rename_i h9
    obtain ⟨rfl, _⟩ := h9
    obtain ⟨x, hx, h⟩ := Option.bind_eq_some_iff.1 h
    obtain ⟨c, hc, h⟩ := Option.map_eq_some_iff.1 h
    cases h
    obtain ⟨e, _⟩ := braceL_inv hx
    have hl := countL_le hc
    refine ⟨by rw [e]; simp; omega, rfl, by decide, fun _ _ => ⟨by simp, by simp, fun h => by simp at h, fun h => by simp at h, fun _ _ => rfl, fun _ => ⟨hl.2, fun h => absurd h (by have := hl.1; simp only; omega)⟩, fun h => absurd rfl h⟩, by simp⟩
  · rename_i h9
    cases h
    exact ⟨Nat.le_refl _, rfl, h0, fun h11 h1 => ⟨h1, h11, fun h => absurd h h7, fun h => absurd h h8, fun _ _ => rfl, fun _ => ⟨by simp, fun _ => rfl⟩, fun _ => ⟨rfl, rfl⟩⟩, by simp⟩
theorem kindOfWord_le (w : List UInt8) : kindOfWord w = 0 ∨ (2 ≤ kindOfWord w ∧ kindOfWord w ≤ 11 ∧ wordOf (kindOfWord w) = w) := by
  unfold kindOfWord
  cases e : [2, 3, 4, 5, 6, 7, 8, 9, 10, 11].find? fun k => wordOf k == w with
  | none => exact .inl rfl
  | some k =>
    right
    have h1 := List.mem_of_find?_eq_some e
    have h2 := List.find?_some e
    simp at h1
    refine ⟨?_, ?_, by simpa using h2⟩
    · simp only [Option.getD_some]; omega
    · simp only [Option.getD_some]; omega
theorem kindOfLetter_le (b : UInt8) : kindOfLetter b = 0 ∨ (2 ≤ kindOfLetter b ∧ kindOfLetter b ≤ 10 ∧ letterOf (kindOfLetter b) = b) := by
  unfold kindOfLetter
  cases e : [2, 3, 4, 5, 6, 7, 8, 9, 10].find? fun k => letterOf k == b with
  | none => exact .inl rfl
  | some k =>
    right
    have h1 := List.mem_of_find?_eq_some e
    have h2 := List.find?_some e
    simp at h1
    refine ⟨?_, ?_, by simpa using h2⟩
    · simp only [Option.getD_some]; omega
    · simp only [Option.getD_some]; omega
/-- What a piece that has been read is like: a text, or as in the table. -/
def Read (nm ky : List UInt8 → Bool) (p : Pc) : Prop := (p.kind = 1 ∧ p.text ≠ [] ∧ p.word = 0 ∧ p.more = false) ∨ Well nm ky p
theorem stepL_le {s r : List UInt8} {p : Pc} (h : stepL nm ky s = some (p, r)) : r.length < s.length ∧ Read nm ky p ∧ p.text.length ≤ s.length := by
  match s with
  | [] => cases h
  | b :: s =>
    unfold stepL at h
    dsimp only at h
    split at h
    · cases h
      exact ⟨by simp, .inl ⟨rfl, by simp, rfl, rfl⟩, by simp⟩
    split at h
    · cases h
      refine ⟨?_, .inl ⟨rfl, by simp, rfl, rfl⟩, by simp⟩
      rw [List.length_tail, List.length_cons]
      omega
    split at h
    · split at h
      · cases h
      · rename_i c r' _
        obtain ⟨h1, h2, h3, h4, h5⟩ := placeL_le h
        have hk := kindOfLetter_le c
        refine ⟨by simp; omega, .inr (h4 (by omega) (by omega)), by simp; omega⟩
    · obtain ⟨h1, h2, h3, h4, h5⟩ := placeL_le h
      have hk := kindOfWord_le (spanL azCh s).1
      have hs := spanL_len azCh s
      refine ⟨by simp; omega, .inr (h4 (by omega) (by omega)), by simp; omega⟩
theorem rawF_fuel : ∀ (f : Nat) (s : List UInt8), s.length ≤ f → rawF nm ky f s = rawF nm ky s.length s := by
  intro f
  induction f using Nat.strongRecOn with
  | _ f ih =>
    intro s h
    match f, s with
    | f, [] => cases f <;> rfl
    | 0, b :: s => simp at h
    | f + 1, b :: s =>
      rw [List.length_cons, rawF, rawF]
      cases e : stepL nm ky (b :: s) with
      | none => rfl
      | some x =>
        obtain ⟨p, r⟩ := x
        have hr := (stepL_le e).1
        rw [List.length_cons] at hr h
        simp only
        rw [ih f (by omega) r (by omega)]
        by_cases hf : s.length < f + 1
        · rw [ih s.length (by omega) r (by omega)]
        · omega
theorem pfrom_nil (acc : List Pc) : pfrom nm ky acc [] = some acc := rfl
theorem pfrom_none (acc : List Pc) {s : List UInt8} (hs : s ≠ []) (h : stepL nm ky s = none) : pfrom nm ky acc s = none := by
  cases s with
  | nil => exact absurd rfl hs
  | cons b s => simp [pfrom, rawF, h]
theorem pfrom_step (acc : List Pc) {s r : List UInt8} {p : Pc} (h : stepL nm ky s = some (p, r)) : pfrom nm ky acc s = pfrom nm ky (addP acc p) r := by
  cases s with
  | nil => cases h
  | cons b s =>
    have hr := (stepL_le h).1
    rw [List.length_cons] at hr
    unfold pfrom
    rw [List.length_cons, rawF, h]
    simp only
    rw [rawF_fuel s.length r (by omega), Option.map_map]
    rfl
theorem stepL_plain {b : UInt8} (h : plainCh b = true) (r : List UInt8) : stepL nm ky (b :: r) = some (⟨1, [b], 0, false⟩, r) := by
  unfold stepL
  dsimp only
  rw [if_pos (by simpa [plainCh] using h)]
theorem addP_chunk (acc : List Pc) (b : UInt8) (t : List UInt8) : (t.map pcT).foldl addP (addP acc (pcT b)) = addP acc ⟨1, b :: t, 0, false⟩ := by
  cases hl : acc.getLast? with
  | none =>
    have : acc = [] := List.getLast?_eq_none_iff.1 hl
    subst this
    exact addP_text [] t [b]
  | some q =>
    obtain ⟨k, u, w, m⟩ := q
    by_cases hq : k = 1
    · subst hq
      have e : ∀ x : List UInt8, addP acc ⟨1, x, 0, false⟩ = acc.dropLast ++ [⟨1, u ++ x, w, m⟩] := fun x => by simp [addP, hl]
      have g : ∀ (t x : List UInt8), (t.map pcT).foldl addP (acc.dropLast ++ [⟨1, x, w, m⟩]) = acc.dropLast ++ [⟨1, x ++ t, w, m⟩] := by
        intro t
        induction t with
        | nil => intro x; simp
        | cons c t ih =>
          intro x
          have e : addP (acc.dropLast ++ [⟨1, x, w, m⟩]) (pcT c) = acc.dropLast ++ [⟨1, x ++ [c], w, m⟩] := by simp [addP, pcT]
          rw [List.map_cons, List.foldl_cons, e, ih, List.append_assoc]
          rfl
      show (t.map pcT).foldl addP (addP acc ⟨1, [b], 0, false⟩) = _
      rw [e, e, g, List.append_assoc]
      rfl
    · have e : ∀ x : List UInt8, addP acc ⟨1, x, 0, false⟩ = acc ++ [⟨1, x, 0, false⟩] := fun x => addP_new acc _ (.inr fun q hq => by rw [hl] at hq; cases hq; exact hq)
      show (t.map pcT).foldl addP (addP acc ⟨1, [b], 0, false⟩) = _
      rw [e, e]
      exact addP_text acc t [b]
theorem pfrom_bytes : ∀ (t r : List UInt8) (acc : List Pc), t.all plainCh = true → pfrom nm ky acc (t ++ r) = pfrom nm ky ((t.map pcT).foldl addP acc) r
  | [], r, acc, _ => rfl
  | b :: t, r, acc, h => by
    rw [List.all_cons, Bool.and_eq_true] at h
    rw [List.cons_append, pfrom_step acc (stepL_plain h.1 (t ++ r)), pfrom_bytes t r _ h.2]
    rfl
theorem firstL_le {s r : List UInt8} {p : Pc} (h : firstL nm ky s = some (p, r)) : r.length < s.length ∧ Read nm ky p ∧ p.text.length ≤ s.length := by
  unfold firstL at h
  split at h
  · exact stepL_le h
  · rename_i hn
    have := spanL_len plainCh s
    cases h
    have hl : 0 < (spanL plainCh s).1.length := List.length_pos_iff.2 hn
    exact ⟨by omega, .inl ⟨rfl, hn, rfl, rfl⟩, by simp only; omega⟩
/-- READING A TEXT AS FAR AS IT GOES IS READING ITS BYTES. -/
theorem pfrom_first (acc : List Pc) {s r : List UInt8} {p : Pc} (h : firstL nm ky s = some (p, r)) : pfrom nm ky acc s = pfrom nm ky (addP acc p) r := by
  unfold firstL at h
  split at h
  · exact pfrom_step acc h
  · rename_i hn
    obtain ⟨e, ha, _⟩ := spanL_eq plainCh s
    cases h
    conv => lhs; rw [← e]
    rw [pfrom_bytes _ _ _ ha]
    cases hx : (spanL plainCh s).1 with
    | nil => exact absurd hx hn
    | cons b t =>
      rw [List.map_cons, List.foldl_cons, addP_chunk]
theorem pfrom_first_none (acc : List Pc) {s : List UInt8} (hs : s ≠ []) (h : firstL nm ky s = none) : pfrom nm ky acc s = none := by
  unfold firstL at h
  split at h
  · exact pfrom_none acc hs h
  · cases h
theorem addP_len (acc : List Pc) (p : Pc) : (addP acc p).length ≤ acc.length + 1 := by
  unfold addP
  split
  · simp
  · split
    · simp
    · simp
theorem parseP_eq (s : List UInt8) : parseP nm ky s = pfrom nm ky [] s := rfl
/-- Joined pieces are as in the table, too. -/
theorem addP_read {acc : List Pc} {p : Pc} (ha : ∀ q ∈ acc, Read nm ky q) (hp : Read nm ky p) : ∀ q ∈ addP acc p, Read nm ky q := by
  intro q hq
  unfold addP at hq
  split at hq
  · rcases List.mem_append.1 hq with h | h
    · exact ha q h
    · rw [List.mem_singleton] at h; exact h ▸ hp
  · rename_i l hl
    split at hq
    · rename_i hk
      rcases List.mem_append.1 hq with h | h
      · exact ha q (List.dropLast_subset _ h)
      · rw [List.mem_singleton] at h
        subst h
        have hm := List.mem_of_getLast? hl
        rcases ha l hm with ⟨h1, h2, h3, h4⟩ | hw
        · exact .inl ⟨h1, by simp [h2], h3, h4⟩
        · exact absurd hk.2 (by have := hw.k1; omega)
    · rcases List.mem_append.1 hq with h | h
      · exact ha q h
      · rw [List.mem_singleton] at h; exact h ▸ hp
def tsum (l : List Pc) : Nat := (l.map fun p => p.text.length).sum
theorem addP_tsum (acc : List Pc) (p : Pc) : tsum (addP acc p) = tsum acc + p.text.length := by
  unfold addP
  split
  · simp [tsum]
  · rename_i q hl
    split
    · have e : acc = acc.dropLast ++ [q] := by
        obtain ⟨ys, rfl⟩ := List.getLast?_eq_some_iff.1 hl
        rw [List.dropLast_concat]
      conv => rhs; rw [e]
      simp [tsum]
      omega
    · simp [tsum]
theorem Read.k {p : Pc} (h : Read nm ky p) : 1 ≤ p.kind ∧ p.kind ≤ 11 ∧ p.word ≤ 99 := by
  rcases h with ⟨h1, _, h3, _⟩ | h
  · omega
  · have h1 := h.k1
    have h2 := h.k2
    refine ⟨by omega, h2, ?_⟩
    by_cases h9 : p.kind = 9
    · exact (h.w9 h9).1
    · rw [(h.w0 h9).1]; omega
end
end Go.Proofs.YtfpkppgecmbglaaGreatDoor
