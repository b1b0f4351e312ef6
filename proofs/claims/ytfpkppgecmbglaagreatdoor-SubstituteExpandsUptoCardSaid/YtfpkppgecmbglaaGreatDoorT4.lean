/- Templates: doubling, the words of a result, what the laws' own templates are parsed as. Plain facts: no memory, no seat. -/
import Derived.Test.YtfpkppgecmbglaaGreatDoorT3
namespace Go.Proofs.YtfpkppgecmbglaaGreatDoor

/-- A byte doubled. -/
def dblL (c : UInt8) (s : List UInt8) : List UInt8 := s.flatMap fun b => if b = c then [c, c] else [b]
theorem dblL_cons (c b : UInt8) (s : List UInt8) : dblL c (b :: s) = (if b = c then [c, c] else [b]) ++ dblL c s := rfl
theorem dblL_append (c : UInt8) (a b : List UInt8) : dblL c (a ++ b) = dblL c a ++ dblL c b := List.flatMap_append
theorem dbl_esc : ∀ s : List UInt8, dblL 37 (dblL 36 s) = escL s
  | [] => rfl
  | b :: s => by
    rw [dblL_cons, dblL_append, dbl_esc s, escL_cons b s]
    congr 1
    by_cases h1 : b = 36
    · subst h1; rfl
    · by_cases h2 : b = 37
      · subst h2; rfl
      · simp [dblL, escL, h1, h2]
section
variable {nm ky : List UInt8 → Bool}
/-- THE PIECES OF A TEXT IN WHICH "$" AND "%" ARE DOUBLED. -/
theorem parse_esc (hn : ∀ s, nm s = true → s.all (fun b => b != 125) = true) (hk : ∀ s, ky s = true → s.all (fun b => b != 125) = true) (s : List UInt8) : parseP nm ky (escL s) = some (if s = [] then [] else [⟨1, s, 0, false⟩]) := by
  by_cases h : s = []
  · subst h
    rw [if_pos rfl]
    rfl
  · rw [if_neg h]
    have hf : FineL nm ky [⟨1, s, 0, false⟩] := ⟨fun _ => ⟨h, rfl, rfl, fun q m e => by cases e⟩, fun h => absurd rfl h, trivial⟩
    have := parse_fmt hn hk hf
    have e : fmtAll [⟨1, s, 0, false⟩] = escL s := by simp [fmtAll, fmtP]
    rwa [e] at this
/-- The templates of SubstituteWords: a word alone, and a word with all behind it. -/
theorem parse_word (k : Nat) (h1 : 1 ≤ k) (h2 : k ≤ 9) : parseP nm ky [37, 99, 123, UInt8.ofNat (48 + k), 125] = some [⟨9, [], k, false⟩] ∧ parseP nm ky [37, 99, 123, UInt8.ofNat (48 + k), 43, 125] = some [⟨9, [], k, true⟩] := by
  have : k = 1 ∨ k = 2 ∨ k = 3 ∨ k = 4 ∨ k = 5 ∨ k = 6 ∨ k = 7 ∨ k = 8 ∨ k = 9 := by omega
  rcases this with rfl | rfl | rfl | rfl | rfl | rfl | rfl | rfl | rfl <;> exact ⟨rfl, rfl⟩
/-- The template of SubstituteCuts. -/
theorem parse_cuts : parseP nm ky [37, 99, 45, 37, 99, 45, 37, 99] = some [⟨9, [], 0, false⟩, ⟨1, [45], 0, false⟩, ⟨9, [], 0, false⟩, ⟨1, [45], 0, false⟩, ⟨9, [], 0, false⟩] := rfl
/-- The templates of SubstituteForms: long, short, and their piece (where what stands in braces is a name, a key). -/
def formsL : List (List UInt8 × List UInt8 × Pc) := [
  (36 :: wordOf 2, [37, 107], ⟨2, [], 0, false⟩), (36 :: wordOf 3, [37, 110], ⟨3, [], 0, false⟩), (36 :: wordOf 4, [37, 112], ⟨4, [], 0, false⟩), (36 :: wordOf 5, [37, 98], ⟨5, [], 0, false⟩), (36 :: wordOf 6, [37, 100], ⟨6, [], 0, false⟩),
  (36 :: (wordOf 7 ++ [123, 115, 105, 122, 101, 125]), [37, 115, 123, 115, 105, 122, 101, 125], ⟨7, [115, 105, 122, 101], 0, false⟩),
  (36 :: (wordOf 7 ++ [123, 118, 101, 110, 100, 111, 114, 125]), [37, 115, 123, 118, 101, 110, 100, 111, 114, 125], ⟨7, [118, 101, 110, 100, 111, 114], 0, false⟩),
  (36 :: (wordOf 8 ++ [123, 73, 68, 125]), [37, 69, 123, 73, 68, 125], ⟨8, [73, 68], 0, false⟩),
  (36 :: wordOf 9, [37, 99], ⟨9, [], 0, false⟩), (36 :: (wordOf 9 ++ [123, 50, 125]), [37, 99, 123, 50, 125], ⟨9, [], 2, false⟩), (36 :: (wordOf 9 ++ [123, 49, 43, 125]), [37, 99, 123, 49, 43, 125], ⟨9, [], 1, true⟩), (36 :: wordOf 10, [37, 80], ⟨10, [], 0, false⟩)]
theorem parse_forms (h1 : nm [115, 105, 122, 101] = true) (h2 : nm [118, 101, 110, 100, 111, 114] = true) (h3 : ky [73, 68] = true) : ∀ x ∈ formsL, parseP nm ky x.1 = some [x.2.2] ∧ parseP nm ky x.2.1 = some [x.2.2] := by
  intro x hx
  have two : ∀ (s : List UInt8) (p : Pc), stepL nm ky s = some (p, []) → s ≠ [] → parseP nm ky s = some [p] := fun s p hs hne => by
    cases s with
    | nil => exact absurd rfl hne
    | cons b s =>
      unfold parseP
      rw [List.length_cons, rawF, hs]
      cases s <;> rfl
  have a1 : ∀ (w : List UInt8) (r : List UInt8) (p : Pc), stepL nm ky (36 :: (w ++ r)) = some (p, []) → parseP nm ky (36 :: (w ++ r)) = some [p] := fun w r p h => two _ _ h (by simp)
  simp only [formsL, List.mem_cons, List.not_mem_nil, or_false] at hx
  rcases hx with rfl | rfl | rfl | rfl | rfl | rfl | rfl | rfl | rfl | rfl | rfl | rfl
  · exact ⟨rfl, rfl⟩
  · exact ⟨rfl, rfl⟩
  · exact ⟨rfl, rfl⟩
  · exact ⟨rfl, rfl⟩
  · exact ⟨rfl, rfl⟩
  · constructor
    · exact two _ _ (by show (if nm [115, 105, 122, 101] = true then some ((⟨7, [115, 105, 122, 101], 0, false⟩ : Pc), ([] : List UInt8)) else none) = _; rw [if_pos h1]) (by simp)
    · exact two _ _ (by show (if nm [115, 105, 122, 101] = true then some ((⟨7, [115, 105, 122, 101], 0, false⟩ : Pc), ([] : List UInt8)) else none) = _; rw [if_pos h1]) (by simp)
  · constructor
    · exact two _ _ (by show (if nm [118, 101, 110, 100, 111, 114] = true then some ((⟨7, [118, 101, 110, 100, 111, 114], 0, false⟩ : Pc), ([] : List UInt8)) else none) = _; rw [if_pos h2]) (by simp)
    · exact two _ _ (by show (if nm [118, 101, 110, 100, 111, 114] = true then some ((⟨7, [118, 101, 110, 100, 111, 114], 0, false⟩ : Pc), ([] : List UInt8)) else none) = _; rw [if_pos h2]) (by simp)
  · constructor
    · exact two _ _ (by show (if ky [73, 68] = true then some ((⟨8, [73, 68], 0, false⟩ : Pc), ([] : List UInt8)) else none) = _; rw [if_pos h3]) (by simp)
    · exact two _ _ (by show (if ky [73, 68] = true then some ((⟨8, [73, 68], 0, false⟩ : Pc), ([] : List UInt8)) else none) = _; rw [if_pos h3]) (by simp)
  · exact ⟨rfl, rfl⟩
  · exact ⟨rfl, rfl⟩
  · exact ⟨rfl, rfl⟩
  · exact ⟨rfl, rfl⟩
end

/-- A text split at a byte. -/
def splitL (c : UInt8) : List UInt8 → List (List UInt8)
  | [] => [[]]
  | b :: s => if b = c then [] :: splitL c s else match splitL c s with
    | [] => [[b]]
    | q :: l => (b :: q) :: l
theorem splitL_no (c : UInt8) : ∀ s : List UInt8, ∀ p ∈ splitL c s, c ∉ p
  | [], p, hp => by rw [splitL, List.mem_singleton] at hp; subst hp; simp
  | b :: s, p, hp => by
    have ih := splitL_no c s
    rw [splitL] at hp
    split at hp
    · rcases List.mem_cons.1 hp with rfl | hp
      · simp
      · exact ih p hp
    · rename_i hb
      split at hp
      · rw [List.mem_singleton] at hp
        subst hp
        simpa using Ne.symm hb
      · rename_i q l hq
        rw [hq] at ih
        rcases List.mem_cons.1 hp with rfl | hp
        · have := ih q (by simp)
          simp only [List.mem_cons, not_or]
          exact ⟨Ne.symm hb, this⟩
        · exact ih p (by simp [hp])
/-- The words of a text. -/
def wordsL (s : List UInt8) : List (List UInt8) := (splitL 32 s).filter fun w => !w.isEmpty
theorem wordsL_mem {s w : List UInt8} (h : w ∈ wordsL s) : w ≠ [] ∧ 32 ∉ w := by
  unfold wordsL at h
  rw [List.mem_filter] at h
  exact ⟨by rintro rfl; simp at h, splitL_no 32 s w h.1⟩
/-- .. with one space between them. -/
def joinL : List (List UInt8) → List UInt8
  | [] => []
  | [w] => w
  | w :: v :: l => w ++ 32 :: joinL (v :: l)
theorem joinL_cons (w : List UInt8) (l : List (List UInt8)) : joinL (w :: l) = if l = [] then w else w ++ 32 :: joinL l := by
  cases l with
  | nil => rfl
  | cons v l => rw [if_neg (by simp)]; rfl
theorem joinL_nil {l : List (List UInt8)} (h : ∀ w ∈ l, w ≠ []) : joinL l = [] ↔ l = [] := by
  constructor
  · intro hj
    match l with
    | [] => rfl
    | [w] => exact absurd hj (h w (by simp))
    | w :: v :: l => simp [joinL] at hj
  · rintro rfl
    rfl
/-- What a piece of the result stands for. -/
def resultL (s : List UInt8) (n : Nat) (more : Bool) : List UInt8 :=
  if n = 0 then s else if more then joinL ((wordsL s).drop (n - 1)) else ((wordsL s)[n - 1]?).getD []
/-- THE n-TH WORD AND ALL BEHIND IT (SubstituteWords). -/
theorem result_words (s : List UInt8) (n : Nat) (h : 1 ≤ n) : 32 ∉ resultL s n false ∧ resultL s n true = if resultL s (n + 1) true = [] then resultL s n false else resultL s n false ++ 32 :: resultL s (n + 1) true := by
  have hw : ∀ w ∈ wordsL s, w ≠ [] ∧ 32 ∉ w := fun w => wordsL_mem
  unfold resultL
  simp only [if_neg (show n ≠ 0 by omega), if_neg (show n + 1 ≠ 0 by omega), if_true, Bool.false_eq_true, if_false, Nat.add_sub_cancel]
  generalize wordsL s = l at hw
  rcases Nat.lt_or_ge (n - 1) l.length with hn | hn
  · have hd : l.drop (n - 1) = l[n - 1] :: l.drop n := by
      have := List.drop_eq_getElem_cons hn
      rwa [show n - 1 + 1 = n by omega] at this
    have hm := hw l[n - 1] (List.getElem_mem hn)
    have hj : joinL (l.drop n) = [] ↔ l.drop n = [] := joinL_nil fun w h => (hw w (List.mem_of_mem_drop h)).1
    rw [hd, List.getElem?_eq_getElem hn, Option.getD_some, joinL_cons]
    refine ⟨hm.2, ?_⟩
    by_cases hz : l.drop n = []
    · rw [if_pos hz, if_pos (hj.2 hz)]
    · rw [if_neg hz, if_neg fun e => hz (hj.1 e)]
  · rw [List.getElem?_eq_none hn, List.drop_eq_nil_of_le hn, List.drop_eq_nil_of_le (by omega)]
    simp [joinL]
end Go.Proofs.YtfpkppgecmbglaaGreatDoor
