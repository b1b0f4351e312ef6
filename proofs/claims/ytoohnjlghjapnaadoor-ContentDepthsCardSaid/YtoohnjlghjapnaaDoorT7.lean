/- The program's parser of contents, on lists of bytes: what it reads. Plain facts: no memory, no seat. -/
import Derived.Test.YtoohnjlghjapnaaDoorT6
import Derived.Lib.AtoiAllCases
import Derived.Lib.ItoaNum
namespace Go.Proofs.YtoohnjlghjapnaaDoor

/-- What is left, and whether the text is none of a content. -/
abbrev St := List UInt8 × Bool
def takeP (b : UInt8) (x : St) : St :=
  match x.1 with
  | [] => ([], true)
  | a :: r => if a = b then (r, x.2) else (a :: r, true)
def wrd (r : List UInt8) : List UInt8 := r.takeWhile idCh
def rst (r : List UInt8) : List UInt8 := r.dropWhile idCh
def atoiV (s : List UInt8) : Int := match Lib.atoiAll s with | .ok v => v | .syntax => 0 | .range => Lib.atoiSat s
def atoiOK (s : List UInt8) : Bool := match Lib.atoiAll s with | .ok v => Lib.itoa v == s | .syntax => false | .range => false
def numP (x : St) : Int × St := (atoiV (wrd x.1), rst x.1, x.2 || !atoiOK (wrd x.1))
def idP (x : St) : List UInt8 × St := (wrd (takeP 58 x).1, rst (takeP 58 x).1, (takeP 58 x).2)
def slotP (x : St) : Int × Int × St := ((numP (takeP 58 x)).1, (numP (takeP 47 (numP (takeP 58 x)).2)).1, (numP (takeP 47 (numP (takeP 58 x)).2)).2)
/-- The contents behind the first one. -/
def moreP (rd : St → Con × St) : Nat → List Con → St → List Con × St
  | 0, acc, x => (acc, x)
  | f + 1, acc, x =>
    match x.1 with
    | [] => (acc, x)
    | a :: r => if a = 44 then moreP rd f (acc ++ [(rd (r, x.2)).1]) (rd (r, x.2)).2 else (acc, x)
def innP (rd : St → Con × St) (x : St) : List Con × St :=
  ((moreP rd (x.1.length + 1) [(rd (takeP 40 x)).1] (rd (takeP 40 x)).2).1, takeP 41 (moreP rd (x.1.length + 1) [(rd (takeP 40 x)).1] (rd (takeP 40 x)).2).2)
def fileP (y : St) : Con × St := (.mk 1 (idP y).1 (wrd (takeP 58 (idP y).2).1) 0 0 0 [], rst (takeP 58 (idP y).2).1, (takeP 58 (idP y).2).2)
def leastP (y : St) : Int × St := numP (takeP 47 (slotP (idP y).2).2.2)
def raidP (rd : St → Con × St) (y : St) : Con × St :=
  (.mk 2 (idP y).1 [] (slotP (idP y).2).1 (slotP (idP y).2).2.1 (leastP y).1 (innP rd (leastP y).2).1, (innP rd (leastP y).2).2)
def plainP (k : Int) (rd : St → Con × St) (y : St) : Con × St := (.mk k (idP y).1 [] 0 0 0 (innP rd (idP y).2).1, (innP rd (idP y).2).2)
def groupP (rd : St → Con × St) (y : St) : Con × St :=
  (.mk 4 (idP y).1 [] (slotP (idP y).2).1 (slotP (idP y).2).2.1 0 (innP rd (slotP (idP y).2).2.2).1, (innP rd (slotP (idP y).2).2.2).2)
def contP : Nat → St → Con × St
  | 0, x => (con0, x.1, true)
  | n + 1, x =>
    if wrd x.1 = [] then (con0, rst x.1, x.2)
    else if wrd x.1 = wFs then fileP (rst x.1, x.2)
    else if wrd x.1 = wRaid then raidP (contP n) (rst x.1, x.2)
    else if wrd x.1 = wCrypt then plainP 3 (contP n) (rst x.1, x.2)
    else if wrd x.1 = wPv then groupP (contP n) (rst x.1, x.2)
    else if wrd x.1 = wTable then plainP 5 (contP n) (rst x.1, x.2)
    else (con0, rst x.1, true)

/-! ### what is left gets no longer -/
theorem take_len (b : UInt8) (x : St) : (takeP b x).1.length ≤ x.1.length := by
  unfold takeP
  split
  · simp
  · rename_i a r e
    split <;> rw [e] <;> simp
theorem rst_len (r : List UInt8) : (rst r).length ≤ r.length := by
  unfold rst
  exact (List.dropWhile_suffix _).length_le
theorem wrd_rst (r : List UInt8) : wrd r ++ rst r = r := List.takeWhile_append_dropWhile
theorem rst_lt {r : List UInt8} (h : wrd r ≠ []) : (rst r).length < r.length := by
  have := congrArg List.length (wrd_rst r)
  rw [List.length_append] at this
  have h2 := List.length_pos_iff.2 h
  omega
theorem num_len (x : St) : (numP x).2.1.length ≤ x.1.length := rst_len _
theorem id_len (x : St) : (idP x).2.1.length ≤ x.1.length := Nat.le_trans (rst_len _) (take_len _ _)
theorem slot_len (x : St) : (slotP x).2.2.1.length ≤ x.1.length :=
  Nat.le_trans (num_len _) (Nat.le_trans (take_len _ _) (Nat.le_trans (num_len _) (take_len _ _)))
theorem more_len {rd : St → Con × St} (hr : ∀ x, (rd x).2.1.length ≤ x.1.length) : ∀ (f : Nat) (acc : List Con) (x : St), (moreP rd f acc x).2.1.length ≤ x.1.length
  | 0, _, _ => Nat.le_refl _
  | f + 1, acc, x => by
    unfold moreP
    split
    · exact Nat.le_refl _
    · rename_i a r e
      split
      · refine Nat.le_trans (more_len hr f _ _) (Nat.le_trans (hr _) ?_)
        rw [e]
        simp
      · exact Nat.le_refl _
theorem inn_len {rd : St → Con × St} (hr : ∀ x, (rd x).2.1.length ≤ x.1.length) (x : St) : (innP rd x).2.1.length ≤ x.1.length :=
  Nat.le_trans (take_len _ _) (Nat.le_trans (more_len hr _ _ _) (Nat.le_trans (hr _) (take_len _ _)))
theorem least_len (y : St) : (leastP y).2.1.length ≤ y.1.length :=
  Nat.le_trans (num_len _) (Nat.le_trans (take_len _ _) (Nat.le_trans (slot_len _) (id_len _)))
theorem cont_len : ∀ (n : Nat) (x : St), (contP n x).2.1.length ≤ x.1.length
  | 0, _ => Nat.le_refl _
  | n + 1, x => by
    have ih := cont_len n
    have h0 := rst_len x.1
    unfold contP
    split
    · exact h0
    split
    · exact Nat.le_trans (rst_len _) (Nat.le_trans (take_len _ _) (Nat.le_trans (id_len _) h0))
    split
    · exact Nat.le_trans (inn_len ih _) (Nat.le_trans (least_len _) h0)
    split
    · exact Nat.le_trans (inn_len ih _) (Nat.le_trans (id_len _) h0)
    split
    · exact Nat.le_trans (inn_len ih _) (Nat.le_trans (slot_len _) (Nat.le_trans (id_len _) h0))
    split
    · exact Nat.le_trans (inn_len ih _) (Nat.le_trans (id_len _) h0)
    · exact h0

/-! ### a text that is read without a fault is the text of what was read -/
/-- The text with whatever numbers. -/
def headG (c : Con) : List UInt8 :=
  if c.kind = 1 then wFs ++ 58 :: (c.id ++ 58 :: c.lab)
  else if c.kind = 2 then wRaid ++ 58 :: (c.id ++ 58 :: (Lib.itoa c.slot ++ 47 :: (Lib.itoa c.tot ++ 47 :: Lib.itoa c.lst)))
  else if c.kind = 3 then wCrypt ++ 58 :: c.id
  else if c.kind = 4 then wPv ++ 58 :: (c.id ++ 58 :: (Lib.itoa c.slot ++ 47 :: Lib.itoa c.tot))
  else wTable ++ 58 :: c.id
mutual
def Con.gxt : Con → List UInt8
  | .mk k i lab s t e l => if k = 0 then [] else if k = 1 then headG (.mk k i lab s t e []) else headG (.mk k i lab s t e []) ++ 40 :: (joinC (gxtL l) ++ [41])
def gxtL : List Con → List (List UInt8)
  | [] => []
  | c :: l => c.gxt :: gxtL l
end
theorem gxtL_map : ∀ l : List Con, gxtL l = l.map Con.gxt
  | [] => rfl
  | c :: l => by rw [gxtL, gxtL_map l, List.map_cons]
theorem gxt_eq (c : Con) : c.gxt = if c.kind = 0 then [] else if c.kind = 1 then headG c else headG c ++ 40 :: (joinC (c.inner.map Con.gxt) ++ [41]) := by
  obtain ⟨k, i, lab, s, t, e, l⟩ := c
  simp only [Con.gxt, Con.kind, Con.inner, gxtL_map, headG, Con.id, Con.lab, Con.slot, Con.tot, Con.lst]
  rfl
/-- Read without a fault. -/
def Reads (x : St) (T : List UInt8) (y : St) : Prop := y.2 = false → x.2 = false ∧ x.1 = T ++ y.1
theorem Reads.trans {x y z : St} {S T : List UInt8} (h : Reads x S y) (g : Reads y T z) : Reads x (S ++ T) z := fun hz => by
  obtain ⟨a, b⟩ := g hz
  obtain ⟨c, d⟩ := h a
  exact ⟨c, by rw [d, b, List.append_assoc]⟩
theorem take_reads (b : UInt8) (x : St) : Reads x [b] (takeP b x) := by
  intro h
  obtain ⟨r, w⟩ := x
  unfold takeP at h ⊢
  cases r with
  | nil => simp at h
  | cons a r =>
    by_cases e : a = b
    · subst e; simp only [if_true] at h ⊢; exact ⟨h, rfl⟩
    · simp only [if_neg e] at h; cases h
theorem word_reads (r : List UInt8) (w : Bool) : Reads (r, w) (wrd r) (rst r, w) := fun h => ⟨h, (wrd_rst r).symm⟩
theorem num_reads (x : St) : Reads x (Lib.itoa (numP x).1) (numP x).2 := by
  intro h
  simp only [numP, Bool.or_eq_false_iff, Bool.not_eq_false'] at h
  refine ⟨h.1, ?_⟩
  have h2 := h.2
  unfold atoiOK at h2
  unfold numP atoiV
  split at h2
  · rename_i v e
    simp only [beq_iff_eq] at h2
    simp only [h2, wrd_rst]
  · cases h2
  · cases h2
theorem id_reads (x : St) : Reads x (58 :: (idP x).1) (idP x).2 := (take_reads 58 x).trans (word_reads _ _)
theorem slot_reads (x : St) : Reads x (58 :: (Lib.itoa (slotP x).1 ++ 47 :: Lib.itoa (slotP x).2.1)) (slotP x).2.2 := by
  have := (take_reads 58 x).trans ((num_reads _).trans ((take_reads 47 _).trans (num_reads _)))
  exact this
theorem joinC_snoc : ∀ (l : List (List UInt8)) (a : List UInt8), l ≠ [] → joinC (l ++ [a]) = joinC l ++ 44 :: a
  | [], _, h => absurd rfl h
  | [b], a, _ => rfl
  | b :: c :: l, a, _ => by
    have := joinC_snoc (c :: l) a (by simp)
    simp only [List.cons_append, joinC] at this ⊢
    rw [this, List.append_assoc]
    rfl
theorem more_reads {rd : St → Con × St} (hr : ∀ x, Reads x (rd x).1.gxt (rd x).2) : ∀ (f : Nat) (acc : List Con) (x x0 : St), acc ≠ [] → Reads x0 (joinC (acc.map Con.gxt)) x →
    (moreP rd f acc x).1 ≠ [] ∧ Reads x0 (joinC ((moreP rd f acc x).1.map Con.gxt)) (moreP rd f acc x).2
  | 0, acc, x, x0, h0, h => ⟨h0, h⟩
  | f + 1, acc, x, x0, h0, h => by
    unfold moreP
    split
    · exact ⟨h0, h⟩
    · rename_i a r e
      split
      · rename_i ha
        subst ha
        refine more_reads hr f _ _ x0 (by simp) ?_
        rw [List.map_append, List.map_cons, List.map_nil, joinC_snoc _ _ (by simpa using h0)]
        have : Reads x [44] (r, x.2) := fun hw => ⟨hw, by rw [e]; rfl⟩
        exact h.trans (this.trans (hr (r, x.2)))
      · exact ⟨h0, h⟩
theorem inn_reads {rd : St → Con × St} (hr : ∀ x, Reads x (rd x).1.gxt (rd x).2) (x : St) : Reads x (40 :: (joinC ((innP rd x).1.map Con.gxt) ++ [41])) (innP rd x).2 := by
  have h1 : Reads (takeP 40 x) (joinC ([(rd (takeP 40 x)).1].map Con.gxt)) (rd (takeP 40 x)).2 := by simpa [joinC] using hr (takeP 40 x)
  have h2 := more_reads hr (x.1.length + 1) [(rd (takeP 40 x)).1] (rd (takeP 40 x)).2 (takeP 40 x) (by simp) h1
  exact (take_reads 40 x).trans (h2.2.trans (take_reads 41 _))
/-- WHAT IS READ WITHOUT A FAULT HAS THE TEXT THAT WAS READ. -/
theorem cont_reads : ∀ (n : Nat) (x : St), Reads x (contP n x).1.gxt (contP n x).2
  | 0, x => fun h => by cases h
  | n + 1, x => by
    have ih := cont_reads n
    have hw := word_reads x.1 x.2
    unfold contP
    split
    · rename_i h
      rw [h] at hw
      simpa [con0, Con.gxt] using hw
    split
    · rename_i h
      rw [h] at hw
      have := hw.trans ((id_reads _).trans ((take_reads 58 (idP (rst x.1, x.2)).2).trans (word_reads _ _)))
      have e : (fileP (rst x.1, x.2)).1.gxt = wFs ++ ((58 :: (idP (rst x.1, x.2)).1) ++ ([58] ++ wrd (takeP 58 (idP (rst x.1, x.2)).2).1)) := by simp [fileP, gxt_eq, Con.kind, headG, Con.id, Con.lab]
      rw [e]
      exact this
    split
    · rename_i h
      rw [h] at hw
      have := hw.trans ((id_reads _).trans ((slot_reads _).trans ((take_reads 47 _).trans ((num_reads _).trans (inn_reads ih _)))))
      simpa [raidP, leastP, gxt_eq, Con.kind, headG, Con.id, Con.slot, Con.tot, Con.lst, Con.inner] using this
    split
    · rename_i h
      rw [h] at hw
      have := hw.trans ((id_reads _).trans (inn_reads ih _))
      simpa [plainP, gxt_eq, Con.kind, headG, Con.id, Con.inner] using this
    split
    · rename_i h
      rw [h] at hw
      have := hw.trans ((id_reads _).trans ((slot_reads _).trans (inn_reads ih _)))
      simpa [groupP, gxt_eq, Con.kind, headG, Con.id, Con.slot, Con.tot, Con.inner] using this
    split
    · rename_i h
      rw [h] at hw
      have := hw.trans ((id_reads _).trans (inn_reads ih _))
      simpa [plainP, gxt_eq, Con.kind, headG, Con.id, Con.inner] using this
    · exact fun h => by cases h
end Go.Proofs.YtoohnjlghjapnaaDoor
