/- Contents as trees: what is valid, their texts, and that a text is read back. Plain facts: no memory, no seat. -/
import Derived.Lib.Hide
namespace Go.Proofs.YtoohnjlghjapnaaDoor

/-- A content. -/
inductive Con where
  | mk (kind : Int) (id lab : List UInt8) (slot tot lst : Int) (inner : List Con)
def Con.kind : Con → Int | .mk k _ _ _ _ _ _ => k
def Con.id : Con → List UInt8 | .mk _ i _ _ _ _ _ => i
def Con.lab : Con → List UInt8 | .mk _ _ l _ _ _ _ => l
def Con.slot : Con → Int | .mk _ _ _ s _ _ _ => s
def Con.tot : Con → Int | .mk _ _ _ _ t _ _ => t
def Con.lst : Con → Int | .mk _ _ _ _ _ l _ => l
def Con.inner : Con → List Con | .mk _ _ _ _ _ _ l => l
def con0 : Con := .mk 0 [] [] 0 0 0 []

def idCh (b : UInt8) : Bool := (65 ≤ b && b ≤ 90) || (97 ≤ b && b ≤ 122) || (48 ≤ b && b ≤ 57) || b == 95 || b == 46 || b == 45
def isID (s : List UInt8) : Bool := s.all idCh && !s.isEmpty && decide (s.length ≤ 16)

/-- Valid apart from what is inside. -/
def slotsOK (c : Con) : Bool := decide (1 ≤ c.tot ∧ c.tot ≤ 16 ∧ 1 ≤ c.slot ∧ c.slot ≤ c.tot)
def none0 (c : Con) : Bool := decide (c.tot = 0 ∧ c.slot = 0 ∧ c.lst = 0)
def headOK (c : Con) : Bool :=
  if c.kind = 1 then (c.lab.isEmpty || isID c.lab) && none0 c && c.inner.isEmpty
  else if c.kind = 2 then c.lab.isEmpty && slotsOK c && decide (1 ≤ c.lst ∧ c.lst ≤ c.tot) && decide (c.inner.length = 1)
  else if c.kind = 3 then c.lab.isEmpty && none0 c && decide (c.inner.length = 1)
  else if c.kind = 4 then c.lab.isEmpty && slotsOK c && decide (c.lst = 0) && decide (1 ≤ c.inner.length ∧ c.inner.length ≤ 16)
  else if c.kind = 5 then c.lab.isEmpty && none0 c && decide (1 ≤ c.inner.length ∧ c.inner.length ≤ 16)
  else false
/-- Valid, with at most some depth. -/
def valN : Nat → Con → Bool
  | 0, c => if c.kind = 0 then c.id.isEmpty && c.lab.isEmpty && none0 c && c.inner.isEmpty else false
  | d + 1, c => if c.kind = 0 then c.id.isEmpty && c.lab.isEmpty && none0 c && c.inner.isEmpty else isID c.id && headOK c && c.inner.all (valN d)

/-- A number from 1 to 99 in decimal. -/
def dec2 (n : Int) : List UInt8 := if n < 10 then [UInt8.ofNat (48 + n.toNat)] else [UInt8.ofNat (48 + n.toNat / 10), UInt8.ofNat (48 + n.toNat % 10)]
def wFs : List UInt8 := [102, 115]
def wRaid : List UInt8 := [114, 97, 105, 100]
def wCrypt : List UInt8 := [99, 114, 121, 112, 116]
def wPv : List UInt8 := [112, 118]
def wTable : List UInt8 := [116, 97, 98, 108, 101]
/-- The head of a text: what stands ahead of the contents inside. -/
def headT (c : Con) : List UInt8 :=
  if c.kind = 1 then wFs ++ 58 :: (c.id ++ 58 :: c.lab)
  else if c.kind = 2 then wRaid ++ 58 :: (c.id ++ 58 :: (dec2 c.slot ++ 47 :: (dec2 c.tot ++ 47 :: dec2 c.lst)))
  else if c.kind = 3 then wCrypt ++ 58 :: c.id
  else if c.kind = 4 then wPv ++ 58 :: (c.id ++ 58 :: (dec2 c.slot ++ 47 :: dec2 c.tot))
  else wTable ++ 58 :: c.id
def joinC : List (List UInt8) → List UInt8
  | [] => []
  | [a] => a
  | a :: b :: l => a ++ 44 :: joinC (b :: l)
/-- The text, of at most some depth. -/
def txtN : Nat → Con → List UInt8
  | 0, _ => []
  | d + 1, c => if c.kind = 0 then [] else if c.kind = 1 then headT c else headT c ++ 40 :: (joinC (c.inner.map (txtN d)) ++ [41])

/-- The beginning of a text up to the first of "(,)", and the rest. -/
def stopCh (b : UInt8) : Bool := b == 40 || b == 44 || b == 41
def untilC : List UInt8 → List UInt8 × List UInt8
  | [] => ([], [])
  | b :: s => if stopCh b then ([], b :: s) else (b :: (untilC s).1, (untilC s).2)
theorem untilC_app : ∀ (h : List UInt8) (r : List UInt8), h.all (fun b => !stopCh b) = true → (r = [] ∨ ∃ b s, r = b :: s ∧ stopCh b = true) → untilC (h ++ r) = (h, r)
  | [], r, _, hr => by
    rcases hr with rfl | ⟨b, s, rfl, hb⟩
    · rfl
    · simp [untilC, hb]
  | b :: h, r, hh, hr => by
    rw [List.all_cons, Bool.and_eq_true] at hh
    have ih := untilC_app h r hh.2 hr
    have hb : stopCh b = false := by simpa using hh.1
    rw [List.cons_append, untilC, hb, ih]
    rfl
/-- The parts between the bytes x. -/
def splitC (x : UInt8) : List UInt8 → List (List UInt8)
  | [] => [[]]
  | b :: s => if b == x then [] :: splitC x s else match splitC x s with | [] => [[b]] | p :: l => (b :: p) :: l
theorem splitC_ne (x : UInt8) : ∀ s, splitC x s ≠ []
  | [] => by simp [splitC]
  | b :: s => by
    unfold splitC
    split
    · simp
    · split <;> simp
theorem splitC_none (x : UInt8) : ∀ s : List UInt8, s.all (fun b => !(b == x)) = true → splitC x s = [s]
  | [], _ => rfl
  | b :: s, h => by
    rw [List.all_cons, Bool.and_eq_true] at h
    have hb : (b == x) = false := by simpa using h.1
    simp [splitC, hb, splitC_none x s h.2]
theorem splitC_app (x : UInt8) : ∀ (a r : List UInt8), a.all (fun b => !(b == x)) = true → splitC x (a ++ x :: r) = a :: splitC x r
  | [], r, _ => by simp [splitC]
  | b :: a, r, h => by
    rw [List.all_cons, Bool.and_eq_true] at h
    have hb : (b == x) = false := by simpa using h.1
    rw [List.cons_append, splitC, hb, splitC_app x a r h.2]
    rfl
/-- A decimal number of at most two digits; 0 if it is none. -/
def numC (s : List UInt8) : Int :=
  match s with
  | [a] => if 49 ≤ a ∧ a ≤ 57 then (a.toNat : Int) - 48 else 0
  | [a, b] => if 49 ≤ a ∧ a ≤ 57 ∧ 48 ≤ b ∧ b ≤ 57 then 10 * ((a.toNat : Int) - 48) + ((b.toNat : Int) - 48) else 0
  | _ => 0
theorem numC_dec2 (n : Int) (h1 : 1 ≤ n) (h2 : n ≤ 16) : numC (dec2 n) = n := by
  have : n = 1 ∨ n = 2 ∨ n = 3 ∨ n = 4 ∨ n = 5 ∨ n = 6 ∨ n = 7 ∨ n = 8 ∨ n = 9 ∨ n = 10 ∨ n = 11 ∨ n = 12 ∨ n = 13 ∨ n = 14 ∨ n = 15 ∨ n = 16 := by omega
  rcases this with rfl | rfl | rfl | rfl | rfl | rfl | rfl | rfl | rfl | rfl | rfl | rfl | rfl | rfl | rfl | rfl <;> rfl
def digCh (b : UInt8) : Bool := 48 ≤ b && b ≤ 57
theorem dec2_dig (n : Int) (h1 : 1 ≤ n) (h2 : n ≤ 16) : (dec2 n).all digCh = true := by
  have : n = 1 ∨ n = 2 ∨ n = 3 ∨ n = 4 ∨ n = 5 ∨ n = 6 ∨ n = 7 ∨ n = 8 ∨ n = 9 ∨ n = 10 ∨ n = 11 ∨ n = 12 ∨ n = 13 ∨ n = 14 ∨ n = 15 ∨ n = 16 := by omega
  rcases this with rfl | rfl | rfl | rfl | rfl | rfl | rfl | rfl | rfl | rfl | rfl | rfl | rfl | rfl | rfl | rfl <;> rfl

/-- What a head says: the content without what is inside, and whether there must be something inside. -/
def headC (h : List UInt8) : Option (Con × Bool) :=
  match splitC 58 h with
  | [w, i] => if w = wCrypt then some (.mk 3 i [] 0 0 0 [], true) else if w = wTable then some (.mk 5 i [] 0 0 0 [], true) else none
  | [w, i, x] =>
    if w = wFs then some (.mk 1 i x 0 0 0 [], false)
    else match splitC 47 x with
      | [a, b, e] => if w = wRaid then some (.mk 2 i [] (numC a) (numC b) (numC e) [], true) else none
      | [a, b] => if w = wPv then some (.mk 4 i [] (numC a) (numC b) 0 [], true) else none
      | _ => none
  | _ => none

theorem none0_iff {c : Con} : none0 c = true ↔ c.tot = 0 ∧ c.slot = 0 ∧ c.lst = 0 := by simp [none0]
theorem slotsOK_iff {c : Con} : slotsOK c = true ↔ 1 ≤ c.tot ∧ c.tot ≤ 16 ∧ 1 ≤ c.slot ∧ c.slot ≤ c.tot := by simp [slotsOK]

theorem id_plain {b : UInt8} (h : idCh b = true) : (b == 58) = false ∧ (b == 47) = false ∧ stopCh b = false := by
  refine ⟨?_, ?_, ?_⟩
  · cases e : b == 58 with
    | false => rfl
    | true => obtain rfl := beq_iff_eq.1 e; exact absurd h (by decide)
  · cases e : b == 47 with
    | false => rfl
    | true => obtain rfl := beq_iff_eq.1 e; exact absurd h (by decide)
  · cases e : stopCh b with
    | false => rfl
    | true =>
      simp only [stopCh, Bool.or_eq_true, beq_iff_eq] at e
      rcases e with (rfl | rfl) | rfl <;> exact absurd h (by decide)
theorem all_imp {α : Type} {p q : α → Bool} (h : ∀ x, p x = true → q x = true) : ∀ {l : List α}, l.all p = true → l.all q = true
  | [], _ => rfl
  | x :: l, hl => by
    rw [List.all_cons, Bool.and_eq_true] at hl ⊢
    exact ⟨h x hl.1, all_imp h hl.2⟩
theorem dig_id {b : UInt8} (h : digCh b = true) : idCh b = true := by
  simp only [digCh, Bool.and_eq_true] at h
  simp [idCh, h.1, h.2]
/-- Letters of names and numbers: no colon, no slash, no stop. -/
theorem id58 {s : List UInt8} (h : s.all idCh = true) : s.all (fun b => !(b == 58)) = true := all_imp (fun _ hx => by simp [(id_plain hx).1]) h
theorem id47 {s : List UInt8} (h : s.all idCh = true) : s.all (fun b => !(b == 47)) = true := all_imp (fun _ hx => by simp [(id_plain hx).2.1]) h
theorem idStop {s : List UInt8} (h : s.all idCh = true) : s.all (fun b => !stopCh b) = true := all_imp (fun _ hx => by simp [(id_plain hx).2.2]) h
theorem dec2_id {n : Int} (h1 : 1 ≤ n) (h2 : n ≤ 16) : (dec2 n).all idCh = true := all_imp (fun _ => dig_id) (dec2_dig n h1 h2)

theorem isID_all {s : List UInt8} (h : isID s = true) : s.all idCh = true := by
  simp only [isID, Bool.and_eq_true] at h
  exact h.1.1

/-- The head of a valid content is read. -/
theorem headC_headT {c : Con} (hk : c.kind ≠ 0) (hi : isID c.id = true) (hh : headOK c = true) :
    headC (headT c) = some (.mk c.kind c.id c.lab c.slot c.tot c.lst [], !decide (c.kind = 1)) ∧ (headT c).all (fun b => !stopCh b) = true ∧ ∃ b t, headT c = b :: t ∧ stopCh b = false := by
  obtain ⟨k, i, lab, sl, tt, le, inn⟩ := c
  simp only [Con.kind, Con.id, Con.lab, Con.slot, Con.tot, Con.lst] at hk hi ⊢
  have hia := isID_all hi
  have hi58 := id58 hia
  have his := idStop hia
  have hw58 : ∀ w : List UInt8, w.all idCh = true → ∀ r, splitC 58 (w ++ 58 :: r) = w :: splitC 58 r := fun w hw r => splitC_app 58 w r (id58 hw)
  unfold headOK at hh
  simp only [Con.kind, Con.lab, Con.inner] at hh
  by_cases k1 : k = 1
  · subst k1
    simp only [if_true, Bool.and_eq_true, none0_iff, Con.tot, Con.slot, Con.lst, Bool.or_eq_true] at hh
    obtain ⟨⟨hl, h1, h2, h3⟩, h4⟩ := hh
    subst h1; subst h2; subst h3
    have hla : lab.all idCh = true := by
      rcases hl with hl | hl
      · rw [List.isEmpty_iff.1 hl]; rfl
      · exact isID_all hl
    refine ⟨?_, ?_, _, _, rfl, rfl⟩
    · simp only [headC, headT, Con.kind, Con.id, Con.lab, if_true]
      rw [hw58 wFs (by decide), splitC_app 58 i lab hi58, splitC_none 58 lab (id58 hla)]
      rfl
    · simp only [headT, Con.kind, Con.id, Con.lab, if_true, List.all_append, List.all_cons, his, idStop hla]
      decide
  by_cases k2 : k = 2
  · subst k2
    simp only [show ((2 : Int) = 1) = False by decide, if_true, if_false, Bool.and_eq_true, slotsOK_iff, Con.tot, Con.slot, Con.lst] at hh
    obtain ⟨⟨⟨hl, h1, h2, h3, h4⟩, h56⟩, h7⟩ := hh
    have h5 : 1 ≤ le ∧ le ≤ tt := of_decide_eq_true h56
    obtain ⟨h5, h6⟩ := h5
    obtain rfl := List.isEmpty_iff.1 hl
    have a1 := dec2_id (n := sl) h3 (by omega)
    have a2 := dec2_id (n := tt) h1 h2
    have a3 := dec2_id (n := le) h5 (by omega)
    refine ⟨?_, ?_, _, _, rfl, rfl⟩
    · simp only [headC, headT, Con.kind, Con.id, Con.slot, Con.tot, Con.lst, show ((2 : Int) = 1) = False by decide, if_true, if_false]
      rw [hw58 wRaid (by decide), splitC_app 58 i _ hi58, splitC_none 58 _ (by simp [List.all_append, id58 a1, id58 a2, id58 a3])]
      simp only [splitC_app 47 _ _ (id47 a1), splitC_app 47 _ _ (id47 a2), splitC_none 47 _ (id47 a3), numC_dec2 _ h3 (Int.le_trans h4 h2), numC_dec2 _ h1 h2, numC_dec2 _ h5 (Int.le_trans h6 h2)]
      rfl
    · simp only [headT, Con.kind, Con.id, Con.slot, Con.tot, Con.lst, show ((2 : Int) = 1) = False by decide, if_true, if_false, List.all_append, List.all_cons, his, idStop a1, idStop a2, idStop a3]
      decide
  by_cases k3 : k = 3
  · subst k3
    simp only [show ((3 : Int) = 1) = False by decide, show ((3 : Int) = 2) = False by decide, if_true, if_false, Bool.and_eq_true, none0_iff, Con.tot, Con.slot, Con.lst] at hh
    obtain ⟨⟨hl, h1, h2, h3⟩, h4⟩ := hh
    obtain rfl := List.isEmpty_iff.1 hl
    subst h1; subst h2; subst h3
    refine ⟨?_, ?_, _, _, rfl, rfl⟩
    · simp only [headC, headT, Con.kind, Con.id, show ((3 : Int) = 1) = False by decide, show ((3 : Int) = 2) = False by decide, if_true, if_false]
      rw [hw58 wCrypt (by decide), splitC_none 58 i hi58]
      rfl
    · simp only [headT, Con.kind, Con.id, show ((3 : Int) = 1) = False by decide, show ((3 : Int) = 2) = False by decide, if_true, if_false, List.all_append, List.all_cons, his]
      decide
  by_cases k4 : k = 4
  · subst k4
    simp only [show ((4 : Int) = 1) = False by decide, show ((4 : Int) = 2) = False by decide, show ((4 : Int) = 3) = False by decide, if_true, if_false, Bool.and_eq_true, slotsOK_iff, Con.tot, Con.slot, Con.lst] at hh
    obtain ⟨⟨⟨hl, h1, h2, h3, h4⟩, h56⟩, h67⟩ := hh
    have h5 : le = 0 := of_decide_eq_true h56
    obtain rfl := List.isEmpty_iff.1 hl
    subst h5
    have a1 := dec2_id (n := sl) h3 (by omega)
    have a2 := dec2_id (n := tt) h1 h2
    refine ⟨?_, ?_, _, _, rfl, rfl⟩
    · simp only [headC, headT, Con.kind, Con.id, Con.slot, Con.tot, show ((4 : Int) = 1) = False by decide, show ((4 : Int) = 2) = False by decide, show ((4 : Int) = 3) = False by decide, if_true, if_false]
      rw [hw58 wPv (by decide), splitC_app 58 i _ hi58, splitC_none 58 _ (by simp [List.all_append, id58 a1, id58 a2])]
      simp only [splitC_app 47 _ _ (id47 a1), splitC_none 47 _ (id47 a2), numC_dec2 _ h3 (Int.le_trans h4 h2), numC_dec2 _ h1 h2]
      rfl
    · simp only [headT, Con.kind, Con.id, Con.slot, Con.tot, show ((4 : Int) = 1) = False by decide, show ((4 : Int) = 2) = False by decide, show ((4 : Int) = 3) = False by decide, if_true, if_false, List.all_append, List.all_cons, his, idStop a1, idStop a2]
      decide
  by_cases k5 : k = 5
  · subst k5
    simp only [show ((5 : Int) = 1) = False by decide, show ((5 : Int) = 2) = False by decide, show ((5 : Int) = 3) = False by decide, show ((5 : Int) = 4) = False by decide, if_true, if_false, Bool.and_eq_true, none0_iff, Con.tot, Con.slot, Con.lst] at hh
    obtain ⟨⟨hl, h1, h2, h3⟩, h4⟩ := hh
    obtain rfl := List.isEmpty_iff.1 hl
    subst h1; subst h2; subst h3
    refine ⟨?_, ?_, _, _, rfl, rfl⟩
    · simp only [headC, headT, Con.kind, Con.id, show ((5 : Int) = 1) = False by decide, show ((5 : Int) = 2) = False by decide, show ((5 : Int) = 3) = False by decide, show ((5 : Int) = 4) = False by decide, if_false]
      rw [hw58 wTable (by decide), splitC_none 58 i hi58]
      rfl
    · simp only [headT, Con.kind, Con.id, show ((5 : Int) = 1) = False by decide, show ((5 : Int) = 2) = False by decide, show ((5 : Int) = 3) = False by decide, show ((5 : Int) = 4) = False by decide, if_false, List.all_append, List.all_cons, his]
      decide
  · simp [k1, k2, k3, k4, k5] at hh
end Go.Proofs.YtoohnjlghjapnaaDoor
