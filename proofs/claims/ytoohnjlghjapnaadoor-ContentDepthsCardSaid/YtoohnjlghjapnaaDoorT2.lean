/- Contents as trees: a text is read back. Plain facts: no memory, no seat. -/
import Derived.Test.YtoohnjlghjapnaaDoorT1
namespace Go.Proofs.YtoohnjlghjapnaaDoor

/-- The contents inside, up to the closing bracket; rd reads one. -/
def readW (rd : List UInt8 → Option (Con × List UInt8)) : Nat → List Con → List UInt8 → Option (List Con × List UInt8)
  | 0, _, _ => none
  | _ + 1, _, [] => none
  | f + 1, acc, b :: r => if b = 41 then some (acc, r) else
    match rd r with
    | none => none
    | some (_, []) => none
    | some (x, m :: more) => readW rd f (acc ++ [x]) (m :: more)
/-- A content at the beginning of a text, of at most some depth, and the rest. -/
def readN : Nat → List UInt8 → Option (Con × List UInt8)
  | _, [] => some (con0, [])
  | 0, b :: s => if b = 44 ∨ b = 41 then some (con0, b :: s) else none
  | d + 1, b :: s => if b = 44 ∨ b = 41 then some (con0, b :: s) else
    match headC (untilC (b :: s)).1 with
    | none => none
    | some (c, false) => some (c, (untilC (b :: s)).2)
    | some (c, true) =>
      match (untilC (b :: s)).2 with
      | 40 :: r => (readW (readN d) (r.length + 2) [] (40 :: r)).map fun x => (.mk c.kind c.id c.lab c.slot c.tot c.lst x.1, x.2)
      | _ => none
/-- What may stand behind a content. -/
def After (r : List UInt8) : Prop := r = [] ∨ ∃ b s, r = b :: s ∧ (b = 44 ∨ b = 41)
theorem After.none {r : List UInt8} (h : After r) : ∀ d, readN d r = some (con0, r) := fun d => by
  rcases h with rfl | ⟨b, s, rfl, hb⟩
  · cases d <;> rfl
  · cases d <;> simp only [readN, if_pos hb]

theorem joinC_len : ∀ l : List (List UInt8), l.length ≤ (joinC l).length + 1
  | [] => by simp
  | [_] => by simp
  | a :: b :: l => by
    have := joinC_len (b :: l)
    simp only [joinC, List.length_append, List.length_cons] at this ⊢
    omega
/-- The contents of a list are read one after the other. -/
theorem readW_all {rd : List UInt8 → Option (Con × List UInt8)} {tx : Con → List UInt8} : ∀ (cs : List Con) (acc : List Con) (x : UInt8) (rest : List UInt8) (f : Nat), cs ≠ [] → (∀ c ∈ cs, ∀ r, After r → rd (tx c ++ r) = some (c, r)) → x ≠ 41 → cs.length + 1 ≤ f →
    readW rd f acc (x :: (joinC (cs.map tx) ++ 41 :: rest)) = some (acc ++ cs, rest)
  | [], _, _, _, _, h, _, _, _ => absurd rfl h
  | [c], acc, x, rest, f, _, hr, hx, hf => by
    match f, hf with
    | f + 2, _ =>
      have h1 := hr c (by simp) (41 :: rest) (.inr ⟨41, rest, rfl, .inr rfl⟩)
      simp only [readW, List.map_cons, List.map_nil, joinC, if_neg hx, h1, if_true]
  | c :: c2 :: l, acc, x, rest, f, _, hr, hx, hf => by
    match f, hf with
    | f + 1, hf =>
      have h1 := hr c (by simp) (44 :: (joinC ((c2 :: l).map tx) ++ 41 :: rest)) (.inr ⟨44, _, rfl, .inl rfl⟩)
      have ih := readW_all (c2 :: l) (acc ++ [c]) 44 rest f (by simp) (fun c' hc' => hr c' (by simp at hc' ⊢; exact .inr hc')) (by decide) (by simp at hf ⊢; omega)
      have e : joinC ((c :: c2 :: l).map tx) ++ 41 :: rest = tx c ++ (44 :: (joinC ((c2 :: l).map tx) ++ 41 :: rest)) := by
        simp only [List.map_cons, joinC, List.append_assoc, List.cons_append]
      rw [e]
      simp only [readW, if_neg hx, h1]
      rw [ih, List.append_assoc]
      rfl

/-- A content that is none has nothing else. -/
theorem none_eq {c : Con} (h : (c.id.isEmpty && c.lab.isEmpty && none0 c && c.inner.isEmpty) = true) (hk : c.kind = 0) : c = con0 := by
  obtain ⟨k, i, lab, sl, tt, le, inn⟩ := c
  simp only [Bool.and_eq_true, none0_iff, Con.id, Con.lab, Con.inner, Con.tot, Con.slot, Con.lst, List.isEmpty_iff, Con.kind] at h hk
  obtain ⟨⟨⟨rfl, rfl⟩, rfl, rfl, rfl⟩, rfl⟩ := h
  subst hk
  rfl

/-- THE TEXT OF A VALID CONTENT IS READ AS THIS CONTENT. -/
theorem readN_txt : ∀ (d : Nat) (c : Con) (rest : List UInt8), valN d c = true → After rest → readN d (txtN d c ++ rest) = some (c, rest)
  | 0, c, rest, hv, hr => by
    unfold valN at hv
    split at hv
    · rename_i hk
      rw [none_eq hv hk]
      exact hr.none 0
    · cases hv
  | d + 1, c, rest, hv, hr => by
    unfold valN at hv
    split at hv
    · rename_i hk
      obtain rfl := none_eq hv hk
      exact hr.none (d + 1)
    · rename_i hk
      simp only [Bool.and_eq_true] at hv
      obtain ⟨⟨hi, hh⟩, ha⟩ := hv
      obtain ⟨h1, h2, b, t, h3, h4⟩ := headC_headT hk hi hh
      have hb : ¬ (b = 44 ∨ b = 41) := by
        rintro (rfl | rfl) <;> exact absurd h4 (by decide)
      by_cases k1 : c.kind = 1
      · have ht : txtN (d + 1) c = headT c := by simp only [txtN, if_neg hk, if_pos k1]
        have hu := untilC_app (headT c) rest h2 (by
          rcases hr with rfl | ⟨b', s, rfl, rfl | rfl⟩
          · exact .inl rfl
          · exact .inr ⟨_, _, rfl, rfl⟩
          · exact .inr ⟨_, _, rfl, rfl⟩)
        have hin : c.inner = [] := by
          unfold headOK at hh
          simp only [k1, if_true, Bool.and_eq_true, List.isEmpty_iff] at hh
          exact hh.2
        rw [ht, h3, List.cons_append]
        rw [h3, List.cons_append] at hu
        simp only [readN, if_neg hb, hu]
        rw [← h3, h1]
        simp only [k1, decide_true, Bool.not_true]
        obtain ⟨k, i, lab, sl, tt, le, inn⟩ := c
        simp only [Con.kind, Con.inner] at k1 hin
        subst k1; subst hin
        rfl
      · have ht : txtN (d + 1) c ++ rest = headT c ++ 40 :: (joinC (c.inner.map (txtN d)) ++ 41 :: rest) := by
          simp only [txtN, if_neg hk, if_neg k1, List.append_assoc, List.cons_append, List.nil_append]
        have hu := untilC_app (headT c) (40 :: (joinC (c.inner.map (txtN d)) ++ 41 :: rest)) h2 (.inr ⟨_, _, rfl, rfl⟩)
        have hne : c.inner ≠ [] := by
          intro e
          unfold headOK at hh
          rw [if_neg k1] at hh
          simp only [e, List.length_nil] at hh
          split at hh
          · simp at hh
          split at hh
          · simp at hh
          split at hh
          · simp at hh
          split at hh
          · simp at hh
          · cases hh
        have hw := readW_all (rd := readN d) (tx := txtN d) c.inner [] 40 rest ((joinC (c.inner.map (txtN d)) ++ 41 :: rest).length + 2) hne
          (fun c' hc' r hr' => readN_txt d c' r (List.all_eq_true.1 ha c' hc') hr') (by decide)
          (by
            have := joinC_len (c.inner.map (txtN d))
            simp only [List.length_map, List.length_append, List.length_cons] at this ⊢
            omega)
        rw [ht, h3, List.cons_append]
        rw [h3, List.cons_append] at hu
        simp only [readN, if_neg hb, hu]
        rw [← h3, h1]
        simp only [k1, decide_false, Bool.not_false, hw, List.nil_append, Option.map_some]
        obtain ⟨k, i, lab, sl, tt, le, inn⟩ := c
        rfl
end Go.Proofs.YtoohnjlghjapnaaDoor
