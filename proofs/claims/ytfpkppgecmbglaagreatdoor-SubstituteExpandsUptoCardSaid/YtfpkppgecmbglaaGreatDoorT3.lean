/- Templates, on lists of bytes: the pieces of the template of pieces are these pieces. Plain facts: no memory, no seat. -/
import Derived.Test.YtfpkppgecmbglaaGreatDoorT2
namespace Go.Proofs.YtfpkppgecmbglaaGreatDoor

section
variable (nm ky : List UInt8 → Bool)
/-- The pieces of a text, texts in single bytes. -/
def rawF : Nat → List UInt8 → Option (List Pc)
  | _, [] => some []
  | 0, _ :: _ => none
  | f + 1, b :: s => match stepL nm ky (b :: s) with
    | none => none
    | some (p, r) => (rawF f r).map (p :: ·)
def pcT (b : UInt8) : Pc := ⟨1, [b], 0, false⟩
/-- A piece more; neighbouring texts are joined. -/
def addP (l : List Pc) (p : Pc) : List Pc :=
  match l.getLast? with
  | none => l ++ [p]
  | some q => if p.kind = 1 ∧ q.kind = 1 then l.dropLast ++ [⟨q.kind, q.text ++ p.text, q.word, q.more⟩] else l ++ [p]
def parseP (s : List UInt8) : Option (List Pc) := (rawF nm ky s.length s).map fun l => l.foldl addP []
/-- The text that stands next. -/
def nextT : List Pc → List UInt8
  | [] => []
  | q :: _ => if q.kind = 1 then q.text else []
def azHead (t : List UInt8) : Bool := match t with | [] => false | b :: _ => azCh b
def fmtP (p : Pc) (next : List UInt8) : List UInt8 :=
  if p.kind = 1 then escL p.text
  else if tailOf p = [] ∧ azHead next = true then [37, letterOf p.kind]
  else 36 :: (wordOf p.kind ++ tailOf p)
def fmtAll : List Pc → List UInt8
  | [] => []
  | p :: l => fmtP p (nextT l) ++ fmtAll l
/-- What Format takes. -/
def FineL : List Pc → Prop
  | [] => True
  | p :: l => (p.kind = 1 → p.text ≠ [] ∧ p.word = 0 ∧ p.more = false ∧ ∀ q m, l = q :: m → q.kind ≠ 1) ∧
      (p.kind ≠ 1 → Well nm ky p ∧ (p.kind = 9 → p.word = 0 → (nextT l).head? ≠ some 123) ∧ (p.kind = 11 → azHead (nextT l) = false)) ∧ FineL l
def unitsL (l : List Pc) : List Pc := l.flatMap fun p => if p.kind = 1 then p.text.map pcT else [p]
variable {nm ky}
theorem escL_cons (b : UInt8) (t : List UInt8) : escL (b :: t) = escL [b] ++ escL t := by simp [escL]
theorem escL_one (b : UInt8) : ∃ r, escL [b] = b :: r := by
  by_cases h : b = 36 ∨ b = 37
  · exact ⟨[b], by simp [escL, h]⟩
  · exact ⟨[], by simp [escL, h]⟩
theorem escL_head {t : List UInt8} (h : t ≠ []) : (escL t).head? = t.head? := by
  cases t with
  | nil => exact absurd rfl h
  | cons b t =>
    obtain ⟨r, e⟩ := escL_one b
    rw [escL_cons, e]
    rfl
theorem escL_ne {t : List UInt8} (h : t ≠ []) : escL t ≠ [] := by
  intro e
  have := escL_head h
  rw [e] at this
  cases t with
  | nil => exact h rfl
  | cons b t => cases this
/-- What stands at the beginning of what is written. -/
theorem fmtAll_head {l : List Pc} (h : FineL nm ky l) : (∃ q m, l = q :: m ∧ q.kind = 1 ∧ (fmtAll l).head? = (nextT l).head?) ∨ (nextT l = [] ∧ (fmtAll l = [] ∨ (fmtAll l).head? = some 36 ∨ (fmtAll l).head? = some 37)) := by
  cases l with
  | nil => exact .inr ⟨rfl, .inl rfl⟩
  | cons q m =>
    by_cases hq : q.kind = 1
    · refine .inl ⟨q, m, rfl, hq, ?_⟩
      have hn := (h.1 hq).1
      have e := escL_head hn
      simp only [fmtAll, fmtP, if_pos hq, nextT]
      rw [List.head?_append, e]
      cases ht : q.text with
      | nil => exact absurd ht hn
      | cons b t => rfl
    · refine .inr ⟨by simp [nextT, hq], .inr ?_⟩
      simp only [fmtAll, fmtP, if_neg hq]
      split
      · exact .inr rfl
      · exact .inl rfl
theorem rawF_bytes : ∀ (t r : List UInt8) (f : Nat), rawF nm ky (t.length + f) (escL t ++ r) = (rawF nm ky f r).map (t.map pcT ++ ·)
  | [], r, f => by
    rw [List.length_nil, Nat.zero_add]
    cases h : rawF nm ky f r <;> simp [escL, h]
  | b :: t, r, f => by
    obtain ⟨e, he⟩ := escL_one b
    have ih := rawF_bytes t r f
    have hs := stepL_byte (nm := nm) (ky := ky) b (escL t ++ r)
    rw [he, List.cons_append] at hs
    rw [escL_cons, he, List.length_cons, show t.length + 1 + f = (t.length + f) + 1 by omega]
    simp only [List.cons_append, List.append_assoc] at hs ⊢
    rw [rawF, hs]
    simp only [ih, Option.map_map]
    rfl
theorem unitsL_cons (p : Pc) (l : List Pc) : unitsL (p :: l) = (if p.kind = 1 then p.text.map pcT else [p]) ++ unitsL l := rfl
theorem rawF_fmt (hn : ∀ s, nm s = true → s.all (fun b => b != 125) = true) (hk : ∀ s, ky s = true → s.all (fun b => b != 125) = true) : ∀ (l : List Pc) (f : Nat), FineL nm ky l → rawF nm ky ((unitsL l).length + f) (fmtAll l) = some (unitsL l)
  | [], f, _ => by simp [rawF, fmtAll, unitsL]
  | p :: l, f, h => by
    have ih := fun f => rawF_fmt hn hk l f h.2.2
    by_cases hp : p.kind = 1
    · rw [unitsL_cons, if_pos hp, List.length_append, List.length_map, Nat.add_assoc]
      simp only [fmtAll, fmtP, if_pos hp]
      rw [rawF_bytes, ih]
      rfl
    · obtain ⟨hw, h9, h11⟩ := h.2.1 hp
      have hd := fmtAll_head h.2.2
      have h9' : p.kind = 9 → p.word = 0 → (fmtAll l).head? ≠ some 123 := fun e1 e2 => by
        rcases hd with ⟨q, m, _, _, e⟩ | ⟨_, e | e | e⟩
        · rw [e]; exact h9 e1 e2
        · rw [e]; simp
        · rw [e]; simp
        · rw [e]; simp
      have hstep : stepL nm ky (fmtP p (nextT l) ++ fmtAll l) = some (p, fmtAll l) ∧ ∃ b s, fmtP p (nextT l) ++ fmtAll l = b :: s := by
        simp only [fmtP, if_neg hp]
        split
        · rename_i hc
          refine ⟨stepL_letter hn hk hw (fun e => ?_) hc.1 (fmtAll l) h9', _, _, rfl⟩
          rw [h11 e] at hc
          cases hc.2
        · rename_i hc
          refine ⟨?_, _, _, rfl⟩
          have := stepL_word hn hk hw (fmtAll l) h9' (fun ht b s hb => ?_)
          · rw [List.cons_append, List.append_assoc]
            exact this
          · have haz : azHead (nextT l) = false := by
              cases e : azHead (nextT l) with
              | false => rfl
              | true => exact absurd ⟨ht, e⟩ hc
            rcases hd with ⟨q, m, _, _, e⟩ | ⟨_, e | e | e⟩
            · rw [hb, List.head?_cons] at e
              cases hx : nextT l with
              | nil => rw [hx] at e; cases e
              | cons c t =>
                rw [hx, List.head?_cons] at e
                cases e
                rw [hx] at haz
                exact haz
            · rw [hb] at e; cases e
            · rw [hb] at e; cases e; rfl
            · rw [hb] at e; cases e; rfl
      obtain ⟨h1, b, s, h2⟩ := hstep
      rw [unitsL_cons, if_neg hp]
      simp only [fmtAll, List.length_append, List.length_cons, List.length_nil]
      rw [h2, show 0 + 1 + (unitsL l).length + f = ((unitsL l).length + f) + 1 by omega, rawF, ← h2, h1]
      simp only [ih, Option.map_some]
      rfl
/-- Joining gives the pieces again. -/
theorem addP_text (acc : List Pc) : ∀ (t u : List UInt8), (t.map pcT).foldl addP (acc ++ [⟨1, u, 0, false⟩]) = acc ++ [⟨1, u ++ t, 0, false⟩]
  | [], u => by simp
  | b :: t, u => by
    have e : addP (acc ++ [⟨1, u, 0, false⟩]) (pcT b) = acc ++ [⟨1, u ++ [b], 0, false⟩] := by
      simp [addP, pcT]
    rw [List.map_cons, List.foldl_cons, e, addP_text acc t (u ++ [b]), List.append_assoc]
    rfl
theorem addP_new (acc : List Pc) (p : Pc) (h : p.kind ≠ 1 ∨ ∀ q, acc.getLast? = some q → q.kind ≠ 1) : addP acc p = acc ++ [p] := by
  unfold addP
  cases e : acc.getLast? with
  | none => rfl
  | some q =>
    simp only
    rw [if_neg]
    rintro ⟨h1, h2⟩
    rcases h with h | h
    · exact h h1
    · exact h q e h2
theorem join_units : ∀ (l acc : List Pc), FineL nm ky l → (∀ q, acc.getLast? = some q → q.kind = 1 → ∀ p m, l = p :: m → p.kind ≠ 1) → (unitsL l).foldl addP acc = acc ++ l
  | [], acc, _, _ => by simp [unitsL]
  | p :: l, acc, h, ha => by
    rw [unitsL_cons, List.foldl_append]
    by_cases hp : p.kind = 1
    · obtain ⟨hne, hw, hm, hl⟩ := h.1 hp
      rw [if_pos hp]
      have e : (p.text.map pcT).foldl addP acc = acc ++ [p] := by
        obtain ⟨k, t, w, m⟩ := p
        simp only at hp hne hw hm
        subst hp; subst hw; subst hm
        cases t with
        | nil => exact absurd rfl hne
        | cons b t =>
          rw [List.map_cons, List.foldl_cons, addP_new acc (pcT b) (.inr fun q hq e => ha q hq e _ _ rfl rfl)]
          exact addP_text acc t [b]
      rw [e, join_units l (acc ++ [p]) h.2.2 (fun q hq _ q2 m hm2 => by simp at hq; exact hl q2 m hm2), List.append_assoc]
      rfl
    · rw [if_neg hp, List.foldl_cons, List.foldl_nil, addP_new acc p (.inl hp), join_units l (acc ++ [p]) h.2.2 (fun q hq e => by simp at hq; rw [← hq] at e; exact absurd e hp), List.append_assoc]
      rfl
theorem escL_len : ∀ t : List UInt8, t.length ≤ (escL t).length
  | [] => by simp [escL]
  | b :: t => by
    obtain ⟨r, e⟩ := escL_one b
    have := escL_len t
    rw [escL_cons, e]
    simp only [List.length_cons, List.length_append]
    omega
theorem units_len : ∀ l : List Pc, (unitsL l).length ≤ (fmtAll l).length
  | [] => by simp [unitsL]
  | p :: l => by
    have ih := units_len l
    rw [unitsL_cons]
    by_cases hp : p.kind = 1
    · have := escL_len p.text
      simp only [fmtAll, fmtP, if_pos hp, List.length_append, List.length_map]
      omega
    · simp only [fmtAll, fmtP, if_neg hp, List.length_append, List.length_cons, List.length_nil]
      split
      · simp only [List.length_cons, List.length_nil]
        omega
      · simp only [List.length_cons]
        omega
/-- THE PIECES OF THE TEMPLATE OF PIECES ARE THESE PIECES. -/
theorem parse_fmt (hn : ∀ s, nm s = true → s.all (fun b => b != 125) = true) (hk : ∀ s, ky s = true → s.all (fun b => b != 125) = true) {l : List Pc} (h : FineL nm ky l) : parseP nm ky (fmtAll l) = some l := by
  have hl := units_len l
  have := rawF_fmt hn hk l ((fmtAll l).length - (unitsL l).length) h
  rw [show (unitsL l).length + ((fmtAll l).length - (unitsL l).length) = (fmtAll l).length by omega] at this
  unfold parseP
  rw [this, Option.map_some, join_units l [] h (fun q hq => by cases hq), List.nil_append]
end
end Go.Proofs.YtfpkppgecmbglaaGreatDoor
