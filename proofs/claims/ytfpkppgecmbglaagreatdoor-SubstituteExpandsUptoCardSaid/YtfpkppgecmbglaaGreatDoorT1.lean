/- Tokens of lines, on lists of bytes: a token's text is read back, and what is read can be written. Plain facts: no memory, no seat. -/
import Derived.Lib.Hide
namespace Go.Proofs.YtfpkppgecmbglaaGreatDoor

structure Tok where
  key : List UInt8
  name : List UInt8
  op : List UInt8
  val : List UInt8
def upCh (b : UInt8) : Bool := 65 ≤ b && b ≤ 90
def nmCh (b : UInt8) : Bool := 33 ≤ b && b ≤ 126 && b != 123 && b != 125 && b != 34
def prCh (b : UInt8) : Bool := 32 ≤ b && b ≤ 126
def opsL : List (List UInt8) := [[61, 61], [33, 61], [43, 61], [45, 61], [58, 61], [61]]
/-- The bytes at the beginning that p holds of, and the rest. -/
def spanL (p : UInt8 → Bool) : List UInt8 → List UInt8 × List UInt8
  | [] => ([], [])
  | b :: s => if p b then (b :: (spanL p s).1, (spanL p s).2) else ([], b :: s)
theorem spanL_app (p : UInt8 → Bool) : ∀ (a r : List UInt8), a.all p = true → (∀ b s, r = b :: s → p b = false) → spanL p (a ++ r) = (a, r)
  | [], [], _, _ => rfl
  | [], b :: s, _, h => by simp [spanL, h b s rfl]
  | b :: a, r, ha, h => by
    rw [List.all_cons, Bool.and_eq_true] at ha
    rw [List.cons_append, spanL, if_pos ha.1, spanL_app p a r ha.2 h]
theorem spanL_eq (p : UInt8 → Bool) : ∀ s : List UInt8, (spanL p s).1 ++ (spanL p s).2 = s ∧ (spanL p s).1.all p = true ∧ ∀ b r, (spanL p s).2 = b :: r → p b = false
  | [] => ⟨rfl, rfl, fun _ _ h => by cases h⟩
  | b :: s => by
    obtain ⟨h1, h2, h3⟩ := spanL_eq p s
    unfold spanL
    split
    · rename_i hb
      exact ⟨by rw [List.cons_append, h1], by rw [List.all_cons, hb, h2]; rfl, h3⟩
    · rename_i hb
      exact ⟨rfl, rfl, fun c r h => by cases h; simpa using hb⟩
/-- What ends a reading: an error's kind (1: the form, 2: something is open), or what was read, and the rest. -/
inductive Rd (α : Type) where
  | bad
  | cut
  | ok (x : α) (r : List UInt8)
/-- The value behind its opening quote. -/
def valL : List UInt8 → Rd (List UInt8)
  | [] => .cut
  | b :: r => if b = 34 then .ok [] r else if b = 9 then .bad else
    match b, r with
    | 92, 34 :: r' => match valL r' with | .bad => .bad | .cut => .cut | .ok v q => .ok (34 :: v) q
    | b, r => match valL r with | .bad => .bad | .cut => .cut | .ok v q => .ok (b :: v) q
def fmtV (v : List UInt8) : List UInt8 := v.flatMap fun b => if b = 34 then [92, 34] else [b]
/-- A value that can be written. -/
def goodV (v : List UInt8) : Prop := v.all prCh = true ∧ v.getLast? ≠ some 92
theorem valL_step (b : UInt8) (r : List UInt8) (h1 : b ≠ 34) (h2 : b ≠ 9) (h3 : b = 92 → ∀ q, r ≠ 34 :: q) : valL (b :: r) = match valL r with | .bad => .bad | .cut => .cut | .ok v q => .ok (b :: v) q := by
  rw [valL.eq_def]
  simp only [if_neg h1, if_neg h2]
  split
  · rename_i r'
    exact absurd rfl (h3 rfl r')
  · rfl
theorem valL_esc (r : List UInt8) : valL (92 :: 34 :: r) = match valL r with | .bad => .bad | .cut => .cut | .ok v q => .ok (34 :: v) q := by
  rw [valL.eq_def]
  rfl
theorem fmtV_cons (b : UInt8) (v : List UInt8) : fmtV (b :: v) = (if b = 34 then [92, 34] else [b]) ++ fmtV v := rfl
theorem fmtV_head (v : List UInt8) (r q : List UInt8) (h : v ≠ []) : fmtV v ++ r ≠ 34 :: q := by
  match v, h with
  | b :: v, _ =>
    rw [fmtV_cons]
    by_cases e : b = 34
    · rw [if_pos e]
      intro h
      cases h
    · rw [if_neg e]
      intro h
      cases h
      exact e rfl
theorem valL_fmt : ∀ (v r : List UInt8), goodV v → valL (fmtV v ++ 34 :: r) = .ok v r
  | [], r, _ => by
    rw [valL.eq_def]
    rfl
  | b :: v, r, ⟨h1, h2⟩ => by
    rw [List.all_cons, Bool.and_eq_true] at h1
    have hv : goodV v := ⟨h1.2, fun e => h2 (by
      match v, e with
      | c :: v', e => rw [List.getLast?_cons_cons]; exact e)⟩
    have ih := valL_fmt v r hv
    rw [fmtV_cons]
    by_cases e : b = 34
    · rw [if_pos e, List.append_assoc, List.cons_append, List.cons_append, List.nil_append, valL_esc, ih, e]
    · rw [if_neg e, List.append_assoc, List.cons_append, List.nil_append, valL_step b _ e (by rintro rfl; exact absurd h1.1 (by decide)) (fun hb q => ?_), ih]
      match v with
      | [] => exact absurd (by rw [hb]; rfl) h2
      | c :: v' => exact fmtV_head _ _ _ (by simp)

/-- The first of the ops that stands at the beginning. -/
def opOf (s : List UInt8) : Option (List UInt8) := opsL.find? fun o => o.isPrefixOf s
def opL (k n s : List UInt8) : Rd Tok :=
  match opOf s with
  | none => .bad
  | some o => match s.drop o.length with
    | 34 :: r => match valL r with | .bad => .bad | .cut => .cut | .ok v q => .ok ⟨k, n, o, v⟩ q
    | _ => .bad
def nameL (k s1 : List UInt8) : Rd Tok :=
  match (spanL nmCh s1).2 with
  | [] => .cut
  | c :: s2 => if (spanL nmCh s1).1 = [] then .bad else if c = 125 then opL k (spanL nmCh s1).1 s2 else .bad
def tokenL (s : List UInt8) : Rd Tok :=
  if (spanL upCh s).1 = [] then .bad else
  match (spanL upCh s).2 with
  | [] => opL (spanL upCh s).1 [] []
  | c :: s1 => if c = 123 then nameL (spanL upCh s).1 s1 else opL (spanL upCh s).1 [] (c :: s1)
structure Good (x : Tok) : Prop where
  k0 : x.key ≠ []
  k1 : x.key.all upCh = true
  n1 : x.name.all nmCh = true
  o1 : x.op ∈ opsL
  v1 : goodV x.val
def fmtT (x : Tok) : List UInt8 := x.key ++ ((if x.name = [] then [] else 123 :: (x.name ++ [125])) ++ (x.op ++ 34 :: (fmtV x.val ++ [34])))
theorem opOf_app {o : List UInt8} (h : o ∈ opsL) (r : List UInt8) : opOf (o ++ 34 :: r) = some o := by
  simp only [opsL, List.mem_cons, List.not_mem_nil, or_false] at h
  rcases h with rfl | rfl | rfl | rfl | rfl | rfl <;> rfl
theorem op_head {o : List UInt8} (h : o ∈ opsL) : ∃ b t, o = b :: t ∧ upCh b = false ∧ b ≠ 123 := by
  simp only [opsL, List.mem_cons, List.not_mem_nil, or_false] at h
  rcases h with rfl | rfl | rfl | rfl | rfl | rfl <;> exact ⟨_, _, rfl, rfl, by decide⟩
theorem opL_fmt {x : Tok} (h : Good x) (r : List UInt8) : opL x.key x.name (x.op ++ 34 :: (fmtV x.val ++ 34 :: r)) = .ok x r := by
  unfold opL
  rw [opOf_app h.o1]
  simp only [List.drop_left, valL_fmt _ _ h.v1]
/-- A TOKEN's TEXT IS READ AS THIS TOKEN. -/
theorem tokenL_fmt {x : Tok} (h : Good x) (r : List UInt8) : tokenL (fmtT x ++ r) = .ok x r := by
  obtain ⟨b, t, ho, hu, h123⟩ := op_head h.o1
  have e1 : fmtT x ++ r = x.key ++ ((if x.name = [] then [] else 123 :: (x.name ++ [125])) ++ (x.op ++ 34 :: (fmtV x.val ++ 34 :: r))) := by
    unfold fmtT
    simp only [List.append_assoc, List.cons_append, List.nil_append]
  have hs := spanL_app upCh x.key ((if x.name = [] then [] else 123 :: (x.name ++ [125])) ++ (x.op ++ 34 :: (fmtV x.val ++ 34 :: r))) h.k1 (fun c s hc => by
    by_cases hn : x.name = []
    · rw [if_pos hn, List.nil_append, ho, List.cons_append] at hc
      cases hc
      exact hu
    · rw [if_neg hn] at hc
      cases hc
      rfl)
  rw [e1]
  unfold tokenL
  rw [hs]
  rw [if_neg h.k0]
  by_cases hn : x.name = []
  · rw [if_pos hn, List.nil_append]
    have hf := opL_fmt h r
    rw [hn] at hf
    rw [ho, List.cons_append] at hf ⊢
    simp only [if_neg h123]
    exact hf
  · rw [if_neg hn, List.cons_append, List.append_assoc]
    have hs2 := spanL_app nmCh x.name (125 :: (x.op ++ 34 :: (fmtV x.val ++ 34 :: r))) h.n1 (fun c s hc => by cases hc; rfl)
    simp only [if_true, nameL, List.cons_append, List.nil_append, hs2, if_neg hn]
    exact opL_fmt h r

/-- What is read as a value can be written, if it was printable. -/
theorem valL_good : ∀ (n : Nat) (s v q : List UInt8), s.length ≤ n → s.all (fun b => prCh b || b == 9) = true → valL s = .ok v q → goodV v ∧ (∃ p, s = p ++ 34 :: q) ∧ (s.head? = some 34 → v = []) ∧ (v = [] → s.head? = some 34)
  | _, [], v, q, _, _, h => by
    rw [valL.eq_def] at h
    cases h
  | 0, b :: r, _, _, hn, _, _ => by simp at hn
  | n + 1, b :: r, v, q, hn, hp, h => by
    rw [List.all_cons, Bool.and_eq_true] at hp
    by_cases h1 : b = 34
    · subst h1
      rw [valL.eq_def] at h
      simp only [if_true] at h
      cases h
      exact ⟨⟨rfl, by simp⟩, ⟨[], rfl⟩, fun _ => rfl, fun _ => rfl⟩
    · by_cases h2 : b = 9
      · subst h2
        rw [valL.eq_def] at h
        simp only [if_neg h1, if_true] at h
        cases h
      · by_cases h3 : b = 92 ∧ ∃ r', r = 34 :: r'
        · obtain ⟨rfl, r', rfl⟩ := h3
          rw [valL_esc] at h
          split at h
          · cases h
          · cases h
          · rename_i v' q' hv'
            cases h
            rw [List.all_cons, Bool.and_eq_true] at hp
            obtain ⟨g, ⟨p, hpq⟩, g3, g4⟩ := valL_good n r' v' q (by simp at hn ⊢; omega) hp.2.2 hv'
            refine ⟨⟨by rw [List.all_cons, g.1]; rfl, ?_⟩, ⟨92 :: 34 :: p, by rw [hpq]; rfl⟩, fun e => by simp at e, fun e => by cases e⟩
            match v', g with
            | [], _ => simp
            | c :: v'', g => rw [List.getLast?_cons_cons]; exact g.2
        · rw [valL_step b r h1 h2 (fun hb r' hr => h3 ⟨hb, r', hr⟩)] at h
          split at h
          · cases h
          · cases h
          · rename_i v' q' hv'
            cases h
            obtain ⟨g, ⟨p, hpq⟩, g3, g4⟩ := valL_good n r v' q (by simp at hn ⊢; omega) hp.2 hv'
            have hb : prCh b = true := by
              have := hp.1
              simp only [Bool.or_eq_true, beq_iff_eq] at this
              exact this.resolve_right h2
            refine ⟨⟨by rw [List.all_cons, hb, g.1]; rfl, ?_⟩, ⟨b :: p, by rw [hpq]; rfl⟩, fun e => by simp at e; exact absurd e h1, fun e => by cases e⟩
            match v', g, g4 with
            | [], _, g4 =>
              simp only [List.getLast?_singleton, ne_eq, Option.some.injEq]
              intro hb92
              have := g4 rfl
              match r, this with
              | c :: r', e =>
                simp at e
                exact h3 ⟨hb92, r', by rw [e]⟩
            | c :: v'', g, _ => rw [List.getLast?_cons_cons]; exact g.2
end Go.Proofs.YtfpkppgecmbglaaGreatDoor
