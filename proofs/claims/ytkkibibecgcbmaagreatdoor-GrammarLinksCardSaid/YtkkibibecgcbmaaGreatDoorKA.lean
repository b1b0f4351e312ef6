/- Tokens of lines, on lists of bytes: a token's text is read back, and what is read can be written. Plain facts: no memory, no seat. Pieces of templates, on lists of bytes: what is written for a piece is read as it. Plain facts: no memory, no seat. Templates, on lists of bytes: the pieces of the template of pieces are these pieces. Plain facts: no memory, no seat. Templates: doubling, the words of a result, what the laws' own templates are parsed as. Plain facts: no memory, no seat. Templates, on lists of bytes: reading them piece by piece, whole texts or single bytes. Plain facts: no memory, no seat. What stays; the tape of drawn numbers. -/
import Derived.Lib.Hide
import Derived.Test.YtkkibibecgcbmaaGreatDoorProg
import Derived.WalkKit
import Derived.WalkSpells
import Derived.WalkLawsBesides
import Derived.Lib.Walk
import Derived.Lib.Strings
import Derived.Lib.SliceRun
import Derived.Laws.Strings3
import Derived.Laws.Cover1
import Derived.Laws.ResultCell
import Derived.Laws.CopyOwn
import Derived.Deep.LoopGhost
import Derived.Deep.WholeRow
import Derived.Deep.QuietTactic
import Derived.BigQuiet
import Derived.Deep.AppendLies
import Derived.Maps.AppendAt
import Derived.Maps.Range
import Derived.OwnWalk
import Derived.Deep.MidRow
namespace Go.Proofs.YtkkibibecgcbmaaGreatDoor

structure Tok where
  key : List UInt8
  name : List UInt8
  op : List UInt8
  val : List UInt8
def upCh (b : UInt8) : Bool := 65 ≤ b && b ≤ 90
def nmCh (b : UInt8) : Bool := 33 ≤ b && b ≤ 126 && b != 123 && b != 125 && b != 34
def prCh (b : UInt8) : Bool := 32 ≤ b && b ≤ 126
def opsL : List (List UInt8) := [[61, 61], [33, 61], [43, 61], [45, 61], [58, 61], [61]]
/-- The bytes at the beginning that p holds of, and the rest. -/
def spanL (p : UInt8 → Bool) : List UInt8 → List UInt8 × List UInt8
  | [] => ([], [])
  | b :: s => if p b then (b :: (spanL p s).1, (spanL p s).2) else ([], b :: s)
theorem spanL_app (p : UInt8 → Bool) : ∀ (a r : List UInt8), a.all p = true → (∀ b s, r = b :: s → p b = false) → spanL p (a ++ r) = (a, r)
  | [], [], _, _ => rfl
  | [], b :: s, _, h => by simp [spanL, h b s rfl]
  | b :: a, r, ha, h => by
    rw [List.all_cons, Bool.and_eq_true] at ha
    rw [List.cons_append, spanL, if_pos ha.1, spanL_app p a r ha.2 h]
theorem spanL_eq (p : UInt8 → Bool) : ∀ s : List UInt8, (spanL p s).1 ++ (spanL p s).2 = s ∧ (spanL p s).1.all p = true ∧ ∀ b r, (spanL p s).2 = b :: r → p b = false
  | [] => ⟨rfl, rfl, fun _ _ h => by cases h⟩
  | b :: s => by
    obtain ⟨h1, h2, h3⟩ := spanL_eq p s
    unfold spanL
    split
    · rename_i hb
      exact ⟨by rw [List.cons_append, h1], by rw [List.all_cons, hb, h2]; rfl, h3⟩
    · rename_i hb
      exact ⟨rfl, rfl, fun c r h => by cases h; simpa using hb⟩
/-- What ends a reading: an error's kind (1: the form, 2: something is open), or what was read, and the rest. -/
inductive Rd (α : Type) where
  | bad
  | cut
  | ok (x : α) (r : List UInt8)
/-- The value behind its opening quote. -/
def valL : List UInt8 → Rd (List UInt8)
  | [] => .cut
  | b :: r => if b = 34 then .ok [] r else if b = 9 then .bad else
    match b, r with
    | 92, 34 :: r' => match valL r' with | .bad => .bad | .cut => .cut | .ok v q => .ok (34 :: v) q
    | b, r => match valL r with | .bad => .bad | .cut => .cut | .ok v q => .ok (b :: v) q
def fmtV (v : List UInt8) : List UInt8 := v.flatMap fun b => if b = 34 then [92, 34] else [b]
/-- A value that can be written. -/
def goodV (v : List UInt8) : Prop := v.all prCh = true ∧ v.getLast? ≠ some 92
theorem valL_step (b : UInt8) (r : List UInt8) (h1 : b ≠ 34) (h2 : b ≠ 9) (h3 : b = 92 → ∀ q, r ≠ 34 :: q) : valL (b :: r) = match valL r with | .bad => .bad | .cut => .cut | .ok v q => .ok (b :: v) q := by
  rw [valL.eq_def]
  simp only [if_neg h1, if_neg h2]
  split
  · rename_i r'
    exact absurd rfl (h3 rfl r')
  · rfl
theorem valL_esc (r : List UInt8) : valL (92 :: 34 :: r) = match valL r with | .bad => .bad | .cut => .cut | .ok v q => .ok (34 :: v) q := by
  rw [valL.eq_def]
  rfl
theorem fmtV_cons (b : UInt8) (v : List UInt8) : fmtV (b :: v) = (if b = 34 then [92, 34] else [b]) ++ fmtV v := rfl
theorem fmtV_head (v : List UInt8) (r q : List UInt8) (h : v ≠ []) : fmtV v ++ r ≠ 34 :: q := by
  match v, h with
  | b :: v, _ =>
    rw [fmtV_cons]
    by_cases e : b = 34
    · rw [if_pos e]
      intro h
      cases h
    · rw [if_neg e]
      intro h
      cases h
      exact e rfl
theorem valL_fmt : ∀ (v r : List UInt8), goodV v → valL (fmtV v ++ 34 :: r) = .ok v r
  | [], r, _ => by
    rw [valL.eq_def]
    rfl
  | b :: v, r, ⟨h1, h2⟩ => by
    rw [List.all_cons, Bool.and_eq_true] at h1
    have hv : goodV v := ⟨h1.2, fun e => h2 (by
      match v, e with
      | c :: v', e => rw [List.getLast?_cons_cons]; exact e)⟩
    have ih := valL_fmt v r hv
    rw [fmtV_cons]
    by_cases e : b = 34
    · rw [if_pos e, List.append_assoc, List.cons_append, List.cons_append, List.nil_append, valL_esc, ih, e]
    · rw [if_neg e, List.append_assoc, List.cons_append, List.nil_append, valL_step b _ e (by rintro rfl; exact absurd h1.1 (by decide)) (fun hb q => ?_), ih]
      match v with
      | [] => exact absurd (by rw [hb]; rfl) h2
      | c :: v' => exact fmtV_head _ _ _ (by simp)

/-- The first of the ops that stands at the beginning. -/
def opOf (s : List UInt8) : Option (List UInt8) := opsL.find? fun o => o.isPrefixOf s
def opL (k n s : List UInt8) : Rd Tok :=
  match opOf s with
  | none => .bad
  | some o => match s.drop o.length with
    | 34 :: r => match valL r with | .bad => .bad | .cut => .cut | .ok v q => .ok ⟨k, n, o, v⟩ q
    | _ => .bad
def nameL (k s1 : List UInt8) : Rd Tok :=
  match (spanL nmCh s1).2 with
  | [] => .cut
  | c :: s2 => if (spanL nmCh s1).1 = [] then .bad else if c = 125 then opL k (spanL nmCh s1).1 s2 else .bad
def tokenL (s : List UInt8) : Rd Tok :=
  if (spanL upCh s).1 = [] then .bad else
  match (spanL upCh s).2 with
  | [] => opL (spanL upCh s).1 [] []
  | c :: s1 => if c = 123 then nameL (spanL upCh s).1 s1 else opL (spanL upCh s).1 [] (c :: s1)
structure Good (x : Tok) : Prop where
  k0 : x.key ≠ []
  k1 : x.key.all upCh = true
  n1 : x.name.all nmCh = true
  o1 : x.op ∈ opsL
  v1 : goodV x.val
def fmtT (x : Tok) : List UInt8 := x.key ++ ((if x.name = [] then [] else 123 :: (x.name ++ [125])) ++ (x.op ++ 34 :: (fmtV x.val ++ [34])))
theorem opOf_app {o : List UInt8} (h : o ∈ opsL) (r : List UInt8) : opOf (o ++ 34 :: r) = some o := by
  simp only [opsL, List.mem_cons, List.not_mem_nil, or_false] at h
  rcases h with rfl | rfl | rfl | rfl | rfl | rfl <;> rfl
theorem op_head {o : List UInt8} (h : o ∈ opsL) : ∃ b t, o = b :: t ∧ upCh b = false ∧ b ≠ 123 := by
  simp only [opsL, List.mem_cons, List.not_mem_nil, or_false] at h
  rcases h with rfl | rfl | rfl | rfl | rfl | rfl <;> exact ⟨_, _, rfl, rfl, by decide⟩
theorem opL_fmt {x : Tok} (h : Good x) (r : List UInt8) : opL x.key x.name (x.op ++ 34 :: (fmtV x.val ++ 34 :: r)) = .ok x r := by
  unfold opL
  rw [opOf_app h.o1]
  simp only [List.drop_left, valL_fmt _ _ h.v1]
/-- A TOKEN's TEXT IS READ AS THIS TOKEN. -/
theorem tokenL_fmt {x : Tok} (h : Good x) (r : List UInt8) : tokenL (fmtT x ++ r) = .ok x r := by
  obtain ⟨b, t, ho, hu, h123⟩ := op_head h.o1
  have e1 : fmtT x ++ r = x.key ++ ((if x.name = [] then [] else 123 :: (x.name ++ [125])) ++ (x.op ++ 34 :: (fmtV x.val ++ 34 :: r))) := by
    unfold fmtT
    simp only [List.append_assoc, List.cons_append, List.nil_append]
  have hs := spanL_app upCh x.key ((if x.name = [] then [] else 123 :: (x.name ++ [125])) ++ (x.op ++ 34 :: (fmtV x.val ++ 34 :: r))) h.k1 (fun c s hc => by
    by_cases hn : x.name = []
    · rw [if_pos hn, List.nil_append, ho, List.cons_append] at hc
      cases hc
      exact hu
    · rw [if_neg hn] at hc
      cases hc
      rfl)
  rw [e1]
  unfold tokenL
  rw [hs]
  rw [if_neg h.k0]
  by_cases hn : x.name = []
  · rw [if_pos hn, List.nil_append]
    have hf := opL_fmt h r
    rw [hn] at hf
    rw [ho, List.cons_append] at hf ⊢
    simp only [if_neg h123]
    exact hf
  · rw [if_neg hn, List.cons_append, List.append_assoc]
    have hs2 := spanL_app nmCh x.name (125 :: (x.op ++ 34 :: (fmtV x.val ++ 34 :: r))) h.n1 (fun c s hc => by cases hc; rfl)
    simp only [if_true, nameL, List.cons_append, List.nil_append, hs2, if_neg hn]
    exact opL_fmt h r

/-- What is read as a value can be written, if it was printable. -/
theorem valL_good : ∀ (n : Nat) (s v q : List UInt8), s.length ≤ n → s.all (fun b => prCh b || b == 9) = true → valL s = .ok v q → goodV v ∧ (∃ p, s = p ++ 34 :: q) ∧ (s.head? = some 34 → v = []) ∧ (v = [] → s.head? = some 34)
  | _, [], v, q, _, _, h => by
    rw [valL.eq_def] at h
    cases h
  | 0, b :: r, _, _, hn, _, _ => by simp at hn
  | n + 1, b :: r, v, q, hn, hp, h => by
    rw [List.all_cons, Bool.and_eq_true] at hp
    by_cases h1 : b = 34
    · subst h1
      rw [valL.eq_def] at h
      simp only [if_true] at h
      cases h
      exact ⟨⟨rfl, by simp⟩, ⟨[], rfl⟩, fun _ => rfl, fun _ => rfl⟩
    · by_cases h2 : b = 9
      · subst h2
        rw [valL.eq_def] at h
        simp only [if_neg h1, if_true] at h
        cases h
      · by_cases h3 : b = 92 ∧ ∃ r', r = 34 :: r'
        · obtain ⟨rfl, r', rfl⟩ := h3
          rw [valL_esc] at h
          split at h
          · cases h
          · cases h
          · rename_i v' q' hv'
            cases h
            rw [List.all_cons, Bool.and_eq_true] at hp
            obtain ⟨g, ⟨p, hpq⟩, g3, g4⟩ := valL_good n r' v' q (by simp at hn ⊢; omega) hp.2.2 hv'
            refine ⟨⟨by rw [List.all_cons, g.1]; rfl, ?_⟩, ⟨92 :: 34 :: p, by rw [hpq]; rfl⟩, fun e => by simp at e, fun e => by cases e⟩
            match v', g with
            | [], _ => simp
            | c :: v'', g => rw [List.getLast?_cons_cons]; exact g.2
        · rw [valL_step b r h1 h2 (fun hb r' hr => h3 ⟨hb, r', hr⟩)] at h
          split at h
          · cases h
          · cases h
          · rename_i v' q' hv'
            cases h
            obtain ⟨g, ⟨p, hpq⟩, g3, g4⟩ := valL_good n r v' q (by simp at hn ⊢; omega) hp.2 hv'
            have hb : prCh b = true := by
              have := hp.1
              simp only [Bool.or_eq_true, beq_iff_eq] at this
              exact this.resolve_right h2
            refine ⟨⟨by rw [List.all_cons, hb, g.1]; rfl, ?_⟩, ⟨b :: p, by rw [hpq]; rfl⟩, fun e => by simp at e; exact absurd e h1, fun e => by cases e⟩
            match v', g, g4 with
            | [], _, g4 =>
              simp only [List.getLast?_singleton, ne_eq, Option.some.injEq]
              intro hb92
              have := g4 rfl
              match r, this with
              | c :: r', e =>
                simp at e
                exact h3 ⟨hb92, r', by rw [e]⟩
            | c :: v'', g, _ => rw [List.getLast?_cons_cons]; exact g.2
end Go.Proofs.YtkkibibecgcbmaaGreatDoor

namespace Go.Proofs.YtkkibibecgcbmaaGreatDoor

/-- A piece of a template. -/
structure Pc where
  kind : Nat
  text : List UInt8
  word : Nat
  more : Bool
def azCh (b : UInt8) : Bool := 97 ≤ b && b ≤ 122
def wordOf : Nat → List UInt8
  | 2 => [107, 101, 114, 110, 101, 108]
  | 3 => [110, 117, 109, 98, 101, 114]
  | 4 => [100, 101, 118, 112, 97, 116, 104]
  | 5 => [105, 100]
  | 6 => [100, 114, 105, 118, 101, 114]
  | 7 => [97, 116, 116, 114]
  | 8 => [101, 110, 118]
  | 9 => [114, 101, 115, 117, 108, 116]
  | 10 => [112, 97, 114, 101, 110, 116]
  | 11 => [110, 97, 109, 101]
  | _ => []
def letterOf : Nat → UInt8
  | 2 => 107 | 3 => 110 | 4 => 112 | 5 => 98 | 6 => 100 | 7 => 115 | 8 => 69 | 9 => 99 | 10 => 80 | _ => 32
def kindOfWord (w : List UInt8) : Nat := ([2, 3, 4, 5, 6, 7, 8, 9, 10, 11].find? fun k => wordOf k == w).getD 0
def kindOfLetter (b : UInt8) : Nat := ([2, 3, 4, 5, 6, 7, 8, 9, 10].find? fun k => letterOf k == b).getD 0
theorem kindOfWord_of {k : Nat} (h1 : 2 ≤ k) (h2 : k ≤ 11) : kindOfWord (wordOf k) = k ∧ (wordOf k).all azCh = true ∧ ∃ b t, wordOf k = b :: t ∧ b ≠ 36 := by
  have : k = 2 ∨ k = 3 ∨ k = 4 ∨ k = 5 ∨ k = 6 ∨ k = 7 ∨ k = 8 ∨ k = 9 ∨ k = 10 ∨ k = 11 := by omega
  rcases this with rfl | rfl | rfl | rfl | rfl | rfl | rfl | rfl | rfl | rfl <;> exact ⟨by decide, by decide, _, _, rfl, by decide⟩
theorem kindOfLetter_of {k : Nat} (h1 : 2 ≤ k) (h2 : k ≤ 10) : kindOfLetter (letterOf k) = k ∧ letterOf k ≠ 37 := by
  have : k = 2 ∨ k = 3 ∨ k = 4 ∨ k = 5 ∨ k = 6 ∨ k = 7 ∨ k = 8 ∨ k = 9 ∨ k = 10 := by omega
  rcases this with rfl | rfl | rfl | rfl | rfl | rfl | rfl | rfl | rfl <;> exact ⟨by decide, by decide⟩
/-- What braces hold, and what stands behind them. -/
def braceL : List UInt8 → Option (List UInt8 × List UInt8)
  | 123 :: s => match (spanL (fun b => b != 125) s).2 with
    | [] => none
    | _ :: r => some ((spanL (fun b => b != 125) s).1, r)
  | _ => none
theorem braceL_of {a : List UInt8} (h : a.all (fun b => b != 125) = true) (r : List UInt8) : braceL (123 :: (a ++ 125 :: r)) = some (a, r) := by
  have hs := spanL_app (fun b => b != 125) a (125 :: r) h (fun b s e => by cases e; rfl)
  simp only [braceL, hs]
/-- A number from 1 to 99. -/
def decN (n : Nat) : List UInt8 := if n < 10 then [UInt8.ofNat (48 + n)] else [UInt8.ofNat (48 + n / 10), UInt8.ofNat (48 + n % 10)]
def numN (s : List UInt8) : Option Nat :=
  match s with
  | [a] => if 49 ≤ a.toNat ∧ a.toNat ≤ 57 then some (a.toNat - 48) else none
  | [a, b] => if 49 ≤ a.toNat ∧ a.toNat ≤ 57 ∧ 48 ≤ b.toNat ∧ b.toNat ≤ 57 then some (10 * (a.toNat - 48) + (b.toNat - 48)) else none
  | _ => none
theorem ofNat_toNat {m : Nat} (h : m < 256) : (UInt8.ofNat m).toNat = m := by
  simp [UInt8.toNat_ofNat']
  omega
theorem numN_decN {n : Nat} (h1 : 1 ≤ n) (h2 : n ≤ 99) : numN (decN n) = some n := by
  unfold decN
  split
  · rename_i h
    simp only [numN, ofNat_toNat (show 48 + n < 256 by omega)]
    rw [if_pos (by omega)]
    congr 1
    omega
  · simp only [numN, ofNat_toNat (show 48 + n / 10 < 256 by omega), ofNat_toNat (show 48 + n % 10 < 256 by omega)]
    rw [if_pos (by omega)]
    congr 1
    omega
def countL (s : List UInt8) : Option (Nat × Bool) := if s.getLast? = some 43 then (numN s.dropLast).map fun n => (n, true) else (numN s).map fun n => (n, false)
theorem decN_ch {n : Nat} (h1 : 1 ≤ n) (h2 : n ≤ 99) : (decN n).all (fun b => b != 125) = true ∧ (decN n).getLast? ≠ some 43 := by
  have d : ∀ m : Nat, m < 10 → UInt8.ofNat (48 + m) ≠ 125 ∧ UInt8.ofNat (48 + m) ≠ 43 := fun m hm => by
    constructor
    · intro e
      have := congrArg UInt8.toNat e
      rw [ofNat_toNat (by omega)] at this
      have h3 : (125 : UInt8).toNat = 125 := rfl
      omega
    · intro e
      have := congrArg UInt8.toNat e
      rw [ofNat_toNat (by omega)] at this
      have h3 : (43 : UInt8).toNat = 43 := rfl
      omega
  unfold decN
  split
  · rename_i h
    have := d n h
    generalize UInt8.ofNat (48 + n) = b at this ⊢
    simp [this.1, this.2]
  · have e1 := d (n / 10) (by omega)
    have e2 := d (n % 10) (by omega)
    generalize UInt8.ofNat (48 + n / 10) = b at e1 ⊢
    generalize UInt8.ofNat (48 + n % 10) = c at e2 ⊢
    simp [e1.1, e2.1, e2.2]
theorem countL_one {n : Nat} (h1 : 1 ≤ n) (h2 : n ≤ 99) : countL (decN n) = some (n, false) := by
  unfold countL
  rw [if_neg (decN_ch h1 h2).2, numN_decN h1 h2]
  rfl
theorem countL_more {n : Nat} (h1 : 1 ≤ n) (h2 : n ≤ 99) : countL (decN n ++ [43]) = some (n, true) := by
  unfold countL
  rw [if_pos (by simp), List.dropLast_concat, numN_decN h1 h2]
  rfl

section
variable (nm ky : List UInt8 → Bool)
/-- A piece whose kind is known, behind its word or letter, and the rest. -/
def placeL (k : Nat) (s : List UInt8) : Option (Pc × List UInt8) :=
  if k = 0 then none
  else if k = 7 then (braceL s).bind fun x => if nm x.1 then some (⟨7, x.1, 0, false⟩, x.2) else none
  else if k = 8 then (braceL s).bind fun x => if ky x.1 then some (⟨8, x.1, 0, false⟩, x.2) else none
  else if k = 9 ∧ s.head? = some 123 then (braceL s).bind fun x => (countL x.1).map fun c => (⟨9, [], c.1, c.2⟩, x.2)
  else some (⟨k, [], 0, false⟩, s)
/-- One piece (of texts: one byte) at the beginning of a text that is not empty. -/
def stepL : List UInt8 → Option (Pc × List UInt8)
  | [] => none
  | b :: r =>
    if b ≠ 36 ∧ b ≠ 37 then some (⟨1, [b], 0, false⟩, r)
    else if r.head? = some b then some (⟨1, [b], 0, false⟩, r.tail)
    else if b = 37 then match r with
      | [] => none
      | c :: r' => placeL nm ky (kindOfLetter c) r'
    else placeL nm ky (kindOfWord (spanL azCh r).1) (spanL azCh r).2
/-- The piece is as in the table. -/
structure Well (p : Pc) : Prop where
  k1 : 2 ≤ p.kind
  k2 : p.kind ≤ 11
  t7 : p.kind = 7 → nm p.text = true
  t8 : p.kind = 8 → ky p.text = true
  t0 : p.kind ≠ 7 → p.kind ≠ 8 → p.text = []
  w9 : p.kind = 9 → p.word ≤ 99 ∧ (p.word = 0 → p.more = false)
  w0 : p.kind ≠ 9 → p.word = 0 ∧ p.more = false
def tailOf (p : Pc) : List UInt8 :=
  if p.kind = 7 ∨ p.kind = 8 then 123 :: (p.text ++ [125])
  else if p.kind = 9 ∧ 0 < p.word then 123 :: ((if p.more then decN p.word ++ [43] else decN p.word) ++ [125])
  else []
variable {nm ky}
theorem placeL_of (hn : ∀ s, nm s = true → s.all (fun b => b != 125) = true) (hk : ∀ s, ky s = true → s.all (fun b => b != 125) = true) {p : Pc} (h : Well nm ky p) (r : List UInt8)
    (h9 : p.kind = 9 → p.word = 0 → r.head? ≠ some 123) : placeL nm ky p.kind (tailOf p ++ r) = some (p, r) := by
  obtain ⟨k, t, w, m⟩ := p
  obtain ⟨k1, k2, t7, t8, t0, w9, w0⟩ := h
  simp only at k1 k2 t7 t8 t0 w9 w0 h9
  have hk0 : ¬ k = 0 := by omega
  unfold placeL
  rw [if_neg hk0]
  by_cases e7 : k = 7
  · subst e7
    obtain ⟨rfl, rfl⟩ := w0 (by decide)
    simp only [tailOf, true_or, if_true, List.cons_append, List.append_assoc, List.nil_append, braceL_of (hn t (t7 rfl)), Option.bind_some, t7 rfl]
  by_cases e8 : k = 8
  · subst e8
    obtain ⟨rfl, rfl⟩ := w0 (by decide)
    simp only [tailOf, or_true, if_true, List.cons_append, List.append_assoc, List.nil_append, braceL_of (hk t (t8 rfl)), Option.bind_some, t8 rfl]
    rfl
  obtain rfl := t0 e7 e8
  rw [if_neg e7, if_neg e8]
  by_cases e9 : k = 9
  · subst e9
    obtain ⟨hw, hm⟩ := w9 rfl
    by_cases hw0 : w = 0
    · subst hw0
      obtain rfl := hm rfl
      have ht : tailOf ⟨9, [], 0, false⟩ = [] := by simp [tailOf]
      rw [ht, List.nil_append, if_neg (fun x => h9 rfl rfl x.2)]
    · have hw1 : 1 ≤ w := by omega
      cases m with
      | false =>
        have ht : tailOf ⟨9, [], w, false⟩ ++ r = 123 :: (decN w ++ 125 :: r) := by simp [tailOf, Nat.lt_of_lt_of_le Nat.zero_lt_one hw1]
        rw [ht, if_pos ⟨rfl, rfl⟩, braceL_of (decN_ch hw1 hw).1]
        simp [countL_one hw1 hw]
      | true =>
        have ht : tailOf ⟨9, [], w, true⟩ ++ r = 123 :: ((decN w ++ [43]) ++ 125 :: r) := by simp [tailOf, Nat.lt_of_lt_of_le Nat.zero_lt_one hw1]
        rw [ht, if_pos ⟨rfl, rfl⟩, braceL_of (by rw [List.all_append, (decN_ch hw1 hw).1]; rfl)]
        simp [countL_more hw1 hw]
  · obtain ⟨rfl, rfl⟩ := w0 e9
    have ht : tailOf ⟨k, [], 0, false⟩ = [] := by simp [tailOf, e7, e8, e9]
    rw [ht, List.nil_append, if_neg (fun x => e9 x.1)]
/-- WHAT IS WRITTEN WITH "$" IS READ AS THE PIECE. -/
theorem stepL_word (hn : ∀ s, nm s = true → s.all (fun b => b != 125) = true) (hk : ∀ s, ky s = true → s.all (fun b => b != 125) = true) {p : Pc} (h : Well nm ky p) (r : List UInt8)
    (h9 : p.kind = 9 → p.word = 0 → r.head? ≠ some 123) (hz : tailOf p = [] → ∀ b s, r = b :: s → azCh b = false) : stepL nm ky (36 :: (wordOf p.kind ++ (tailOf p ++ r))) = some (p, r) := by
  obtain ⟨e1, e2, b, t, e3, e4⟩ := kindOfWord_of h.k1 h.k2
  have hs := spanL_app azCh (wordOf p.kind) (tailOf p ++ r) e2 (fun c s hc => by
    by_cases ht : tailOf p = []
    · rw [ht, List.nil_append] at hc
      exact hz ht c s hc
    · unfold tailOf at ht hc
      split at ht
      · rw [if_pos (by assumption)] at hc
        cases hc
        rfl
      · rw [if_neg (by assumption)] at hc
        split at ht
        · rw [if_pos (by assumption)] at hc
          cases hc
          rfl
        · exact absurd rfl ht)
  have hh : (wordOf p.kind ++ (tailOf p ++ r)).head? ≠ some 36 := by
    rw [e3, List.cons_append, List.head?_cons]
    intro e
    exact e4 (Option.some.inj e)
  unfold stepL
  dsimp only
  rw [if_neg (by simp), if_neg hh, if_neg (by decide), hs, e1]
  exact placeL_of hn hk h r h9
/-- WHAT IS WRITTEN WITH "%" IS READ AS THE PIECE. -/
theorem stepL_letter (hn : ∀ s, nm s = true → s.all (fun b => b != 125) = true) (hk : ∀ s, ky s = true → s.all (fun b => b != 125) = true) {p : Pc} (h : Well nm ky p) (h11 : p.kind ≠ 11) (ht : tailOf p = []) (r : List UInt8)
    (h9 : p.kind = 9 → p.word = 0 → r.head? ≠ some 123) : stepL nm ky (37 :: letterOf p.kind :: r) = some (p, r) := by
  obtain ⟨e1, e2⟩ := kindOfLetter_of h.k1 (by have := h.k2; omega)
  unfold stepL
  dsimp only
  rw [if_neg (by simp), if_neg (by rw [List.head?_cons]; intro e; exact e2 (Option.some.inj e)), if_pos rfl]
  simp only [e1]
  have := placeL_of hn hk h r h9
  rwa [ht, List.nil_append] at this
/-- A byte of a text. -/
def escL (t : List UInt8) : List UInt8 := t.flatMap fun b => if b = 36 ∨ b = 37 then [b, b] else [b]
theorem stepL_byte (b : UInt8) (r : List UInt8) : stepL nm ky (escL [b] ++ r) = some (⟨1, [b], 0, false⟩, r) := by
  by_cases h : b = 36 ∨ b = 37
  · have e : escL [b] ++ r = b :: b :: r := by simp [escL, h]
    rw [e]
    unfold stepL
    dsimp only
    rw [if_neg (by rcases h with rfl | rfl <;> simp), if_pos (by rw [List.head?_cons])]
    rfl
  · have e : escL [b] ++ r = b :: r := by simp [escL, h]
    rw [e]
    unfold stepL
    dsimp only
    rw [if_pos ⟨fun x => h (.inl x), fun x => h (.inr x)⟩]
end
end Go.Proofs.YtkkibibecgcbmaaGreatDoor

namespace Go.Proofs.YtkkibibecgcbmaaGreatDoor

section
variable (nm ky : List UInt8 → Bool)
/-- The pieces of a text, texts in single bytes. -/
def rawF : Nat → List UInt8 → Option (List Pc)
  | _, [] => some []
  | 0, _ :: _ => none
  | f + 1, b :: s => match stepL nm ky (b :: s) with
    | none => none
    | some (p, r) => (rawF f r).map (p :: ·)
def pcT (b : UInt8) : Pc := ⟨1, [b], 0, false⟩
/-- A piece more; neighbouring texts are joined. -/
def addP (l : List Pc) (p : Pc) : List Pc :=
  match l.getLast? with
  | none => l ++ [p]
  | some q => if p.kind = 1 ∧ q.kind = 1 then l.dropLast ++ [⟨q.kind, q.text ++ p.text, q.word, q.more⟩] else l ++ [p]
def parseP (s : List UInt8) : Option (List Pc) := (rawF nm ky s.length s).map fun l => l.foldl addP []
/-- The text that stands next. -/
def nextT : List Pc → List UInt8
  | [] => []
  | q :: _ => if q.kind = 1 then q.text else []
def azHead (t : List UInt8) : Bool := match t with | [] => false | b :: _ => azCh b
def fmtP (p : Pc) (next : List UInt8) : List UInt8 :=
  if p.kind = 1 then escL p.text
  else if tailOf p = [] ∧ azHead next = true then [37, letterOf p.kind]
  else 36 :: (wordOf p.kind ++ tailOf p)
def fmtAll : List Pc → List UInt8
  | [] => []
  | p :: l => fmtP p (nextT l) ++ fmtAll l
/-- What Format takes. -/
def FineL : List Pc → Prop
  | [] => True
  | p :: l => (p.kind = 1 → p.text ≠ [] ∧ p.word = 0 ∧ p.more = false ∧ ∀ q m, l = q :: m → q.kind ≠ 1) ∧
      (p.kind ≠ 1 → Well nm ky p ∧ (p.kind = 9 → p.word = 0 → (nextT l).head? ≠ some 123) ∧ (p.kind = 11 → azHead (nextT l) = false)) ∧ FineL l
def unitsL (l : List Pc) : List Pc := l.flatMap fun p => if p.kind = 1 then p.text.map pcT else [p]
variable {nm ky}
theorem escL_cons (b : UInt8) (t : List UInt8) : escL (b :: t) = escL [b] ++ escL t := by simp [escL]
theorem escL_one (b : UInt8) : ∃ r, escL [b] = b :: r := by
  by_cases h : b = 36 ∨ b = 37
  · exact ⟨[b], by simp [escL, h]⟩
  · exact ⟨[], by simp [escL, h]⟩
theorem escL_head {t : List UInt8} (h : t ≠ []) : (escL t).head? = t.head? := by
  cases t with
  | nil => exact absurd rfl h
  | cons b t =>
    obtain ⟨r, e⟩ := escL_one b
    rw [escL_cons, e]
    rfl
theorem escL_ne {t : List UInt8} (h : t ≠ []) : escL t ≠ [] := by
  intro e
  have := escL_head h
  rw [e] at this
  cases t with
  | nil => exact h rfl
  | cons b t => cases this
/-- What stands at the beginning of what is written. -/
theorem fmtAll_head {l : List Pc} (h : FineL nm ky l) : (∃ q m, l = q :: m ∧ q.kind = 1 ∧ (fmtAll l).head? = (nextT l).head?) ∨ (nextT l = [] ∧ (fmtAll l = [] ∨ (fmtAll l).head? = some 36 ∨ (fmtAll l).head? = some 37)) := by
  cases l with
  | nil => exact .inr ⟨rfl, .inl rfl⟩
  | cons q m =>
    by_cases hq : q.kind = 1
    · refine .inl ⟨q, m, rfl, hq, ?_⟩
      have hn := (h.1 hq).1
      have e := escL_head hn
      simp only [fmtAll, fmtP, if_pos hq, nextT]
      rw [List.head?_append, e]
      cases ht : q.text with
      | nil => exact absurd ht hn
      | cons b t => rfl
    · refine .inr ⟨by simp [nextT, hq], .inr ?_⟩
      simp only [fmtAll, fmtP, if_neg hq]
      split
      · exact .inr rfl
      · exact .inl rfl
theorem rawF_bytes : ∀ (t r : List UInt8) (f : Nat), rawF nm ky (t.length + f) (escL t ++ r) = (rawF nm ky f r).map (t.map pcT ++ ·)
  | [], r, f => by
    rw [List.length_nil, Nat.zero_add]
    cases h : rawF nm ky f r <;> simp [escL, h]
  | b :: t, r, f => by
    obtain ⟨e, he⟩ := escL_one b
    have ih := rawF_bytes t r f
    have hs := stepL_byte (nm := nm) (ky := ky) b (escL t ++ r)
    rw [he, List.cons_append] at hs
    rw [escL_cons, he, List.length_cons, show t.length + 1 + f = (t.length + f) + 1 by omega]
    simp only [List.cons_append, List.append_assoc] at hs ⊢
    rw [rawF, hs]
    simp only [ih, Option.map_map]
    rfl
theorem unitsL_cons (p : Pc) (l : List Pc) : unitsL (p :: l) = (if p.kind = 1 then p.text.map pcT else [p]) ++ unitsL l := rfl
theorem rawF_fmt (hn : ∀ s, nm s = true → s.all (fun b => b != 125) = true) (hk : ∀ s, ky s = true → s.all (fun b => b != 125) = true) : ∀ (l : List Pc) (f : Nat), FineL nm ky l → rawF nm ky ((unitsL l).length + f) (fmtAll l) = some (unitsL l)
  | [], f, _ => by simp [rawF, fmtAll, unitsL]
  | p :: l, f, h => by
    have ih := fun f => rawF_fmt hn hk l f h.2.2
    by_cases hp : p.kind = 1
    · rw [unitsL_cons, if_pos hp, List.length_append, List.length_map, Nat.add_assoc]
      simp only [fmtAll, fmtP, if_pos hp]
      rw [rawF_bytes, ih]
      rfl
    · obtain ⟨hw, h9, h11⟩ := h.2.1 hp
      have hd := fmtAll_head h.2.2
      have h9' : p.kind = 9 → p.word = 0 → (fmtAll l).head? ≠ some 123 := fun e1 e2 => by
        rcases hd with ⟨q, m, _, _, e⟩ | ⟨_, e | e | e⟩
        · rw [e]; exact h9 e1 e2
        · rw [e]; simp
        · rw [e]; simp
        · rw [e]; simp
      have hstep : stepL nm ky (fmtP p (nextT l) ++ fmtAll l) = some (p, fmtAll l) ∧ ∃ b s, fmtP p (nextT l) ++ fmtAll l = b :: s := by
        simp only [fmtP, if_neg hp]
        split
        · rename_i hc
          refine ⟨stepL_letter hn hk hw (fun e => ?_) hc.1 (fmtAll l) h9', _, _, rfl⟩
          rw [h11 e] at hc
          cases hc.2
        · rename_i hc
          refine ⟨?_, _, _, rfl⟩
          have := stepL_word hn hk hw (fmtAll l) h9' (fun ht b s hb => ?_)
          · rw [List.cons_append, List.append_assoc]
            exact this
          · have haz : azHead (nextT l) = false := by
              cases e : azHead (nextT l) with
              | false => rfl
              | true => exact absurd ⟨ht, e⟩ hc
            rcases hd with ⟨q, m, _, _, e⟩ | ⟨_, e | e | e⟩
            · rw [hb, List.head?_cons] at e
              cases hx : nextT l with
              | nil => rw [hx] at e; cases e
              | cons c t =>
                rw [hx, List.head?_cons] at e
                cases e
                rw [hx] at haz
                exact haz
            · rw [hb] at e; cases e
            · rw [hb] at e; cases e; rfl
            · rw [hb] at e; cases e; rfl
      obtain ⟨h1, b, s, h2⟩ := hstep
      rw [unitsL_cons, if_neg hp]
      simp only [fmtAll, List.length_append, List.length_cons, List.length_nil]
      rw [h2, show 0 + 1 + (unitsL l).length + f = ((unitsL l).length + f) + 1 by omega, rawF, ← h2, h1]
      simp only [ih, Option.map_some]
      rfl
/-- Joining gives the pieces again. -/
theorem addP_text (acc : List Pc) : ∀ (t u : List UInt8), (t.map pcT).foldl addP (acc ++ [⟨1, u, 0, false⟩]) = acc ++ [⟨1, u ++ t, 0, false⟩]
  | [], u => by simp
  | b :: t, u => by
    have e : addP (acc ++ [⟨1, u, 0, false⟩]) (pcT b) = acc ++ [⟨1, u ++ [b], 0, false⟩] := by
      simp [addP, pcT]
    rw [List.map_cons, List.foldl_cons, e, addP_text acc t (u ++ [b]), List.append_assoc]
    rfl
theorem addP_new (acc : List Pc) (p : Pc) (h : p.kind ≠ 1 ∨ ∀ q, acc.getLast? = some q → q.kind ≠ 1) : addP acc p = acc ++ [p] := by
  unfold addP
  cases e : acc.getLast? with
  | none => rfl
  | some q =>
    simp only
    rw [if_neg]
    rintro ⟨h1, h2⟩
    rcases h with h | h
    · exact h h1
    · exact h q e h2
theorem join_units : ∀ (l acc : List Pc), FineL nm ky l → (∀ q, acc.getLast? = some q → q.kind = 1 → ∀ p m, l = p :: m → p.kind ≠ 1) → (unitsL l).foldl addP acc = acc ++ l
  | [], acc, _, _ => by simp [unitsL]
  | p :: l, acc, h, ha => by
    rw [unitsL_cons, List.foldl_append]
    by_cases hp : p.kind = 1
    · obtain ⟨hne, hw, hm, hl⟩ := h.1 hp
      rw [if_pos hp]
      have e : (p.text.map pcT).foldl addP acc = acc ++ [p] := by
        obtain ⟨k, t, w, m⟩ := p
        simp only at hp hne hw hm
        subst hp; subst hw; subst hm
        cases t with
        | nil => exact absurd rfl hne
        | cons b t =>
          rw [List.map_cons, List.foldl_cons, addP_new acc (pcT b) (.inr fun q hq e => ha q hq e _ _ rfl rfl)]
          exact addP_text acc t [b]
      rw [e, join_units l (acc ++ [p]) h.2.2 (fun q hq _ q2 m hm2 => by simp at hq; exact hl q2 m hm2), List.append_assoc]
      rfl
    · rw [if_neg hp, List.foldl_cons, List.foldl_nil, addP_new acc p (.inl hp), join_units l (acc ++ [p]) h.2.2 (fun q hq e => by simp at hq; rw [← hq] at e; exact absurd e hp), List.append_assoc]
      rfl
theorem escL_len : ∀ t : List UInt8, t.length ≤ (escL t).length
  | [] => by simp [escL]
  | b :: t => by
    obtain ⟨r, e⟩ := escL_one b
    have := escL_len t
    rw [escL_cons, e]
    simp only [List.length_cons, List.length_append]
    omega
theorem units_len : ∀ l : List Pc, (unitsL l).length ≤ (fmtAll l).length
  | [] => by simp [unitsL]
  | p :: l => by
    have ih := units_len l
    rw [unitsL_cons]
    by_cases hp : p.kind = 1
    · have := escL_len p.text
      simp only [fmtAll, fmtP, if_pos hp, List.length_append, List.length_map]
      omega
    · simp only [fmtAll, fmtP, if_neg hp, List.length_append, List.length_cons, List.length_nil]
      split
      · simp only [List.length_cons, List.length_nil]
        omega
      · simp only [List.length_cons]
        omega
/-- THE PIECES OF THE TEMPLATE OF PIECES ARE THESE PIECES. -/
theorem parse_fmt (hn : ∀ s, nm s = true → s.all (fun b => b != 125) = true) (hk : ∀ s, ky s = true → s.all (fun b => b != 125) = true) {l : List Pc} (h : FineL nm ky l) : parseP nm ky (fmtAll l) = some l := by
  have hl := units_len l
  have := rawF_fmt hn hk l ((fmtAll l).length - (unitsL l).length) h
  rw [show (unitsL l).length + ((fmtAll l).length - (unitsL l).length) = (fmtAll l).length by omega] at this
  unfold parseP
  rw [this, Option.map_some, join_units l [] h (fun q hq => by cases hq), List.nil_append]
end
end Go.Proofs.YtkkibibecgcbmaaGreatDoor

namespace Go.Proofs.YtkkibibecgcbmaaGreatDoor

/-- A byte doubled. -/
def dblL (c : UInt8) (s : List UInt8) : List UInt8 := s.flatMap fun b => if b = c then [c, c] else [b]
theorem dblL_cons (c b : UInt8) (s : List UInt8) : dblL c (b :: s) = (if b = c then [c, c] else [b]) ++ dblL c s := rfl
theorem dblL_append (c : UInt8) (a b : List UInt8) : dblL c (a ++ b) = dblL c a ++ dblL c b := List.flatMap_append
theorem dbl_esc : ∀ s : List UInt8, dblL 37 (dblL 36 s) = escL s
  | [] => rfl
  | b :: s => by
    rw [dblL_cons, dblL_append, dbl_esc s, escL_cons b s]
    congr 1
    by_cases h1 : b = 36
    · subst h1; rfl
    · by_cases h2 : b = 37
      · subst h2; rfl
      · simp [dblL, escL, h1, h2]
section
variable {nm ky : List UInt8 → Bool}
/-- THE PIECES OF A TEXT IN WHICH "$" AND "%" ARE DOUBLED. -/
theorem parse_esc (hn : ∀ s, nm s = true → s.all (fun b => b != 125) = true) (hk : ∀ s, ky s = true → s.all (fun b => b != 125) = true) (s : List UInt8) : parseP nm ky (escL s) = some (if s = [] then [] else [⟨1, s, 0, false⟩]) := by
  by_cases h : s = []
  · subst h
    rw [if_pos rfl]
    rfl
  · rw [if_neg h]
    have hf : FineL nm ky [⟨1, s, 0, false⟩] := ⟨fun _ => ⟨h, rfl, rfl, fun q m e => by cases e⟩, fun h => absurd rfl h, trivial⟩
    have := parse_fmt hn hk hf
    have e : fmtAll [⟨1, s, 0, false⟩] = escL s := by simp [fmtAll, fmtP]
    rwa [e] at this
/-- The templates of SubstituteWords: a word alone, and a word with all behind it. -/
theorem parse_word (k : Nat) (h1 : 1 ≤ k) (h2 : k ≤ 9) : parseP nm ky [37, 99, 123, UInt8.ofNat (48 + k), 125] = some [⟨9, [], k, false⟩] ∧ parseP nm ky [37, 99, 123, UInt8.ofNat (48 + k), 43, 125] = some [⟨9, [], k, true⟩] := by
  have : k = 1 ∨ k = 2 ∨ k = 3 ∨ k = 4 ∨ k = 5 ∨ k = 6 ∨ k = 7 ∨ k = 8 ∨ k = 9 := by omega
  rcases this with rfl | rfl | rfl | rfl | rfl | rfl | rfl | rfl | rfl <;> exact ⟨rfl, rfl⟩
/-- The template of SubstituteCuts. -/
theorem parse_cuts : parseP nm ky [37, 99, 45, 37, 99, 45, 37, 99] = some [⟨9, [], 0, false⟩, ⟨1, [45], 0, false⟩, ⟨9, [], 0, false⟩, ⟨1, [45], 0, false⟩, ⟨9, [], 0, false⟩] := rfl
/-- The templates of SubstituteForms: long, short, and their piece (where what stands in braces is a name, a key). -/
def formsL : List (List UInt8 × List UInt8 × Pc) := [
  (36 :: wordOf 2, [37, 107], ⟨2, [], 0, false⟩), (36 :: wordOf 3, [37, 110], ⟨3, [], 0, false⟩), (36 :: wordOf 4, [37, 112], ⟨4, [], 0, false⟩), (36 :: wordOf 5, [37, 98], ⟨5, [], 0, false⟩), (36 :: wordOf 6, [37, 100], ⟨6, [], 0, false⟩),
  (36 :: (wordOf 7 ++ [123, 115, 105, 122, 101, 125]), [37, 115, 123, 115, 105, 122, 101, 125], ⟨7, [115, 105, 122, 101], 0, false⟩),
  (36 :: (wordOf 7 ++ [123, 118, 101, 110, 100, 111, 114, 125]), [37, 115, 123, 118, 101, 110, 100, 111, 114, 125], ⟨7, [118, 101, 110, 100, 111, 114], 0, false⟩),
  (36 :: (wordOf 8 ++ [123, 73, 68, 125]), [37, 69, 123, 73, 68, 125], ⟨8, [73, 68], 0, false⟩),
  (36 :: wordOf 9, [37, 99], ⟨9, [], 0, false⟩), (36 :: (wordOf 9 ++ [123, 50, 125]), [37, 99, 123, 50, 125], ⟨9, [], 2, false⟩), (36 :: (wordOf 9 ++ [123, 49, 43, 125]), [37, 99, 123, 49, 43, 125], ⟨9, [], 1, true⟩), (36 :: wordOf 10, [37, 80], ⟨10, [], 0, false⟩)]
theorem parse_forms (h1 : nm [115, 105, 122, 101] = true) (h2 : nm [118, 101, 110, 100, 111, 114] = true) (h3 : ky [73, 68] = true) : ∀ x ∈ formsL, parseP nm ky x.1 = some [x.2.2] ∧ parseP nm ky x.2.1 = some [x.2.2] := by
  intro x hx
  have two : ∀ (s : List UInt8) (p : Pc), stepL nm ky s = some (p, []) → s ≠ [] → parseP nm ky s = some [p] := fun s p hs hne => by
    cases s with
    | nil => exact absurd rfl hne
    | cons b s =>
      unfold parseP
      rw [List.length_cons, rawF, hs]
      cases s <;> rfl
  have a1 : ∀ (w : List UInt8) (r : List UInt8) (p : Pc), stepL nm ky (36 :: (w ++ r)) = some (p, []) → parseP nm ky (36 :: (w ++ r)) = some [p] := fun w r p h => two _ _ h (by simp)
  simp only [formsL, List.mem_cons, List.not_mem_nil, or_false] at hx
  rcases hx with rfl | rfl | rfl | rfl | rfl | rfl | rfl | rfl | rfl | rfl | rfl | rfl
  · exact ⟨rfl, rfl⟩
  · exact ⟨rfl, rfl⟩
  · exact ⟨rfl, rfl⟩
  · exact ⟨rfl, rfl⟩
  · exact ⟨rfl, rfl⟩
  · constructor
    · exact two _ _ (by show (if nm [115, 105, 122, 101] = true then some ((⟨7, [115, 105, 122, 101], 0, false⟩ : Pc), ([] : List UInt8)) else none) = _; rw [if_pos h1]) (by simp)
    · exact two _ _ (by show (if nm [115, 105, 122, 101] = true then some ((⟨7, [115, 105, 122, 101], 0, false⟩ : Pc), ([] : List UInt8)) else none) = _; rw [if_pos h1]) (by simp)
  · constructor
    · exact two _ _ (by show (if nm [118, 101, 110, 100, 111, 114] = true then some ((⟨7, [118, 101, 110, 100, 111, 114], 0, false⟩ : Pc), ([] : List UInt8)) else none) = _; rw [if_pos h2]) (by simp)
    · exact two _ _ (by show (if nm [118, 101, 110, 100, 111, 114] = true then some ((⟨7, [118, 101, 110, 100, 111, 114], 0, false⟩ : Pc), ([] : List UInt8)) else none) = _; rw [if_pos h2]) (by simp)
  · constructor
    · exact two _ _ (by show (if ky [73, 68] = true then some ((⟨8, [73, 68], 0, false⟩ : Pc), ([] : List UInt8)) else none) = _; rw [if_pos h3]) (by simp)
    · exact two _ _ (by show (if ky [73, 68] = true then some ((⟨8, [73, 68], 0, false⟩ : Pc), ([] : List UInt8)) else none) = _; rw [if_pos h3]) (by simp)
  · exact ⟨rfl, rfl⟩
  · exact ⟨rfl, rfl⟩
  · exact ⟨rfl, rfl⟩
  · exact ⟨rfl, rfl⟩
end

/-- A text split at a byte. -/
def splitL (c : UInt8) : List UInt8 → List (List UInt8)
  | [] => [[]]
  | b :: s => if b = c then [] :: splitL c s else match splitL c s with
    | [] => [[b]]
    | q :: l => (b :: q) :: l
theorem splitL_no (c : UInt8) : ∀ s : List UInt8, ∀ p ∈ splitL c s, c ∉ p
  | [], p, hp => by rw [splitL, List.mem_singleton] at hp; subst hp; simp
  | b :: s, p, hp => by
    have ih := splitL_no c s
    rw [splitL] at hp
    split at hp
    · rcases List.mem_cons.1 hp with rfl | hp
      · simp
      · exact ih p hp
    · rename_i hb
      split at hp
      · rw [List.mem_singleton] at hp
        subst hp
        simpa using Ne.symm hb
      · rename_i q l hq
        rw [hq] at ih
        rcases List.mem_cons.1 hp with rfl | hp
        · have := ih q (by simp)
          simp only [List.mem_cons, not_or]
          exact ⟨Ne.symm hb, this⟩
        · exact ih p (by simp [hp])
/-- The words of a text. -/
def wordsL (s : List UInt8) : List (List UInt8) := (splitL 32 s).filter fun w => !w.isEmpty
theorem wordsL_mem {s w : List UInt8} (h : w ∈ wordsL s) : w ≠ [] ∧ 32 ∉ w := by
  unfold wordsL at h
  rw [List.mem_filter] at h
  exact ⟨by rintro rfl; simp at h, splitL_no 32 s w h.1⟩
/-- .. with one space between them. -/
def joinL : List (List UInt8) → List UInt8
  | [] => []
  | [w] => w
  | w :: v :: l => w ++ 32 :: joinL (v :: l)
theorem joinL_cons (w : List UInt8) (l : List (List UInt8)) : joinL (w :: l) = if l = [] then w else w ++ 32 :: joinL l := by
  cases l with
  | nil => rfl
  | cons v l => rw [if_neg (by simp)]; rfl
theorem joinL_nil {l : List (List UInt8)} (h : ∀ w ∈ l, w ≠ []) : joinL l = [] ↔ l = [] := by
  constructor
  · intro hj
    match l with
    | [] => rfl
    | [w] => exact absurd hj (h w (by simp))
    | w :: v :: l => simp [joinL] at hj
  · rintro rfl
    rfl
/-- What a piece of the result stands for. -/
def resultL (s : List UInt8) (n : Nat) (more : Bool) : List UInt8 :=
  if n = 0 then s else if more then joinL ((wordsL s).drop (n - 1)) else ((wordsL s)[n - 1]?).getD []
/-- THE n-TH WORD AND ALL BEHIND IT (SubstituteWords). -/
theorem result_words (s : List UInt8) (n : Nat) (h : 1 ≤ n) : 32 ∉ resultL s n false ∧ resultL s n true = if resultL s (n + 1) true = [] then resultL s n false else resultL s n false ++ 32 :: resultL s (n + 1) true := by
  have hw : ∀ w ∈ wordsL s, w ≠ [] ∧ 32 ∉ w := fun w => wordsL_mem
  unfold resultL
  simp only [if_neg (show n ≠ 0 by omega), if_neg (show n + 1 ≠ 0 by omega), if_true, Bool.false_eq_true, if_false, Nat.add_sub_cancel]
  generalize wordsL s = l at hw
  rcases Nat.lt_or_ge (n - 1) l.length with hn | hn
  · have hd : l.drop (n - 1) = l[n - 1] :: l.drop n := by
      have := List.drop_eq_getElem_cons hn
      rwa [show n - 1 + 1 = n by omega] at this
    have hm := hw l[n - 1] (List.getElem_mem hn)
    have hj : joinL (l.drop n) = [] ↔ l.drop n = [] := joinL_nil fun w h => (hw w (List.mem_of_mem_drop h)).1
    rw [hd, List.getElem?_eq_getElem hn, Option.getD_some, joinL_cons]
    refine ⟨hm.2, ?_⟩
    by_cases hz : l.drop n = []
    · rw [if_pos hz, if_pos (hj.2 hz)]
    · rw [if_neg hz, if_neg fun e => hz (hj.1 e)]
  · rw [List.getElem?_eq_none hn, List.drop_eq_nil_of_le hn, List.drop_eq_nil_of_le (by omega)]
    simp [joinL]
end Go.Proofs.YtkkibibecgcbmaaGreatDoor

namespace Go.Proofs.YtkkibibecgcbmaaGreatDoor

section
variable (nm ky : List UInt8 → Bool)
/-- The pieces of a text behind pieces that have been read. -/
def pfrom (acc : List Pc) (s : List UInt8) : Option (List Pc) := (rawF nm ky s.length s).map fun l => l.foldl addP acc
def plainCh (b : UInt8) : Bool := b != 36 && b != 37
/-- One piece at the beginning of a text that is not empty, a text as far as it goes. -/
def firstL (s : List UInt8) : Option (Pc × List UInt8) :=
  if (spanL plainCh s).1 = [] then stepL nm ky s else some (⟨1, (spanL plainCh s).1, 0, false⟩, (spanL plainCh s).2)
variable {nm ky}
theorem spanL_len (p : UInt8 → Bool) (s : List UInt8) : (spanL p s).1.length + (spanL p s).2.length = s.length := by
  have := congrArg List.length (spanL_eq p s).1
  simpa using this
theorem braceL_inv {s a r : List UInt8} (h : braceL s = some (a, r)) : s = 123 :: (a ++ 125 :: r) ∧ a.all (fun b => b != 125) = true := by
  match s with
  | [] => cases h
  | c :: s =>
    by_cases hc : c = 123
    · subst hc
      rw [braceL] at h
      split at h
      · cases h
      · rename_i q r' hr
        obtain ⟨e1, e2, e3⟩ := spanL_eq (fun b => b != 125) s
        have e3 := e3 q r' hr
        cases h
        have : q = 125 := by simpa using e3
        subst this
        rw [hr] at e1
        exact ⟨by rw [e1], e2⟩
    · unfold braceL at h
      split at h
      · rename_i s' e
        cases e
        exact absurd rfl hc
      · cases h
theorem numN_le {s : List UInt8} {n : Nat} (h : numN s = some n) : 1 ≤ n ∧ n ≤ 99 := by
  unfold numN at h
  split at h
  · split at h
    · cases h; omega
    · cases h
  · split at h
    · cases h; omega
    · cases h
  · cases h
theorem countL_le {s : List UInt8} {c : Nat × Bool} (h : countL s = some c) : 1 ≤ c.1 ∧ c.1 ≤ 99 := by
  unfold countL at h
  split at h
  · obtain ⟨n, hn, rfl⟩ := Option.map_eq_some_iff.1 h
    exact numN_le hn
  · obtain ⟨n, hn, rfl⟩ := Option.map_eq_some_iff.1 h
    exact numN_le hn
theorem placeL_le {k : Nat} {s r : List UInt8} {p : Pc} (h : placeL nm ky k s = some (p, r)) : r.length ≤ s.length ∧ p.kind = k ∧ k ≠ 0 ∧ (k ≤ 11 → 1 < k → Well nm ky p) ∧ p.text.length ≤ s.length := by
  unfold placeL at h
  split at h
  · cases h
  rename_i h0
  split at h
  · rename_i h7
    subst h7
    obtain ⟨x, hx, h⟩ := Option.bind_eq_some_iff.1 h
    split at h
    · rename_i hv
      cases h
      obtain ⟨e, _⟩ := braceL_inv hx
      refine ⟨by rw [e]; simp; omega, rfl, by decide, fun _ _ => ⟨by simp, by simp, fun _ => hv, fun h => by simp at h, fun h => absurd rfl h, fun h => by simp at h, fun _ => ⟨rfl, rfl⟩⟩, by rw [e]; simp; omega⟩
    · cases h
  rename_i h7
  split at h
  · rename_i h8
    subst h8
    obtain ⟨x, hx, h⟩ := Option.bind_eq_some_iff.1 h
    split at h
    · rename_i hv
      cases h
      obtain ⟨e, _⟩ := braceL_inv hx
      refine ⟨by rw [e]; simp; omega, rfl, by decide, fun _ _ => ⟨by simp, by simp, fun h => by simp at h, fun _ => hv, fun _ h => absurd rfl h, fun h => by simp at h, fun _ => ⟨rfl, rfl⟩⟩, by rw [e]; simp; omega⟩
    · cases h
  rename_i h8
  split at h
  · rename_i h9
    obtain ⟨rfl, _⟩ := h9
    obtain ⟨x, hx, h⟩ := Option.bind_eq_some_iff.1 h
    obtain ⟨c, hc, h⟩ := Option.map_eq_some_iff.1 h
    cases h
    obtain ⟨e, _⟩ := braceL_inv hx
    have hl := countL_le hc
    refine ⟨by rw [e]; simp; omega, rfl, by decide, fun _ _ => ⟨by simp, by simp, fun h => by simp at h, fun h => by simp at h, fun _ _ => rfl, fun _ => ⟨hl.2, fun h => absurd h (by have := hl.1; simp only; omega)⟩, fun h => absurd rfl h⟩, by simp⟩
  · rename_i h9
    cases h
    exact ⟨Nat.le_refl _, rfl, h0, fun h11 h1 => ⟨h1, h11, fun h => absurd h h7, fun h => absurd h h8, fun _ _ => rfl, fun _ => ⟨by simp, fun _ => rfl⟩, fun _ => ⟨rfl, rfl⟩⟩, by simp⟩
theorem kindOfWord_le (w : List UInt8) : kindOfWord w = 0 ∨ (2 ≤ kindOfWord w ∧ kindOfWord w ≤ 11 ∧ wordOf (kindOfWord w) = w) := by
  unfold kindOfWord
  cases e : [2, 3, 4, 5, 6, 7, 8, 9, 10, 11].find? fun k => wordOf k == w with
  | none => exact .inl rfl
  | some k =>
    right
    have h1 := List.mem_of_find?_eq_some e
    have h2 := List.find?_some e
    simp at h1
    refine ⟨?_, ?_, by simpa using h2⟩
    · simp only [Option.getD_some]; omega
    · simp only [Option.getD_some]; omega
theorem kindOfLetter_le (b : UInt8) : kindOfLetter b = 0 ∨ (2 ≤ kindOfLetter b ∧ kindOfLetter b ≤ 10 ∧ letterOf (kindOfLetter b) = b) := by
  unfold kindOfLetter
  cases e : [2, 3, 4, 5, 6, 7, 8, 9, 10].find? fun k => letterOf k == b with
  | none => exact .inl rfl
  | some k =>
    right
    have h1 := List.mem_of_find?_eq_some e
    have h2 := List.find?_some e
    simp at h1
    refine ⟨?_, ?_, by simpa using h2⟩
    · simp only [Option.getD_some]; omega
    · simp only [Option.getD_some]; omega
/-- What a piece that has been read is like: a text, or as in the table. -/
def Read (nm ky : List UInt8 → Bool) (p : Pc) : Prop := (p.kind = 1 ∧ p.text ≠ [] ∧ p.word = 0 ∧ p.more = false) ∨ Well nm ky p
theorem stepL_le {s r : List UInt8} {p : Pc} (h : stepL nm ky s = some (p, r)) : r.length < s.length ∧ Read nm ky p ∧ p.text.length ≤ s.length := by
  match s with
  | [] => cases h
  | b :: s =>
    unfold stepL at h
    dsimp only at h
    split at h
    · cases h
      exact ⟨by simp, .inl ⟨rfl, by simp, rfl, rfl⟩, by simp⟩
    split at h
    · cases h
      refine ⟨?_, .inl ⟨rfl, by simp, rfl, rfl⟩, by simp⟩
      rw [List.length_tail, List.length_cons]
      omega
    split at h
    · split at h
      · cases h
      · rename_i c r' _
        obtain ⟨h1, h2, h3, h4, h5⟩ := placeL_le h
        have hk := kindOfLetter_le c
        refine ⟨by simp; omega, .inr (h4 (by omega) (by omega)), by simp; omega⟩
    · obtain ⟨h1, h2, h3, h4, h5⟩ := placeL_le h
      have hk := kindOfWord_le (spanL azCh s).1
      have hs := spanL_len azCh s
      refine ⟨by simp; omega, .inr (h4 (by omega) (by omega)), by simp; omega⟩
theorem rawF_fuel : ∀ (f : Nat) (s : List UInt8), s.length ≤ f → rawF nm ky f s = rawF nm ky s.length s := by
  intro f
  induction f using Nat.strongRecOn with
  | _ f ih =>
    intro s h
    match f, s with
    | f, [] => cases f <;> rfl
    | 0, b :: s => simp at h
    | f + 1, b :: s =>
      rw [List.length_cons, rawF, rawF]
      cases e : stepL nm ky (b :: s) with
      | none => rfl
      | some x =>
        obtain ⟨p, r⟩ := x
        have hr := (stepL_le e).1
        rw [List.length_cons] at hr h
        simp only
        rw [ih f (by omega) r (by omega)]
        by_cases hf : s.length < f + 1
        · rw [ih s.length (by omega) r (by omega)]
        · omega
theorem pfrom_nil (acc : List Pc) : pfrom nm ky acc [] = some acc := rfl
theorem pfrom_none (acc : List Pc) {s : List UInt8} (hs : s ≠ []) (h : stepL nm ky s = none) : pfrom nm ky acc s = none := by
  cases s with
  | nil => exact absurd rfl hs
  | cons b s => simp [pfrom, rawF, h]
theorem pfrom_step (acc : List Pc) {s r : List UInt8} {p : Pc} (h : stepL nm ky s = some (p, r)) : pfrom nm ky acc s = pfrom nm ky (addP acc p) r := by
  cases s with
  | nil => cases h
  | cons b s =>
    have hr := (stepL_le h).1
    rw [List.length_cons] at hr
    unfold pfrom
    rw [List.length_cons, rawF, h]
    simp only
    rw [rawF_fuel s.length r (by omega), Option.map_map]
    rfl
theorem stepL_plain {b : UInt8} (h : plainCh b = true) (r : List UInt8) : stepL nm ky (b :: r) = some (⟨1, [b], 0, false⟩, r) := by
  unfold stepL
  dsimp only
  rw [if_pos (by simpa [plainCh] using h)]
theorem addP_chunk (acc : List Pc) (b : UInt8) (t : List UInt8) : (t.map pcT).foldl addP (addP acc (pcT b)) = addP acc ⟨1, b :: t, 0, false⟩ := by
  cases hl : acc.getLast? with
  | none =>
    have : acc = [] := List.getLast?_eq_none_iff.1 hl
    subst this
    exact addP_text [] t [b]
  | some q =>
    obtain ⟨k, u, w, m⟩ := q
    by_cases hq : k = 1
    · subst hq
      have e : ∀ x : List UInt8, addP acc ⟨1, x, 0, false⟩ = acc.dropLast ++ [⟨1, u ++ x, w, m⟩] := fun x => by simp [addP, hl]
      have g : ∀ (t x : List UInt8), (t.map pcT).foldl addP (acc.dropLast ++ [⟨1, x, w, m⟩]) = acc.dropLast ++ [⟨1, x ++ t, w, m⟩] := by
        intro t
        induction t with
        | nil => intro x; simp
        | cons c t ih =>
          intro x
          have e : addP (acc.dropLast ++ [⟨1, x, w, m⟩]) (pcT c) = acc.dropLast ++ [⟨1, x ++ [c], w, m⟩] := by simp [addP, pcT]
          rw [List.map_cons, List.foldl_cons, e, ih, List.append_assoc]
          rfl
      show (t.map pcT).foldl addP (addP acc ⟨1, [b], 0, false⟩) = _
      rw [e, e, g, List.append_assoc]
      rfl
    · have e : ∀ x : List UInt8, addP acc ⟨1, x, 0, false⟩ = acc ++ [⟨1, x, 0, false⟩] := fun x => addP_new acc _ (.inr fun q hq => by rw [hl] at hq; cases hq; exact hq)
      show (t.map pcT).foldl addP (addP acc ⟨1, [b], 0, false⟩) = _
      rw [e, e]
      exact addP_text acc t [b]
theorem pfrom_bytes : ∀ (t r : List UInt8) (acc : List Pc), t.all plainCh = true → pfrom nm ky acc (t ++ r) = pfrom nm ky ((t.map pcT).foldl addP acc) r
  | [], r, acc, _ => rfl
  | b :: t, r, acc, h => by
    rw [List.all_cons, Bool.and_eq_true] at h
    rw [List.cons_append, pfrom_step acc (stepL_plain h.1 (t ++ r)), pfrom_bytes t r _ h.2]
    rfl
theorem firstL_le {s r : List UInt8} {p : Pc} (h : firstL nm ky s = some (p, r)) : r.length < s.length ∧ Read nm ky p ∧ p.text.length ≤ s.length := by
  unfold firstL at h
  split at h
  · exact stepL_le h
  · rename_i hn
    have := spanL_len plainCh s
    cases h
    have hl : 0 < (spanL plainCh s).1.length := List.length_pos_iff.2 hn
    exact ⟨by omega, .inl ⟨rfl, hn, rfl, rfl⟩, by simp only; omega⟩
/-- READING A TEXT AS FAR AS IT GOES IS READING ITS BYTES. -/
theorem pfrom_first (acc : List Pc) {s r : List UInt8} {p : Pc} (h : firstL nm ky s = some (p, r)) : pfrom nm ky acc s = pfrom nm ky (addP acc p) r := by
  unfold firstL at h
  split at h
  · exact pfrom_step acc h
  · rename_i hn
    obtain ⟨e, ha, _⟩ := spanL_eq plainCh s
    cases h
    conv => lhs; rw [← e]
    rw [pfrom_bytes _ _ _ ha]
    cases hx : (spanL plainCh s).1 with
    | nil => exact absurd hx hn
    | cons b t =>
      rw [List.map_cons, List.foldl_cons, addP_chunk]
theorem pfrom_first_none (acc : List Pc) {s : List UInt8} (hs : s ≠ []) (h : firstL nm ky s = none) : pfrom nm ky acc s = none := by
  unfold firstL at h
  split at h
  · exact pfrom_none acc hs h
  · cases h
theorem addP_len (acc : List Pc) (p : Pc) : (addP acc p).length ≤ acc.length + 1 := by
  unfold addP
  split
  · simp
  · split
    · simp
    · simp
theorem parseP_eq (s : List UInt8) : parseP nm ky s = pfrom nm ky [] s := rfl
/-- Joined pieces are as in the table, too. -/
theorem addP_read {acc : List Pc} {p : Pc} (ha : ∀ q ∈ acc, Read nm ky q) (hp : Read nm ky p) : ∀ q ∈ addP acc p, Read nm ky q := by
  intro q hq
  unfold addP at hq
  split at hq
  · rcases List.mem_append.1 hq with h | h
    · exact ha q h
    · rw [List.mem_singleton] at h; exact h ▸ hp
  · rename_i l hl
    split at hq
    · rename_i hk
      rcases List.mem_append.1 hq with h | h
      · exact ha q (List.dropLast_subset _ h)
      · rw [List.mem_singleton] at h
        subst h
        have hm := List.mem_of_getLast? hl
        rcases ha l hm with ⟨h1, h2, h3, h4⟩ | hw
        · exact .inl ⟨h1, by simp [h2], h3, h4⟩
        · exact absurd hk.2 (by have := hw.k1; omega)
    · rcases List.mem_append.1 hq with h | h
      · exact ha q h
      · rw [List.mem_singleton] at h; exact h ▸ hp
def tsum (l : List Pc) : Nat := (l.map fun p => p.text.length).sum
theorem addP_tsum (acc : List Pc) (p : Pc) : tsum (addP acc p) = tsum acc + p.text.length := by
  unfold addP
  split
  · simp [tsum]
  · rename_i q hl
    split
    · have e : acc = acc.dropLast ++ [q] := by
        obtain ⟨ys, rfl⟩ := List.getLast?_eq_some_iff.1 hl
        rw [List.dropLast_concat]
      conv => rhs; rw [e]
      simp [tsum]
      omega
    · simp [tsum]
theorem Read.k {p : Pc} (h : Read nm ky p) : 1 ≤ p.kind ∧ p.kind ≤ 11 ∧ p.word ≤ 99 := by
  rcases h with ⟨h1, _, h3, _⟩ | h
  · omega
  · have h1 := h.k1
    have h2 := h.k2
    refine ⟨by omega, h2, ?_⟩
    by_cases h9 : p.kind = 9
    · exact (h.w9 h9).1
    · rw [(h.w0 h9).1]; omega
end
end Go.Proofs.YtkkibibecgcbmaaGreatDoor

namespace Go.Proofs.YtkkibibecgcbmaaGreatDoor
open Go.RowKit

theorem block_lt {w : World} {g : Nat} {o : Obj} (h : w.heap[g]? = some o) : g < w.heap.size := (Array.getElem?_eq_some_iff.1 h).1
theorem cell_of_row (w : World) (b o : Nat) (c : Array Value) (t : TypeId) (f : Nat × Nat) (h : w.heap[b]? = some (.cells c t f)) : w.cell? ⟨b, o, none⟩ = c[o]? := by simp [World.cell?, h]


/-- What stays: all but the blocks of a list; the heap only grows. -/
structure Kp (s : List Nat) (w w' : World) : Prop where
  os : w'.os = w.os
  tape : w'.tape = w.tape
  output : w'.output = w.output
  size : w.heap.size ≤ w'.heap.size
  block : ∀ k, k < w.heap.size → k ∉ s → w'.heap[k]? = w.heap[k]?
theorem Kp.refl (s : List Nat) (w : World) : Kp s w w := ⟨rfl, rfl, rfl, Nat.le_refl _, fun _ _ _ => rfl⟩
theorem Kp.trans {s : List Nat} {a b c : World} (h : Kp s a b) (g : Kp s b c) : Kp s a c :=
  ⟨g.os.trans h.os, g.tape.trans h.tape, g.output.trans h.output, Nat.le_trans h.size g.size, fun k hk hs => (g.block k (Nat.lt_of_lt_of_le hk h.size) hs).trans (h.block k hk hs)⟩
theorem Kp.mono {s t : List Nat} {a b : World} (h : Kp s a b) (hs : ∀ x ∈ s, x ∈ t) : Kp t a b := ⟨h.os, h.tape, h.output, h.size, fun k hk hn => h.block k hk fun e => hn (hs k e)⟩
theorem Kp.drew {s : List Nat} {a b : World} (h : Kp s a b) (n : Nat) : Kp s a (b.drewN n) := ⟨h.os, h.tape, h.output, h.size, h.block⟩
theorem Kp.alloc {s : List Nat} {a b : World} (h : Kp s a b) (o : Obj) : Kp s a (b.alloc o) := by
  have hb := (Below.refl b.heap.size b).alloc (Nat.le_refl _) o
  exact h.trans ⟨hb.os, hb.tape, hb.output, hb.size, fun k hk _ => hb.block k hk⟩
theorem Kp.setRow {s : List Nat} {a b : World} (h : Kp s a b) {g : Nat} (hg : g ∈ s ∨ a.heap.size ≤ g) (cs : Array Value) : Kp s a (b.setRow g cs) :=
  ⟨h.os, h.tape, h.output, Nat.le_trans h.size (by simp [World.setRow]), fun k hk hn => (setRow_other b g k cs (by rintro rfl; rcases hg with hg | hg; exact hn hg; omega)).trans (h.block k hk hn)⟩
theorem Kp.setCell {s : List Nat} {a b : World} (h : Kp s a b) {p : Addr} (hg : p.block ∈ s ∨ a.heap.size ≤ p.block) (v : Value) : Kp s a (b.setCell p v) :=
  ⟨h.os, h.tape, h.output, Nat.le_trans h.size (by simp [World.setCell]), fun k hk hn => (Below.heap_setCell _ _ _ _ (by rintro rfl; rcases hg with hg | hg; exact hn hg; omega)).trans (h.block k hk hn)⟩
theorem Kp.below {s : List Nat} {a b : World} {B : Nat} (h : Kp s a b) (hB : B ≤ a.heap.size) (hs : ∀ x ∈ s, B ≤ x) : Below B a b :=
  ⟨h.os, h.tape, h.output, h.size, fun k hk => h.block k (Nat.lt_of_lt_of_le hk hB) fun e => by have := hs k e; omega⟩
theorem Kp.of_grown {w w' : World} {r : Nat} (h : w.grownBy w' (some r)) : Kp [r] w w' := ⟨h.os, h.tape, h.output, h.size, fun k hk hn => h.block k hk (by simpa using hn)⟩
theorem Kp.of_grown_none {w w' : World} (h : w.grownBy w' none) : Kp [] w w' := ⟨h.os, h.tape, h.output, h.size, fun k hk _ => h.block k hk (by simp)⟩
theorem Kp.of_below {w w' : World} (h : Below w.heap.size w w') : Kp [] w w' := ⟨h.os, h.tape, h.output, h.size, fun k hk _ => h.block k hk⟩
theorem Kp.up {s t : List Nat} {a b c : World} (h : Kp s a b) (g : Kp t b c) (ht : ∀ x ∈ t, x ∈ s ∨ a.heap.size ≤ x) : Kp s a c :=
  ⟨g.os.trans h.os, g.tape.trans h.tape, g.output.trans h.output, Nat.le_trans h.size g.size, fun k hk hs => (g.block k (Nat.lt_of_lt_of_le hk h.size) fun e => by rcases ht k e with q | q; exact hs q; omega).trans (h.block k hk hs)⟩

/-- The numbers of a tape: a slice of integers in blocks below tb. -/
def Ints (w : World) (tb : Nat) (lv : Value) : Prop := (∃ a c, lv = .slice a 0 c) ∨ ∃ b o n c, lv = .slice (some ⟨b, o, none⟩) n c ∧ b < tb ∧ ∀ j, j < n → ∃ z, w.cell? ⟨b, o + j, none⟩ = some (.int .i64 z)
/-- A tape at its place k. -/
def Tape (w : World) (tb : Nat) (k : Nat) : Prop := ∃ lv, w.heap[tb]? = some (.cells #[lv, .int .i64 (k : Int)] 139 (0, 0)) ∧ Ints w tb lv

theorem Tape.lt {w : World} {tb k : Nat} (h : Tape w tb k) : tb < w.heap.size := by
  obtain ⟨lv, hh, _⟩ := h
  exact block_lt hh
theorem Ints.keep {w w' : World} {tb : Nat} {lv : Value} (h : Ints w tb lv) (hk : ∀ b, b < tb → w'.heap[b]? = w.heap[b]?) : Ints w' tb lv := by
  rcases h with h | ⟨b, o, n, c, hv, hb, hz⟩
  · exact .inl h
  · refine .inr ⟨b, o, n, c, hv, hb, fun j hj => ?_⟩
    obtain ⟨z, hz⟩ := hz j hj
    refine ⟨z, ?_⟩
    simp only [World.cell?, hk b hb] at hz ⊢
    exact hz
theorem Tape.keep {w w' : World} {tb k : Nat} (h : Tape w tb k) (hk : ∀ b, b ≤ tb → w'.heap[b]? = w.heap[b]?) : Tape w' tb k := by
  obtain ⟨lv, hh, hi⟩ := h
  exact ⟨lv, (hk tb (Nat.le_refl _)).trans hh, hi.keep fun b hb => hk b (Nat.le_of_lt hb)⟩
theorem Tape.below {w w' : World} {tb k : Nat} (h : Tape w tb k) (hb : Below w.heap.size w w') : Tape w' tb k := h.keep fun b hb' => hb.block b (Nat.lt_of_le_of_lt hb' h.lt)

set_option maxHeartbeats 400000 in
set_option maxRecDepth 100000 in
theorem fold_any (z : Int) (n : Nat) (w : World) (h1 : 1 ≤ n) (h2 : n ≤ 1000000) :
    Calls Tryz.prog 33 #[.int .i64 z, .int .i64 n] w fun e w' => ∃ r : Nat, r < n ∧ e = .returned (.int .i64 r) ∧ w' = w := by
  by_cases hn : n = 1
  · subst hn
    go_enter Tryz.func33, Tryz.ntmps33
    go_wp2
    go_ret
    exact ⟨0, by omega, rfl, rfl⟩
  · have hn1 : ¬ ((n : Int) ≤ 1) := by omega
    have hn0 : ¬ ((n : Int) = 0) := by omega
    obtain ⟨q, hq⟩ : ∃ q : Int, z.tmod n = q := ⟨_, rfl⟩
    have hqa : -(n : Int) < q ∧ q < n := by
      rw [← hq]
      have h := Int.tmod_lt_of_pos z (show (0 : Int) < n by omega)
      have h' := Int.tmod_lt_of_pos (-z) (show (0 : Int) < n by omega)
      rw [Int.neg_tmod] at h'
      exact ⟨by omega, h⟩
    have hwr : IntKind.i64.wrap q = q := by rw [IntKind.wrap_i64]; omega
    by_cases hq0 : q < 0
    · have hwr2 : IntKind.i64.wrap (q + n) = q + n := by rw [IntKind.wrap_i64]; omega
      go_enter Tryz.func33, Tryz.ntmps33
      go_wp2
      obtain ⟨r, hr⟩ : ∃ r : Nat, q + n = r := ⟨(q + n).toNat, by omega⟩
      rw [hr]
      go_ret
      exact ⟨r, by omega, rfl, rfl⟩
    · go_enter Tryz.func33, Tryz.ntmps33
      go_wp2
      obtain ⟨r, hr⟩ : ∃ r : Nat, q = r := ⟨q.toNat, by omega⟩
      rw [hr]
      go_ret
      exact ⟨r, by omega, rfl, rfl⟩

theorem tape_put {w : World} {tb k k' : Nat} (h : Tape w tb k) (n : Nat) : Tape ((w.drewN n).setCell ⟨tb, 1, none⟩ (.int .i64 (k' : Int))) tb k' := by
  obtain ⟨lv, hh, hi⟩ := h
  refine ⟨lv, ?_, hi.keep fun b hb => Below.heap_setCell _ _ _ _ (Nat.ne_of_lt hb)⟩
  simp [World.setCell, Array.getElem?_modify, hh]

set_option maxHeartbeats 1000000 in
set_option maxRecDepth 100000 in
/-- Next: a number below n; the tape moves on. -/
theorem next_any (tb k n : Nat) (w : World) (h1 : 1 ≤ n) (h2 : n ≤ 1000000) (hk : k ≤ 1000000) (h : Tape w tb k) :
    Calls Tryz.prog 35 #[.pointer (some ⟨tb, 0, none⟩), .int .i64 n] w fun e w' => ∃ r : Nat, r < n ∧ e = .returned (.int .i64 r) ∧ Tape w' tb (k + 1) ∧ w.grownBy w' (some tb) ∧ w'.heap.size = w.heap.size := by
  have hput := fun m => tape_put (k' := k + 1) h m
  obtain ⟨lv, hh, hi⟩ := h
  have c0 : w.cell? ⟨tb, 0, none⟩ = some lv := by rw [cell_of_row _ _ _ _ _ _ hh]; rfl
  have c1 : w.cell? ⟨tb, 1, none⟩ = some (.int .i64 (k : Int)) := by rw [cell_of_row _ _ _ _ _ _ hh]; rfl
  have f1 : w.frozen? ⟨tb, 1, none⟩ = false := by simp [World.frozen?, hh]
  have hw7 : IntKind.i64.wrap ((k : Int) * 7) = (k : Int) * 7 := by rw [IntKind.wrap_i64]; omega
  have hwk : IntKind.i64.wrap ((k : Int) + 1) = ((k + 1 : Nat) : Int) := by rw [IntKind.wrap_i64]; omega
  obtain ⟨q, hq⟩ : ∃ q : Int, ((k : Int) * 7).tmod 11 = q := ⟨_, rfl⟩
  have hwq : IntKind.i64.wrap q = q := by
    have := Int.tmod_lt_of_pos ((k : Int) * 7) (show (0 : Int) < 11 by omega)
    have h' := Int.tmod_nonneg 11 (show (0 : Int) ≤ (k : Int) * 7 by omega)
    rw [IntKind.wrap_i64]
    omega
  have hfold := fun z W => fold_any z n W h1 h2
  have HF := Lib.hid hfold
  have HP := Lib.hid hput
  clear hput hfold
  have hfin : ∀ m, Tape ((w.drewN m).setCell ⟨tb, 1, none⟩ (.int .i64 ((k + 1 : Nat) : Int))) tb (k + 1) ∧ w.grownBy ((w.drewN m).setCell ⟨tb, 1, none⟩ (.int .i64 ((k + 1 : Nat) : Int))) (some tb) ∧
      ((w.drewN m).setCell ⟨tb, 1, none⟩ (.int .i64 ((k + 1 : Nat) : Int))).heap.size = w.heap.size := fun m =>
    ⟨HP.out m, ⟨rfl, rfl, rfl, by simp [World.setCell], fun j _ hj => Below.heap_setCell _ _ _ _ fun e => hj (by rw [e])⟩, by simp [World.setCell]⟩
  have HR := Lib.hid hfin
  clear hfin HP
  rcases hi with ⟨a, c, rfl⟩ | ⟨b, o, m, c, rfl, hb, hz⟩
  · have hk0 : ¬ ((k : Int) < ((0 : Nat) : Int)) := by omega
    clear hh
    go_enter Tryz.func35, Tryz.ntmps35
    go_wp2
    go_quiet (fail)
    go_wp2_with fail
    refine (HF.out _ _).mono ?_
    rintro e W ⟨r, hr, rfl, rfl⟩
    go_wp2
    go_ret
    exact ⟨r, hr, rfl, HR.out _⟩
  · by_cases hkm : k < m
    · have hkm' : (k : Int) < (m : Int) := by omega
      obtain ⟨z, hz⟩ := hz k hkm
      clear hh
      go_enter Tryz.func35, Tryz.ntmps35
      go_wp2
      go_quiet (fail)
      go_wp2
      go_quiet (fail)
      go_wp2_with fail
      refine (HF.out _ _).mono ?_
      rintro e W ⟨r, hr, rfl, rfl⟩
      go_wp2
      go_ret
      exact ⟨r, hr, rfl, HR.out _⟩
    · have hkm' : ¬ ((k : Int) < (m : Int)) := by omega
      clear hh hz
      go_enter Tryz.func35, Tryz.ntmps35
      go_wp2
      go_quiet (fail)
      go_wp2_with fail
      refine (HF.out _ _).mono ?_
      rintro e W ⟨r, hr, rfl, rfl⟩
      go_wp2
      go_ret
      exact ⟨r, hr, rfl, HR.out _⟩

theorem Kp.of_bel {w w' : World} (h : Below w.heap.size w w') : Kp [] w w' := Kp.of_below h
theorem Kp.belowTo {w0 w w' : World} (h : Kp [] w0 w) (g : Below w0.heap.size w w') : Kp [] w0 w' :=
  ⟨g.os.trans h.os, g.tape.trans h.tape, g.output.trans h.output, Nat.le_trans h.size g.size, fun k hk _ => (g.block k hk).trans (h.block k hk (by simp))⟩
end Go.Proofs.YtkkibibecgcbmaaGreatDoor
