/- A -/
import Derived.Lib.Hide
import Derived.Test.YtkkibibecgcbmaaGreatDoorProg
import Derived.WalkKit
import Derived.WalkSpells
import Derived.WalkLawsBesides
import Derived.Lib.Walk
import Derived.Lib.Strings
import Derived.Lib.SliceRun
import Derived.Laws.Strings3
import Derived.Laws.Cover1
import Derived.Laws.ResultCell
import Derived.Laws.CopyOwn
import Derived.Deep.LoopGhost
import Derived.Deep.WholeRow
import Derived.Deep.QuietTactic
import Derived.BigQuiet
import Derived.Deep.AppendLies
import Derived.Maps.AppendAt
import Derived.Maps.Range
import Derived.OwnWalk
import Derived.Deep.MidRow
set_option maxRecDepth 100000
set_option maxHeartbeats 16000000
namespace Go.Proofs.YtkkibibecgcbmaaGreatDoor
structure Tok where
 key : List UInt8
 name : List UInt8
 op : List UInt8
 val : List UInt8
def upCh (b : UInt8) : Bool := 65 ≤ b && b ≤ 90
def nmCh (b : UInt8) : Bool := 33 ≤ b && b ≤ 126 && b != 123 && b != 125 && b != 34
def prCh (b : UInt8) : Bool := 32 ≤ b && b ≤ 126
def opsL : List (List UInt8) := [[61, 61], [33, 61], [43, 61], [45, 61], [58, 61], [61]]
def spanL (p : UInt8 → Bool) : List UInt8 → List UInt8 × List UInt8
 | [] => ([], [])
 | b :: s => if p b then (b :: (spanL p s).1, (spanL p s).2) else ([], b :: s)
theorem spanL_app (p : UInt8 → Bool) : ∀ (a r : List UInt8), a.all p = true → (∀ b s, r = b :: s → p b = false) → spanL p (a ++ r) = (a, r)
 | [], [], _, _ => rfl
 | [], b :: s, _, h => by simp [spanL, h b s rfl]
 | b :: a, r, ha, h => by
  rw [List.all_cons, Bool.and_eq_true] at ha
  rw [List.cons_append, spanL, if_pos ha.1, spanL_app p a r ha.2 h]
theorem spanL_eq (p : UInt8 → Bool) : ∀ s : List UInt8, (spanL p s).1 ++ (spanL p s).2 = s ∧ (spanL p s).1.all p = true ∧ ∀ b r, (spanL p s).2 = b :: r → p b = false
 | [] => ⟨rfl, rfl, fun _ _ h => by cases h⟩
 | b :: s => by
  obtain ⟨h1, h2, h3⟩ := spanL_eq p s
  unfold spanL
  split
  ·rename_i hb
   exact ⟨by rw [List.cons_append, h1], by rw [List.all_cons, hb, h2]; rfl, h3⟩
  ·rename_i hb
   exact ⟨rfl, rfl, fun c r h => by cases h; simpa using hb⟩
inductive Rd (α : Type) where
 | bad
 | cut
 | ok (x : α) (r : List UInt8)
def valL : List UInt8 → Rd (List UInt8)
 | [] => .cut
 | b :: r => if b = 34 then .ok [] r else if b = 9 then .bad else
  match b, r with
  | 92, 34 :: r' => match valL r' with | .bad => .bad | .cut => .cut | .ok v q => .ok (34 :: v) q
  | b, r => match valL r with | .bad => .bad | .cut => .cut | .ok v q => .ok (b :: v) q
def fmtV (v : List UInt8) : List UInt8 := v.flatMap fun b => if b = 34 then [92, 34] else [b]
def goodV (v : List UInt8) : Prop := v.all prCh = true ∧ v.getLast? ≠ some 92
theorem valL_step (b : UInt8) (r : List UInt8) (h1 : b ≠ 34) (h2 : b ≠ 9) (h3 : b = 92 → ∀ q, r ≠ 34 :: q) : valL (b :: r) = match valL r with | .bad => .bad | .cut => .cut | .ok v q => .ok (b :: v) q := by
 rw [valL.eq_def]
 simp only [if_neg h1, if_neg h2]
 split
 ·rename_i r'
  exact absurd rfl (h3 rfl r')
 ·rfl
theorem valL_esc (r : List UInt8) : valL (92 :: 34 :: r) = match valL r with | .bad => .bad | .cut => .cut | .ok v q => .ok (34 :: v) q := by
 rw [valL.eq_def]
 rfl
theorem fmtV_cons (b : UInt8) (v : List UInt8) : fmtV (b :: v) = (if b = 34 then [92, 34] else [b]) ++ fmtV v := rfl
def opOf (s : List UInt8) : Option (List UInt8) := opsL.find? fun o => o.isPrefixOf s
def opL (k n s : List UInt8) : Rd Tok :=
 match opOf s with
 | none => .bad
 | some o => match s.drop o.length with
  | 34 :: r => match valL r with | .bad => .bad | .cut => .cut | .ok v q => .ok ⟨k, n, o, v⟩ q
  | _ => .bad
def nameL (k s1 : List UInt8) : Rd Tok :=
 match (spanL nmCh s1).2 with
 | [] => .cut
 | c :: s2 => if (spanL nmCh s1).1 = [] then .bad else if c = 125 then opL k (spanL nmCh s1).1 s2 else .bad
def tokenL (s : List UInt8) : Rd Tok :=
 if (spanL upCh s).1 = [] then .bad else
 match (spanL upCh s).2 with
 | [] => opL (spanL upCh s).1 [] []
 | c :: s1 => if c = 123 then nameL (spanL upCh s).1 s1 else opL (spanL upCh s).1 [] (c :: s1)
structure Good (x : Tok) : Prop where
 k0 : x.key ≠ []
 k1 : x.key.all upCh = true
 n1 : x.name.all nmCh = true
 o1 : x.op ∈ opsL
 v1 : goodV x.val
def fmtT (x : Tok) : List UInt8 := x.key ++ ((if x.name = [] then [] else 123 :: (x.name ++ [125])) ++ (x.op ++ 34 :: (fmtV x.val ++ [34])))
theorem opOf_app {o : List UInt8} (h : o ∈ opsL) (r : List UInt8) : opOf (o ++ 34 :: r) = some o := by
 simp only [opsL, List.mem_cons, List.not_mem_nil, or_false] at h
 rcases h with rfl | rfl | rfl | rfl | rfl | rfl <;> rfl
theorem valL_good : ∀ (n : Nat) (s v q : List UInt8), s.length ≤ n → s.all (fun b => prCh b || b == 9) = true → valL s = .ok v q → goodV v ∧ (∃ p, s = p ++ 34 :: q) ∧ (s.head? = some 34 → v = []) ∧ (v = [] → s.head? = some 34)
 | _, [], v, q, _, _, h => by
  rw [valL.eq_def] at h
  cases h
 | 0, b :: r, _, _, hn, _, _ => by simp at hn
 | n + 1, b :: r, v, q, hn, hp, h => by
  rw [List.all_cons, Bool.and_eq_true] at hp
  by_cases h1 : b = 34
  ·subst h1
   rw [valL.eq_def] at h
   simp only [if_true] at h
   cases h
   exact ⟨⟨rfl, by simp⟩, ⟨[], rfl⟩, fun _ => rfl, fun _ => rfl⟩
  ·by_cases h2 : b = 9
   ·subst h2
    rw [valL.eq_def] at h
    simp only [if_neg h1, if_true] at h
    cases h
   ·by_cases h3 : b = 92 ∧ ∃ r', r = 34 :: r'
    ·obtain ⟨rfl, r', rfl⟩ := h3
     rw [valL_esc] at h
     split at h
     ·cases h
     ·cases h
     ·rename_i v' q' hv'
      cases h
      rw [List.all_cons, Bool.and_eq_true] at hp
      obtain ⟨g, ⟨p, hpq⟩, g3, g4⟩ := valL_good n r' v' q (by simp at hn ⊢; omega) hp.2.2 hv'
      refine ⟨⟨by rw [List.all_cons, g.1]; rfl, ?_⟩, ⟨92 :: 34 :: p, by rw [hpq]; rfl⟩, fun e => by simp at e, fun e => by cases e⟩
      match v', g with
      | [], _ => simp
      | c :: v'', g => rw [List.getLast?_cons_cons]; exact g.2
    ·rw [valL_step b r h1 h2 (fun hb r' hr => h3 ⟨hb, r', hr⟩)] at h
     split at h
     ·cases h
     ·cases h
     ·rename_i v' q' hv'
      cases h
      obtain ⟨g, ⟨p, hpq⟩, g3, g4⟩ := valL_good n r v' q (by simp at hn ⊢; omega) hp.2 hv'
      have hb : prCh b = true := by
       have := hp.1
       simp only [Bool.or_eq_true, beq_iff_eq] at this
       exact this.resolve_right h2
      refine ⟨⟨by rw [List.all_cons, hb, g.1]; rfl, ?_⟩, ⟨b :: p, by rw [hpq]; rfl⟩, fun e => by simp at e; exact absurd e h1, fun e => by cases e⟩
      match v', g, g4 with
      | [], _, g4 =>
       simp only [List.getLast?_singleton, ne_eq, Option.some.injEq]
       intro hb92
       have := g4 rfl
       match r, this with
       | c :: r', e =>
        simp at e
        exact h3 ⟨hb92, r', by rw [e]⟩
      | c :: v'', g, _ => rw [List.getLast?_cons_cons]; exact g.2
end Go.Proofs.YtkkibibecgcbmaaGreatDoor
namespace Go.Proofs.YtkkibibecgcbmaaGreatDoor
structure Pc where
 kind : Nat
 text : List UInt8
 word : Nat
 more : Bool
def azCh (b : UInt8) : Bool := 97 ≤ b && b ≤ 122
def wordOf : Nat → List UInt8
 | 2 => [107, 101, 114, 110, 101, 108]
 | 3 => [110, 117, 109, 98, 101, 114]
 | 4 => [100, 101, 118, 112, 97, 116, 104]
 | 5 => [105, 100]
 | 6 => [100, 114, 105, 118, 101, 114]
 | 7 => [97, 116, 116, 114]
 | 8 => [101, 110, 118]
 | 9 => [114, 101, 115, 117, 108, 116]
 | 10 => [112, 97, 114, 101, 110, 116]
 | 11 => [110, 97, 109, 101]
 | _ => []
def letterOf : Nat → UInt8
 | 2 => 107 | 3 => 110 | 4 => 112 | 5 => 98 | 6 => 100 | 7 => 115 | 8 => 69 | 9 => 99 | 10 => 80 | _ => 32
def kindOfWord (w : List UInt8) : Nat := ([2, 3, 4, 5, 6, 7, 8, 9, 10, 11].find? fun k => wordOf k == w).getD 0
def kindOfLetter (b : UInt8) : Nat := ([2, 3, 4, 5, 6, 7, 8, 9, 10].find? fun k => letterOf k == b).getD 0
theorem kindOfWord_of {k : Nat} (h1 : 2 ≤ k) (h2 : k ≤ 11) : kindOfWord (wordOf k) = k ∧ (wordOf k).all azCh = true ∧ ∃ b t, wordOf k = b :: t ∧ b ≠ 36 := by
 have : k = 2 ∨ k = 3 ∨ k = 4 ∨ k = 5 ∨ k = 6 ∨ k = 7 ∨ k = 8 ∨ k = 9 ∨ k = 10 ∨ k = 11 := by omega
 rcases this with rfl | rfl | rfl | rfl | rfl | rfl | rfl | rfl | rfl | rfl <;> exact ⟨by decide, by decide, _, _, rfl, by decide⟩
def braceL : List UInt8 → Option (List UInt8 × List UInt8)
 | 123 :: s => match (spanL (fun b => b != 125) s).2 with
  | [] => none
  | _ :: r => some ((spanL (fun b => b != 125) s).1, r)
 | _ => none
def decN (n : Nat) : List UInt8 := if n < 10 then [UInt8.ofNat (48 + n)] else [UInt8.ofNat (48 + n / 10), UInt8.ofNat (48 + n % 10)]
def numN (s : List UInt8) : Option Nat :=
 match s with
 | [a] => if 49 ≤ a.toNat ∧ a.toNat ≤ 57 then some (a.toNat - 48) else none
 | [a, b] => if 49 ≤ a.toNat ∧ a.toNat ≤ 57 ∧ 48 ≤ b.toNat ∧ b.toNat ≤ 57 then some (10 * (a.toNat - 48) + (b.toNat - 48)) else none
 | _ => none
theorem ofNat_toNat {m : Nat} (h : m < 256) : (UInt8.ofNat m).toNat = m := by
 simp [UInt8.toNat_ofNat']
 omega
theorem numN_decN {n : Nat} (h1 : 1 ≤ n) (h2 : n ≤ 99) : numN (decN n) = some n := by
 unfold decN
 split
 ·rename_i h
  simp only [numN, ofNat_toNat (show 48 + n < 256 by omega)]
  rw [if_pos (by omega)]
  congr 1
  omega
 ·simp only [numN, ofNat_toNat (show 48 + n / 10 < 256 by omega), ofNat_toNat (show 48 + n % 10 < 256 by omega)]
  rw [if_pos (by omega)]
  congr 1
  omega
def countL (s : List UInt8) : Option (Nat × Bool) := if s.getLast? = some 43 then (numN s.dropLast).map fun n => (n, true) else (numN s).map fun n => (n, false)
section
variable (nm ky : List UInt8 → Bool)
def placeL (k : Nat) (s : List UInt8) : Option (Pc × List UInt8) :=
 if k = 0 then none
 else if k = 7 then (braceL s).bind fun x => if nm x.1 then some (⟨7, x.1, 0, false⟩, x.2) else none
 else if k = 8 then (braceL s).bind fun x => if ky x.1 then some (⟨8, x.1, 0, false⟩, x.2) else none
 else if k = 9 ∧ s.head? = some 123 then (braceL s).bind fun x => (countL x.1).map fun c => (⟨9, [], c.1, c.2⟩, x.2)
 else some (⟨k, [], 0, false⟩, s)
def stepL : List UInt8 → Option (Pc × List UInt8)
 | [] => none
 | b :: r =>
  if b ≠ 36 ∧ b ≠ 37 then some (⟨1, [b], 0, false⟩, r)
  else if r.head? = some b then some (⟨1, [b], 0, false⟩, r.tail)
  else if b = 37 then match r with
   | [] => none
   | c :: r' => placeL nm ky (kindOfLetter c) r'
  else placeL nm ky (kindOfWord (spanL azCh r).1) (spanL azCh r).2
structure Well (p : Pc) : Prop where
 k1 : 2 ≤ p.kind
 k2 : p.kind ≤ 11
 t7 : p.kind = 7 → nm p.text = true
 t8 : p.kind = 8 → ky p.text = true
 t0 : p.kind ≠ 7 → p.kind ≠ 8 → p.text = []
 w9 : p.kind = 9 → p.word ≤ 99 ∧ (p.word = 0 → p.more = false)
 w0 : p.kind ≠ 9 → p.word = 0 ∧ p.more = false
variable {nm ky}
end
end Go.Proofs.YtkkibibecgcbmaaGreatDoor
namespace Go.Proofs.YtkkibibecgcbmaaGreatDoor
section
variable (nm ky : List UInt8 → Bool)
def rawF : Nat → List UInt8 → Option (List Pc)
 | _, [] => some []
 | 0, _ :: _ => none
 | f + 1, b :: s => match stepL nm ky (b :: s) with
  | none => none
  | some (p, r) => (rawF f r).map (p :: ·)
def pcT (b : UInt8) : Pc := ⟨1, [b], 0, false⟩
def addP (l : List Pc) (p : Pc) : List Pc :=
 match l.getLast? with
 | none => l ++ [p]
 | some q => if p.kind = 1 ∧ q.kind = 1 then l.dropLast ++ [⟨q.kind, q.text ++ p.text, q.word, q.more⟩] else l ++ [p]
def parseP (s : List UInt8) : Option (List Pc) := (rawF nm ky s.length s).map fun l => l.foldl addP []
variable {nm ky}
theorem addP_text (acc : List Pc) : ∀ (t u : List UInt8), (t.map pcT).foldl addP (acc ++ [⟨1, u, 0, false⟩]) = acc ++ [⟨1, u ++ t, 0, false⟩]
 | [], u => by simp
 | b :: t, u => by
  have e : addP (acc ++ [⟨1, u, 0, false⟩]) (pcT b) = acc ++ [⟨1, u ++ [b], 0, false⟩] := by
   simp [addP, pcT]
  rw [List.map_cons, List.foldl_cons, e, addP_text acc t (u ++ [b]), List.append_assoc]
  rfl
theorem addP_new (acc : List Pc) (p : Pc) (h : p.kind ≠ 1 ∨ ∀ q, acc.getLast? = some q → q.kind ≠ 1) : addP acc p = acc ++ [p] := by
 unfold addP
 cases e : acc.getLast? with
 | none => rfl
 | some q =>
  simp only
  rw [if_neg]
  rintro ⟨h1, h2⟩
  rcases h with h | h
  ·exact h h1
  ·exact h q e h2
end
end Go.Proofs.YtkkibibecgcbmaaGreatDoor
namespace Go.Proofs.YtkkibibecgcbmaaGreatDoor
section
variable {nm ky : List UInt8 → Bool}
end
end Go.Proofs.YtkkibibecgcbmaaGreatDoor
namespace Go.Proofs.YtkkibibecgcbmaaGreatDoor
section
variable (nm ky : List UInt8 → Bool)
def pfrom (acc : List Pc) (s : List UInt8) : Option (List Pc) := (rawF nm ky s.length s).map fun l => l.foldl addP acc
def plainCh (b : UInt8) : Bool := b != 36 && b != 37
def firstL (s : List UInt8) : Option (Pc × List UInt8) :=
 if (spanL plainCh s).1 = [] then stepL nm ky s else some (⟨1, (spanL plainCh s).1, 0, false⟩, (spanL plainCh s).2)
variable {nm ky}
theorem spanL_len (p : UInt8 → Bool) (s : List UInt8) : (spanL p s).1.length + (spanL p s).2.length = s.length := by
 have := congrArg List.length (spanL_eq p s).1
 simpa using this
theorem braceL_inv {s a r : List UInt8} (h : braceL s = some (a, r)) : s = 123 :: (a ++ 125 :: r) ∧ a.all (fun b => b != 125) = true := by
 match s with
 | [] => cases h
 | c :: s =>
  by_cases hc : c = 123
  ·subst hc
   rw [braceL] at h
   split at h
   ·cases h
   ·rename_i q r' hr
    obtain ⟨e1, e2, e3⟩ := spanL_eq (fun b => b != 125) s
    have e3 := e3 q r' hr
    cases h
    have : q = 125 := by simpa using e3
    subst this
    rw [hr] at e1
    exact ⟨by rw [e1], e2⟩
  ·unfold braceL at h
   split at h
   ·rename_i s' e
    cases e
    exact absurd rfl hc
   ·cases h
theorem numN_le {s : List UInt8} {n : Nat} (h : numN s = some n) : 1 ≤ n ∧ n ≤ 99 := by
 unfold numN at h
 split at h
 ·split at h
  ·cases h; omega
  ·cases h
 ·split at h
  ·cases h; omega
  ·cases h
 ·cases h
theorem countL_le {s : List UInt8} {c : Nat × Bool} (h : countL s = some c) : 1 ≤ c.1 ∧ c.1 ≤ 99 := by
 unfold countL at h
 split at h
 ·obtain ⟨n, hn, rfl⟩ := Option.map_eq_some_iff.1 h
  exact numN_le hn
 ·obtain ⟨n, hn, rfl⟩ := Option.map_eq_some_iff.1 h
  exact numN_le hn
theorem placeL_le {k : Nat} {s r : List UInt8} {p : Pc} (h : placeL nm ky k s = some (p, r)) : r.length ≤ s.length ∧ p.kind = k ∧ k ≠ 0 ∧ (k ≤ 11 → 1 < k → Well nm ky p) ∧ p.text.length ≤ s.length := by
 unfold placeL at h
 split at h
 ·cases h
 rename_i h0
 split at h
 ·rename_i h7
  subst h7
  obtain ⟨x, hx, h⟩ := Option.bind_eq_some_iff.1 h
  split at h
  ·rename_i hv
   cases h
   obtain ⟨e, _⟩ := braceL_inv hx
   refine ⟨by rw [e]; simp; omega, rfl, by decide, fun _ _ => ⟨by simp, by simp, fun _ => hv, fun h => by simp at h, fun h => absurd rfl h, fun h => by simp at h, fun _ => ⟨rfl, rfl⟩⟩, by rw [e]; simp; omega⟩
  ·cases h
 rename_i h7
 split at h
 ·rename_i h8
  subst h8
  obtain ⟨x, hx, h⟩ := Option.bind_eq_some_iff.1 h
  split at h
  ·rename_i hv
   cases h
   obtain ⟨e, _⟩ := braceL_inv hx
   refine ⟨by rw [e]; simp; omega, rfl, by decide, fun _ _ => ⟨by simp, by simp, fun h => by simp at h, fun _ => hv, fun _ h => absurd rfl h, fun h => by simp at h, fun _ => ⟨rfl, rfl⟩⟩, by rw [e]; simp; omega⟩
  ·cases h
 rename_i h8
 split at h
 ·rename_i h9
  obtain ⟨rfl, _⟩ := h9
  obtain ⟨x, hx, h⟩ := Option.bind_eq_some_iff.1 h
  obtain ⟨c, hc, h⟩ := Option.map_eq_some_iff.1 h
  cases h
  obtain ⟨e, _⟩ := braceL_inv hx
  have hl := countL_le hc
  refine ⟨by rw [e]; simp; omega, rfl, by decide, fun _ _ => ⟨by simp, by simp, fun h => by simp at h, fun h => by simp at h, fun _ _ => rfl, fun _ => ⟨hl.2, fun h => absurd h (by have := hl.1; simp only; omega)⟩, fun h => absurd rfl h⟩, by simp⟩
 ·rename_i h9
  cases h
  exact ⟨Nat.le_refl _, rfl, h0, fun h11 h1 => ⟨h1, h11, fun h => absurd h h7, fun h => absurd h h8, fun _ _ => rfl, fun _ => ⟨by simp, fun _ => rfl⟩, fun _ => ⟨rfl, rfl⟩⟩, by simp⟩
theorem kindOfWord_le (w : List UInt8) : kindOfWord w = 0 ∨ (2 ≤ kindOfWord w ∧ kindOfWord w ≤ 11 ∧ wordOf (kindOfWord w) = w) := by
 unfold kindOfWord
 cases e : [2, 3, 4, 5, 6, 7, 8, 9, 10, 11].find? fun k => wordOf k == w with
 | none => exact .inl rfl
 | some k =>
  right
  have h1 := List.mem_of_find?_eq_some e
  have h2 := List.find?_some e
  simp at h1
  refine ⟨?_, ?_, by simpa using h2⟩
  ·simp only [Option.getD_some]; omega
  ·simp only [Option.getD_some]; omega
theorem kindOfLetter_le (b : UInt8) : kindOfLetter b = 0 ∨ (2 ≤ kindOfLetter b ∧ kindOfLetter b ≤ 10 ∧ letterOf (kindOfLetter b) = b) := by
 unfold kindOfLetter
 cases e : [2, 3, 4, 5, 6, 7, 8, 9, 10].find? fun k => letterOf k == b with
 | none => exact .inl rfl
 | some k =>
  right
  have h1 := List.mem_of_find?_eq_some e
  have h2 := List.find?_some e
  simp at h1
  refine ⟨?_, ?_, by simpa using h2⟩
  ·simp only [Option.getD_some]; omega
  ·simp only [Option.getD_some]; omega
def Read (nm ky : List UInt8 → Bool) (p : Pc) : Prop := (p.kind = 1 ∧ p.text ≠ [] ∧ p.word = 0 ∧ p.more = false) ∨ Well nm ky p
theorem stepL_le {s r : List UInt8} {p : Pc} (h : stepL nm ky s = some (p, r)) : r.length < s.length ∧ Read nm ky p ∧ p.text.length ≤ s.length := by
 match s with
 | [] => cases h
 | b :: s =>
  unfold stepL at h
  dsimp only at h
  split at h
  ·cases h
   exact ⟨by simp, .inl ⟨rfl, by simp, rfl, rfl⟩, by simp⟩
  split at h
  ·cases h
   refine ⟨?_, .inl ⟨rfl, by simp, rfl, rfl⟩, by simp⟩
   rw [List.length_tail, List.length_cons]
   omega
  split at h
  ·split at h
   ·cases h
   ·rename_i c r' _
    obtain ⟨h1, h2, h3, h4, h5⟩ := placeL_le h
    have hk := kindOfLetter_le c
    refine ⟨by simp; omega, .inr (h4 (by omega) (by omega)), by simp; omega⟩
  ·obtain ⟨h1, h2, h3, h4, h5⟩ := placeL_le h
   have hk := kindOfWord_le (spanL azCh s).1
   have hs := spanL_len azCh s
   refine ⟨by simp; omega, .inr (h4 (by omega) (by omega)), by simp; omega⟩
theorem rawF_fuel : ∀ (f : Nat) (s : List UInt8), s.length ≤ f → rawF nm ky f s = rawF nm ky s.length s := by
 intro f
 induction f using Nat.strongRecOn with
 | _ f ih =>
  intro s h
  match f, s with
  | f, [] => cases f <;> rfl
  | 0, b :: s => simp at h
  | f + 1, b :: s =>
   rw [List.length_cons, rawF, rawF]
   cases e : stepL nm ky (b :: s) with
   | none => rfl
   | some x =>
    obtain ⟨p, r⟩ := x
    have hr := (stepL_le e).1
    rw [List.length_cons] at hr h
    simp only
    rw [ih f (by omega) r (by omega)]
    by_cases hf : s.length < f + 1
    ·rw [ih s.length (by omega) r (by omega)]
    ·omega
theorem pfrom_nil (acc : List Pc) : pfrom nm ky acc [] = some acc := rfl
theorem pfrom_none (acc : List Pc) {s : List UInt8} (hs : s ≠ []) (h : stepL nm ky s = none) : pfrom nm ky acc s = none := by
 cases s with
 | nil => exact absurd rfl hs
 | cons b s => simp [pfrom, rawF, h]
theorem pfrom_step (acc : List Pc) {s r : List UInt8} {p : Pc} (h : stepL nm ky s = some (p, r)) : pfrom nm ky acc s = pfrom nm ky (addP acc p) r := by
 cases s with
 | nil => cases h
 | cons b s =>
  have hr := (stepL_le h).1
  rw [List.length_cons] at hr
  unfold pfrom
  rw [List.length_cons, rawF, h]
  simp only
  rw [rawF_fuel s.length r (by omega), Option.map_map]
  rfl
theorem stepL_plain {b : UInt8} (h : plainCh b = true) (r : List UInt8) : stepL nm ky (b :: r) = some (⟨1, [b], 0, false⟩, r) := by
 unfold stepL
 dsimp only
 rw [if_pos (by simpa [plainCh] using h)]
theorem addP_chunk (acc : List Pc) (b : UInt8) (t : List UInt8) : (t.map pcT).foldl addP (addP acc (pcT b)) = addP acc ⟨1, b :: t, 0, false⟩ := by
 cases hl : acc.getLast? with
 | none =>
  have : acc = [] := List.getLast?_eq_none_iff.1 hl
  subst this
  exact addP_text [] t [b]
 | some q =>
  obtain ⟨k, u, w, m⟩ := q
  by_cases hq : k = 1
  ·subst hq
   have e : ∀ x : List UInt8, addP acc ⟨1, x, 0, false⟩ = acc.dropLast ++ [⟨1, u ++ x, w, m⟩] := fun x => by simp [addP, hl]
   have g : ∀ (t x : List UInt8), (t.map pcT).foldl addP (acc.dropLast ++ [⟨1, x, w, m⟩]) = acc.dropLast ++ [⟨1, x ++ t, w, m⟩] := by
    intro t
    induction t with
    | nil => intro x; simp
    | cons c t ih =>
     intro x
     have e : addP (acc.dropLast ++ [⟨1, x, w, m⟩]) (pcT c) = acc.dropLast ++ [⟨1, x ++ [c], w, m⟩] := by simp [addP, pcT]
     rw [List.map_cons, List.foldl_cons, e, ih, List.append_assoc]
     rfl
   show (t.map pcT).foldl addP (addP acc ⟨1, [b], 0, false⟩) = _
   rw [e, e, g, List.append_assoc]
   rfl
  ·have e : ∀ x : List UInt8, addP acc ⟨1, x, 0, false⟩ = acc ++ [⟨1, x, 0, false⟩] := fun x => addP_new acc _ (.inr fun q hq => by rw [hl] at hq; cases hq; exact hq)
   show (t.map pcT).foldl addP (addP acc ⟨1, [b], 0, false⟩) = _
   rw [e, e]
   exact addP_text acc t [b]
theorem pfrom_bytes : ∀ (t r : List UInt8) (acc : List Pc), t.all plainCh = true → pfrom nm ky acc (t ++ r) = pfrom nm ky ((t.map pcT).foldl addP acc) r
 | [], r, acc, _ => rfl
 | b :: t, r, acc, h => by
  rw [List.all_cons, Bool.and_eq_true] at h
  rw [List.cons_append, pfrom_step acc (stepL_plain h.1 (t ++ r)), pfrom_bytes t r _ h.2]
  rfl
theorem firstL_le {s r : List UInt8} {p : Pc} (h : firstL nm ky s = some (p, r)) : r.length < s.length ∧ Read nm ky p ∧ p.text.length ≤ s.length := by
 unfold firstL at h
 split at h
 ·exact stepL_le h
 ·rename_i hn
  have := spanL_len plainCh s
  cases h
  have hl : 0 < (spanL plainCh s).1.length := List.length_pos_iff.2 hn
  exact ⟨by omega, .inl ⟨rfl, hn, rfl, rfl⟩, by simp only; omega⟩
theorem pfrom_first (acc : List Pc) {s r : List UInt8} {p : Pc} (h : firstL nm ky s = some (p, r)) : pfrom nm ky acc s = pfrom nm ky (addP acc p) r := by
 unfold firstL at h
 split at h
 ·exact pfrom_step acc h
 ·rename_i hn
  obtain ⟨e, ha, _⟩ := spanL_eq plainCh s
  cases h
  conv => lhs; rw [← e]
  rw [pfrom_bytes _ _ _ ha]
  cases hx : (spanL plainCh s).1 with
  | nil => exact absurd hx hn
  | cons b t =>
   rw [List.map_cons, List.foldl_cons, addP_chunk]
theorem pfrom_first_none (acc : List Pc) {s : List UInt8} (hs : s ≠ []) (h : firstL nm ky s = none) : pfrom nm ky acc s = none := by
 unfold firstL at h
 split at h
 ·exact pfrom_none acc hs h
 ·cases h
theorem addP_len (acc : List Pc) (p : Pc) : (addP acc p).length ≤ acc.length + 1 := by
 unfold addP
 split
 ·simp
 ·split
  ·simp
  ·simp
theorem parseP_eq (s : List UInt8) : parseP nm ky s = pfrom nm ky [] s := rfl
def tsum (l : List Pc) : Nat := (l.map fun p => p.text.length).sum
theorem addP_tsum (acc : List Pc) (p : Pc) : tsum (addP acc p) = tsum acc + p.text.length := by
 unfold addP
 split
 ·simp [tsum]
 ·rename_i q hl
  split
  ·have e : acc = acc.dropLast ++ [q] := by
    obtain ⟨ys, rfl⟩ := List.getLast?_eq_some_iff.1 hl
    rw [List.dropLast_concat]
   conv => rhs; rw [e]
   simp [tsum]
   omega
  ·simp [tsum]
theorem Read.k {p : Pc} (h : Read nm ky p) : 1 ≤ p.kind ∧ p.kind ≤ 11 ∧ p.word ≤ 99 := by
 rcases h with ⟨h1, _, h3, _⟩ | h
 ·omega
 ·have h1 := h.k1
  have h2 := h.k2
  refine ⟨by omega, h2, ?_⟩
  by_cases h9 : p.kind = 9
  ·exact (h.w9 h9).1
  ·rw [(h.w0 h9).1]; omega
end
end Go.Proofs.YtkkibibecgcbmaaGreatDoor
namespace Go.Proofs.YtkkibibecgcbmaaGreatDoor
open Go.RowKit
theorem block_lt {w : World} {g : Nat} {o : Obj} (h : w.heap[g]? = some o) : g < w.heap.size := (Array.getElem?_eq_some_iff.1 h).1
theorem cell_of_row (w : World) (b o : Nat) (c : Array Value) (t : TypeId) (f : Nat × Nat) (h : w.heap[b]? = some (.cells c t f)) : w.cell? ⟨b, o, none⟩ = c[o]? := by simp [World.cell?, h]
structure Kp (s : List Nat) (w w' : World) : Prop where
 os : w'.os = w.os
 tape : w'.tape = w.tape
 output : w'.output = w.output
 size : w.heap.size ≤ w'.heap.size
 block : ∀ k, k < w.heap.size → k ∉ s → w'.heap[k]? = w.heap[k]?
theorem Kp.refl (s : List Nat) (w : World) : Kp s w w := ⟨rfl, rfl, rfl, Nat.le_refl _, fun _ _ _ => rfl⟩
theorem Kp.trans {s : List Nat} {a b c : World} (h : Kp s a b) (g : Kp s b c) : Kp s a c :=
 ⟨g.os.trans h.os, g.tape.trans h.tape, g.output.trans h.output, Nat.le_trans h.size g.size, fun k hk hs => (g.block k (Nat.lt_of_lt_of_le hk h.size) hs).trans (h.block k hk hs)⟩
theorem Kp.mono {s t : List Nat} {a b : World} (h : Kp s a b) (hs : ∀ x ∈ s, x ∈ t) : Kp t a b := ⟨h.os, h.tape, h.output, h.size, fun k hk hn => h.block k hk fun e => hn (hs k e)⟩
theorem Kp.drew {s : List Nat} {a b : World} (h : Kp s a b) (n : Nat) : Kp s a (b.drewN n) := ⟨h.os, h.tape, h.output, h.size, h.block⟩
theorem Kp.alloc {s : List Nat} {a b : World} (h : Kp s a b) (o : Obj) : Kp s a (b.alloc o) := by
 have hb := (Below.refl b.heap.size b).alloc (Nat.le_refl _) o
 exact h.trans ⟨hb.os, hb.tape, hb.output, hb.size, fun k hk _ => hb.block k hk⟩
theorem Kp.setRow {s : List Nat} {a b : World} (h : Kp s a b) {g : Nat} (hg : g ∈ s ∨ a.heap.size ≤ g) (cs : Array Value) : Kp s a (b.setRow g cs) :=
 ⟨h.os, h.tape, h.output, Nat.le_trans h.size (by simp [World.setRow]), fun k hk hn => (setRow_other b g k cs (by rintro rfl; rcases hg with hg | hg; exact hn hg; omega)).trans (h.block k hk hn)⟩
theorem Kp.setCell {s : List Nat} {a b : World} (h : Kp s a b) {p : Addr} (hg : p.block ∈ s ∨ a.heap.size ≤ p.block) (v : Value) : Kp s a (b.setCell p v) :=
 ⟨h.os, h.tape, h.output, Nat.le_trans h.size (by simp [World.setCell]), fun k hk hn => (Below.heap_setCell _ _ _ _ (by rintro rfl; rcases hg with hg | hg; exact hn hg; omega)).trans (h.block k hk hn)⟩
theorem Kp.below {s : List Nat} {a b : World} {B : Nat} (h : Kp s a b) (hB : B ≤ a.heap.size) (hs : ∀ x ∈ s, B ≤ x) : Below B a b :=
 ⟨h.os, h.tape, h.output, h.size, fun k hk => h.block k (Nat.lt_of_lt_of_le hk hB) fun e => by have := hs k e; omega⟩
theorem Kp.of_grown {w w' : World} {r : Nat} (h : w.grownBy w' (some r)) : Kp [r] w w' := ⟨h.os, h.tape, h.output, h.size, fun k hk hn => h.block k hk (by simpa using hn)⟩
theorem Kp.of_grown_none {w w' : World} (h : w.grownBy w' none) : Kp [] w w' := ⟨h.os, h.tape, h.output, h.size, fun k hk _ => h.block k hk (by simp)⟩
theorem Kp.of_below {w w' : World} (h : Below w.heap.size w w') : Kp [] w w' := ⟨h.os, h.tape, h.output, h.size, fun k hk _ => h.block k hk⟩
theorem Kp.up {s t : List Nat} {a b c : World} (h : Kp s a b) (g : Kp t b c) (ht : ∀ x ∈ t, x ∈ s ∨ a.heap.size ≤ x) : Kp s a c :=
 ⟨g.os.trans h.os, g.tape.trans h.tape, g.output.trans h.output, Nat.le_trans h.size g.size, fun k hk hs => (g.block k (Nat.lt_of_lt_of_le hk h.size) fun e => by rcases ht k e with q | q; exact hs q; omega).trans (h.block k hk hs)⟩
def Ints (w : World) (tb : Nat) (lv : Value) : Prop := (∃ a c, lv = .slice a 0 c) ∨ ∃ b o n c, lv = .slice (some ⟨b, o, none⟩) n c ∧ b < tb ∧ ∀ j, j < n → ∃ z, w.cell? ⟨b, o + j, none⟩ = some (.int .i64 z)
theorem Ints.keep {w w' : World} {tb : Nat} {lv : Value} (h : Ints w tb lv) (hk : ∀ b, b < tb → w'.heap[b]? = w.heap[b]?) : Ints w' tb lv := by
 rcases h with h | ⟨b, o, n, c, hv, hb, hz⟩
 ·exact .inl h
 ·refine .inr ⟨b, o, n, c, hv, hb, fun j hj => ?_⟩
  obtain ⟨z, hz⟩ := hz j hj
  refine ⟨z, ?_⟩
  simp only [World.cell?, hk b hb] at hz ⊢
  exact hz
theorem fold_any (z : Int) (n : Nat) (w : World) (h1 : 1 ≤ n) (h2 : n ≤ 1000000) :
  Calls Tryz.prog 33 #[.int .i64 z, .int .i64 n] w fun e w' => ∃ r : Nat, r < n ∧ e = .returned (.int .i64 r) ∧ w' = w := by
 by_cases hn : n = 1
 ·subst hn
  go_enter Tryz.func33, Tryz.ntmps33
  go_wp2
  go_ret
  exact ⟨0, by omega, rfl, rfl⟩
 ·have hn1 : ¬ ((n : Int) ≤ 1) := by omega
  have hn0 : ¬ ((n : Int) = 0) := by omega
  obtain ⟨q, hq⟩ : ∃ q : Int, z.tmod n = q := ⟨_, rfl⟩
  have hqa : -(n : Int) < q ∧ q < n := by
   rw [← hq]
   have h := Int.tmod_lt_of_pos z (show (0 : Int) < n by omega)
   have h' := Int.tmod_lt_of_pos (-z) (show (0 : Int) < n by omega)
   rw [Int.neg_tmod] at h'
   exact ⟨by omega, h⟩
  have hwr : IntKind.i64.wrap q = q := by rw [IntKind.wrap_i64]; omega
  by_cases hq0 : q < 0
  ·have hwr2 : IntKind.i64.wrap (q + n) = q + n := by rw [IntKind.wrap_i64]; omega
   go_enter Tryz.func33, Tryz.ntmps33
   go_wp2
   obtain ⟨r, hr⟩ : ∃ r : Nat, q + n = r := ⟨(q + n).toNat, by omega⟩
   rw [hr]
   go_ret
   exact ⟨r, by omega, rfl, rfl⟩
  ·go_enter Tryz.func33, Tryz.ntmps33
   go_wp2
   obtain ⟨r, hr⟩ : ∃ r : Nat, q = r := ⟨q.toNat, by omega⟩
   rw [hr]
   go_ret
   exact ⟨r, by omega, rfl, rfl⟩
theorem Kp.of_bel {w w' : World} (h : Below w.heap.size w w') : Kp [] w w' := Kp.of_below h
theorem Kp.belowTo {w0 w w' : World} (h : Kp [] w0 w) (g : Below w0.heap.size w w') : Kp [] w0 w' :=
 ⟨g.os.trans h.os, g.tape.trans h.tape, g.output.trans h.output, Nat.le_trans h.size g.size, fun k hk _ => (g.block k hk).trans (h.block k hk (by simp))⟩
end Go.Proofs.YtkkibibecgcbmaaGreatDoor
