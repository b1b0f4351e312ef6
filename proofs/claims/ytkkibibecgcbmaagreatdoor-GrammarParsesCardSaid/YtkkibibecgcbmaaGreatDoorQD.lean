/- D -/
import Derived.Lib.Hide
import Derived.Lib.Replace
import Derived.Test.YtkkibibecgcbmaaGreatDoorQB
import Derived.Lib.OthersKept
import Derived.Lib.IndexBytes
import Derived.Laws.RangeAny
import Derived.Test.YtkkibibecgcbmaaGreatDoorQShelf
import Derived.Deep.RegionHeld3
import Derived.Deep.RegionLaw
open Go.Lib renaming hid → qH
set_option maxRecDepth 100000
set_option maxHeartbeats 16000000
namespace Go.Proofs.YtkkibibecgcbmaaGreatDoor.Lx
structure Tok where
 key : List UInt8
 name : List UInt8
 op : List UInt8
 val : List UInt8
def upCh (b : UInt8) : Bool := 65 ≤ b && b ≤ 90
def nmCh (b : UInt8) : Bool := 33 ≤ b && b ≤ 126 && b != 123 && b != 125 && b != 34
def prCh (b : UInt8) : Bool := 32 ≤ b && b ≤ 126
def opsL : List (List UInt8) := [[61, 61], [33, 61], [43, 61], [45, 61], [58, 61], [61]]
def spanL (p : UInt8 → Bool) : List UInt8 → List UInt8 × List UInt8
 | [] => ([], [])
 | b :: s => if p b then (b :: (spanL p s).1, (spanL p s).2) else ([], b :: s)
theorem spanL_app (p : UInt8 → Bool) : ∀ (a r : List UInt8), a.all p = true → (∀ b s, r = b :: s → p b = false) → spanL p (a ++ r) = (a, r)
 | [], [], _, _ => rfl
 | [], b :: s, _, h => by simp [spanL, h b s rfl]
 | b :: a, r, ha, h => by
  rw [List.all_cons, Bool.and_eq_true] at ha
  rw [List.cons_append, spanL, if_pos ha.1, spanL_app p a r ha.2 h]
theorem spanL_eq (p : UInt8 → Bool) : ∀ s : List UInt8, (spanL p s).1 ++ (spanL p s).2 = s ∧ (spanL p s).1.all p = true ∧ ∀ b r, (spanL p s).2 = b :: r → p b = false
 | [] => ⟨rfl, rfl, fun _ _ h => by cases h⟩
 | b :: s => by
  obtain ⟨h1, h2, h3⟩ := spanL_eq p s
  unfold spanL
  split
  ·rename_i hb
   exact ⟨by rw [List.cons_append, h1], by rw [List.all_cons, hb, h2]; rfl, h3⟩
  ·rename_i hb
   exact ⟨rfl, rfl, fun c r h => by cases h; simpa using hb⟩
inductive Rd (α : Type) where
 | bad
 | cut
 | ok (x : α) (r : List UInt8)
def valL : List UInt8 → Rd (List UInt8)
 | [] => .cut
 | b :: r => if b = 34 then .ok [] r else if b = 9 then .bad else
  match b, r with
  | 92, 34 :: r' => match valL r' with | .bad => .bad | .cut => .cut | .ok v q => .ok (34 :: v) q
  | b, r => match valL r with | .bad => .bad | .cut => .cut | .ok v q => .ok (b :: v) q
def fmtV (v : List UInt8) : List UInt8 := v.flatMap fun b => if b = 34 then [92, 34] else [b]
def goodV (v : List UInt8) : Prop := v.all prCh = true ∧ v.getLast? ≠ some 92
theorem valL_step (b : UInt8) (r : List UInt8) (h1 : b ≠ 34) (h2 : b ≠ 9) (h3 : b = 92 → ∀ q, r ≠ 34 :: q) : valL (b :: r) = match valL r with | .bad => .bad | .cut => .cut | .ok v q => .ok (b :: v) q := by
 rw [valL.eq_def]
 simp only [if_neg h1, if_neg h2]
 split
 ·rename_i r'
  exact absurd rfl (h3 rfl r')
 ·rfl
theorem valL_esc (r : List UInt8) : valL (92 :: 34 :: r) = match valL r with | .bad => .bad | .cut => .cut | .ok v q => .ok (34 :: v) q := by
 rw [valL.eq_def]
 rfl
theorem fmtV_cons (b : UInt8) (v : List UInt8) : fmtV (b :: v) = (if b = 34 then [92, 34] else [b]) ++ fmtV v := rfl
def opOf (s : List UInt8) : Option (List UInt8) := opsL.find? fun o => o.isPrefixOf s
def opL (k n s : List UInt8) : Rd Tok :=
 match opOf s with
 | none => .bad
 | some o => match s.drop o.length with
  | 34 :: r => match valL r with | .bad => .bad | .cut => .cut | .ok v q => .ok ⟨k, n, o, v⟩ q
  | _ => .bad
def nameL (k s1 : List UInt8) : Rd Tok :=
 match (spanL nmCh s1).2 with
 | [] => .cut
 | c :: s2 => if (spanL nmCh s1).1 = [] then .bad else if c = 125 then opL k (spanL nmCh s1).1 s2 else .bad
def tokenL (s : List UInt8) : Rd Tok :=
 if (spanL upCh s).1 = [] then .bad else
 match (spanL upCh s).2 with
 | [] => opL (spanL upCh s).1 [] []
 | c :: s1 => if c = 123 then nameL (spanL upCh s).1 s1 else opL (spanL upCh s).1 [] (c :: s1)
structure Good (x : Tok) : Prop where
 k0 : x.key ≠ []
 k1 : x.key.all upCh = true
 n1 : x.name.all nmCh = true
 o1 : x.op ∈ opsL
 v1 : goodV x.val
def fmtT (x : Tok) : List UInt8 := x.key ++ ((if x.name = [] then [] else 123 :: (x.name ++ [125])) ++ (x.op ++ 34 :: (fmtV x.val ++ [34])))
theorem opOf_app {o : List UInt8} (h : o ∈ opsL) (r : List UInt8) : opOf (o ++ 34 :: r) = some o := by
 simp only [opsL, List.mem_cons, List.not_mem_nil, or_false] at h
 rcases h with rfl | rfl | rfl | rfl | rfl | rfl <;> rfl
theorem valL_good : ∀ (n : Nat) (s v q : List UInt8), s.length ≤ n → s.all (fun b => prCh b || b == 9) = true → valL s = .ok v q → goodV v ∧ (∃ p, s = p ++ 34 :: q) ∧ (s.head? = some 34 → v = []) ∧ (v = [] → s.head? = some 34)
 | _, [], v, q, _, _, h => by
  rw [valL.eq_def] at h
  cases h
 | 0, b :: r, _, _, hn, _, _ => by simp at hn
 | n + 1, b :: r, v, q, hn, hp, h => by
  rw [List.all_cons, Bool.and_eq_true] at hp
  by_cases h1 : b = 34
  ·subst h1
   rw [valL.eq_def] at h
   simp only [if_true] at h
   cases h
   exact ⟨⟨rfl, by simp⟩, ⟨[], rfl⟩, fun _ => rfl, fun _ => rfl⟩
  ·by_cases h2 : b = 9
   ·subst h2
    rw [valL.eq_def] at h
    simp only [if_neg h1, if_true] at h
    cases h
   ·by_cases h3 : b = 92 ∧ ∃ r', r = 34 :: r'
    ·obtain ⟨rfl, r', rfl⟩ := h3
     rw [valL_esc] at h
     split at h
     ·cases h
     ·cases h
     ·rename_i v' q' hv'
      cases h
      rw [List.all_cons, Bool.and_eq_true] at hp
      obtain ⟨g, ⟨p, hpq⟩, g3, g4⟩ := valL_good n r' v' q (by simp at hn ⊢; omega) hp.2.2 hv'
      refine ⟨⟨by rw [List.all_cons, g.1]; rfl, ?_⟩, ⟨92 :: 34 :: p, by rw [hpq]; rfl⟩, fun e => by simp at e, fun e => by cases e⟩
      match v', g with
      | [], _ => simp
      | c :: v'', g => rw [List.getLast?_cons_cons]; exact g.2
    ·rw [valL_step b r h1 h2 (fun hb r' hr => h3 ⟨hb, r', hr⟩)] at h
     split at h
     ·cases h
     ·cases h
     ·rename_i v' q' hv'
      cases h
      obtain ⟨g, ⟨p, hpq⟩, g3, g4⟩ := valL_good n r v' q (by simp at hn ⊢; omega) hp.2 hv'
      have hb : prCh b = true := by
       have := hp.1
       simp only [Bool.or_eq_true, beq_iff_eq] at this
       exact this.resolve_right h2
      refine ⟨⟨by rw [List.all_cons, hb, g.1]; rfl, ?_⟩, ⟨b :: p, by rw [hpq]; rfl⟩, fun e => by simp at e; exact absurd e h1, fun e => by cases e⟩
      match v', g, g4 with
      | [], _, g4 =>
       simp only [List.getLast?_singleton, ne_eq, Option.some.injEq]
       intro hb92
       have := g4 rfl
       match r, this with
       | c :: r', e =>
        simp at e
        exact h3 ⟨hb92, r', by rw [e]⟩
      | c :: v'', g, _ => rw [List.getLast?_cons_cons]; exact g.2
end Go.Proofs.YtkkibibecgcbmaaGreatDoor.Lx
namespace Go.Proofs.YtkkibibecgcbmaaGreatDoor.Lx
def lnCh (b : UInt8) : Bool := prCh b || b == 9
theorem opL_good {k n s q : List UInt8} {x : Tok} (hk : k ≠ []) (hk1 : k.all upCh = true) (hn : n.all nmCh = true) (hs : s.all lnCh = true) (h : opL k n s = .ok x q) : Good x ∧ ∃ p, s = p ++ q := by
 unfold opL at h
 split at h
 ·cases h
 ·rename_i o ho
  have hom : o ∈ opsL := List.mem_of_find?_eq_some ho
  have hop := List.find?_some ho
  split at h
  ·rename_i r hr
   split at h
   ·cases h
   ·cases h
   ·rename_i v q' hv
    cases h
    have hsr : s = o ++ 34 :: r := by
     have := List.prefix_iff_eq_append.1 (List.isPrefixOf_iff_prefix.1 hop)
     rw [← this, hr]
    have hr2 : r.all lnCh = true := by
     rw [hsr, List.all_append, List.all_cons] at hs
     simp only [Bool.and_eq_true] at hs
     exact hs.2.2
    obtain ⟨g, ⟨p, hp⟩, _⟩ := valL_good r.length r v q (Nat.le_refl _) hr2 hv
    exact ⟨⟨hk, hk1, hn, hom, g⟩, o ++ 34 :: (p ++ [34]), by rw [hsr, hp]; simp⟩
  ·cases h
theorem all_suffix {p : UInt8 → Bool} {s a b : List UInt8} (h : s.all p = true) (e : a ++ b = s) : b.all p = true := by
 rw [← e, List.all_append, Bool.and_eq_true] at h
 exact h.2
theorem tokenL_good {s q : List UInt8} {x : Tok} (hs : s.all lnCh = true) (h : tokenL s = .ok x q) : Good x ∧ ∃ p, s = p ++ q ∧ p ≠ [] := by
 obtain ⟨e1, u1, _⟩ := spanL_eq upCh s
 unfold tokenL at h
 split at h
 ·cases h
 ·rename_i hk
  have hr := all_suffix hs e1
  have fin : ∀ t : List UInt8, (∃ p, (spanL upCh s).2 = p ++ t) → ∃ p, s = p ++ t ∧ p ≠ [] := fun t ⟨p, hp⟩ => ⟨(spanL upCh s).1 ++ p, by rw [List.append_assoc, ← hp, e1], fun e => hk (List.append_eq_nil_iff.1 e).1⟩
  split at h
  ·rename_i hnil
   rw [hnil] at hr fin
   obtain ⟨g, hp⟩ := opL_good hk u1 rfl hr h
   exact ⟨g, fin q hp⟩
  ·rename_i c s1 hc
   rw [hc] at hr fin
   split at h
   ·unfold nameL at h
    obtain ⟨e2, u2, _⟩ := spanL_eq nmCh s1
    split at h
    ·cases h
    ·rename_i c2 s2 hc2
     split at h
     ·cases h
     ·split at h
      ·have hs1 : s1.all lnCh = true := by
        rw [List.all_cons, Bool.and_eq_true] at hr
        exact hr.2
       have h2 := all_suffix hs1 e2
       rw [hc2, List.all_cons, Bool.and_eq_true] at h2
       obtain ⟨g, p, hp⟩ := opL_good hk u1 u2 h2.2 h
       exact ⟨g, fin q ⟨c :: ((spanL nmCh s1).1 ++ c2 :: p), by
        have : s1 = (spanL nmCh s1).1 ++ c2 :: (p ++ q) := by rw [← hp, ← hc2, e2]
        rw [List.cons_append, List.append_assoc, List.cons_append, ← this]⟩⟩
      ·cases h
   ·obtain ⟨g, hp⟩ := opL_good hk u1 rfl hr h
    exact ⟨g, fin q hp⟩
def sepCh (b : UInt8) : Bool := b == 32 || b == 9 || b == 44
def trimL (s : List UInt8) : List UInt8 := s.dropWhile sepCh
def tokensF : Nat → List UInt8 → Rd (List Tok)
 | 0, _ => .bad
 | f + 1, s => if s = [] then .ok [] [] else
  match tokenL s with
  | .bad => .bad
  | .cut => .cut
  | .ok x r => if r ≠ [] ∧ trimL r = r then .bad else
   match tokensF f (trimL r) with
   | .bad => .bad
   | .cut => .cut
   | .ok l q => .ok (x :: l) q
def tokensL (s : List UInt8) : Rd (List Tok) := tokensF (s.length + 1) (trimL s)
def fmtL : List Tok → List UInt8
 | [] => []
 | [x] => fmtT x
 | x :: y :: l => fmtT x ++ 44 :: 32 :: fmtL (y :: l)
theorem tokensF_good : ∀ (f : Nat) (s : List UInt8) (l : List Tok) (q : List UInt8), s.all lnCh = true → tokensF f s = .ok l q → ∀ x ∈ l, Good x
 | 0, _, _, _, _, h => by cases h
 | f + 1, s, l, q, hs, h => by
  rw [tokensF] at h
  split at h
  ·cases h
   intro x hx
   cases hx
  ·split at h
   ·cases h
   ·cases h
   ·rename_i x r hx
    obtain ⟨g, p, hp, _⟩ := tokenL_good hs hx
    split at h
    ·cases h
    ·split at h
     ·cases h
     ·cases h
     ·rename_i l' q' hl
      cases h
      have hr : r.all lnCh = true := all_suffix hs hp.symm
      have ht : (trimL r).all lnCh = true := List.all_eq_true.2 fun b hb => List.all_eq_true.1 hr b ((List.dropWhile_sublist _).mem hb)
      intro z hz
      rcases List.mem_cons.1 hz with rfl | hz
      ·exact g
      ·exact tokensF_good f (trimL r) l' q ht hl z hz
end Go.Proofs.YtkkibibecgcbmaaGreatDoor.Lx
namespace Go.Proofs.YtkkibibecgcbmaaGreatDoor.Lx
def repA (old new s : List UInt8) : List UInt8 := Lib.replaceK old new (Lib.count s old) s
theorem replaceAll_repA {old new s : List UInt8} (h : old ≠ new) : Lib.replaceAll s old new = repA old new s := by
 unfold Lib.replaceAll Lib.replace repA Lib.replaceNum
 rw [if_neg (by simpa using h), if_pos (.inl (by omega))]
theorem repA_nil {old new : List UInt8} (h : old ≠ []) : repA old new [] = [] := by
 have hi : Lib.index [] old = -1 := by
  cases old with
  | nil => exact absurd rfl h
  | cons b l => rfl
 unfold repA
 rw [Lib.count_miss hi]
 rfl
theorem repA_hit {old new s : List UInt8} (h : old ≠ []) (hs : s ≠ []) (hp : old.isPrefixOf s = true) : repA old new s = new ++ repA old new (s.drop old.length) := by
 have hi : Lib.index s old = ((0 : Nat) : Int) := by
  cases s with
  | nil => exact absurd rfl hs
  | cons b l => rw [Lib.index, if_pos hp]; rfl
 have hc := Lib.count_hit h hi
 unfold repA
 rw [hc, Nat.add_comm 1, Lib.replaceK_hit old new _ s 0 hi]
 simp
theorem repA_miss {old new : List UInt8} {b : UInt8} {r : List UInt8} (h : old ≠ []) (hp : old.isPrefixOf (b :: r) = false) : repA old new (b :: r) = b :: repA old new r := by
 by_cases hm : Lib.index r old = -1
 ·have hi : Lib.index (b :: r) old = -1 := by rw [Lib.index, hp, hm]; rfl
  unfold repA
  rw [Lib.count_miss hi, Lib.count_miss hm]
  rfl
 ·have hge := Lib.index_ge r old
  obtain ⟨i, hi⟩ : ∃ i : Nat, Lib.index r old = i := ⟨(Lib.index r old).toNat, by omega⟩
  have hi2 : Lib.index (b :: r) old = ((i + 1 : Nat) : Int) := by
   rw [Lib.index, hp, hi]
   have : (((i : Int)) == -1) = false := by simp
   simp [this]
  have hc := Lib.count_hit h hi
  have hc2 := Lib.count_hit h hi2
  unfold repA
  rw [hc, hc2, Nat.add_comm 1, Nat.add_comm 1, Lib.replaceK_hit old new _ r i hi, Lib.replaceK_hit old new _ (b :: r) (i + 1) hi2]
  rw [show i + 1 + old.length = (i + old.length) + 1 by omega, List.drop_succ_cons, List.take_succ_cons]
  rfl
def unescL : List UInt8 → List UInt8
 | [] => []
 | [b] => [b]
 | a :: b :: r => if a = 92 ∧ b = 34 then 34 :: unescL r else a :: unescL (b :: r)
theorem unescL_esc (r : List UInt8) : unescL (92 :: 34 :: r) = 34 :: unescL r := by rw [unescL, if_pos ⟨rfl, rfl⟩]
theorem unescL_step (b : UInt8) (r : List UInt8) (h : b = 92 → ∀ q, r ≠ 34 :: q) : unescL (b :: r) = b :: unescL r := by
 cases r with
 | nil => rfl
 | cons c r => rw [unescL, if_neg (fun e => h e.1 r (by rw [e.2]))]
theorem repA_unesc : ∀ (n : Nat) (s : List UInt8), s.length ≤ n → repA [92, 34] [34] s = unescL s
 | _, [], _ => repA_nil (by simp)
 | n + 1, a :: r, hn => by
  by_cases hp : List.isPrefixOf [92, 34] (a :: r) = true
  ·cases r with
   | nil => simp [List.isPrefixOf] at hp
   | cons b r =>
    have e : a = 92 ∧ b = 34 := by
     simp [List.isPrefixOf] at hp
     exact ⟨hp.1.symm, hp.2.symm⟩
    obtain ⟨rfl, rfl⟩ := e
    rw [repA_hit (by simp) (by simp) hp, unescL_esc, List.cons_append, List.nil_append]
    rw [show ([92, 34] : List UInt8).length = 2 from rfl, List.drop_succ_cons, List.drop_succ_cons, List.drop_zero, repA_unesc n r (by simp at hn; omega)]
  ·have hf : List.isPrefixOf [92, 34] (a :: r) = false := Bool.eq_false_iff.2 hp
   rw [repA_miss (by simp) hf, repA_unesc n r (by simp at hn; omega), unescL_step a r (fun ha q hr => ?_)]
   rw [ha, hr] at hp
   exact hp (by simp [List.isPrefixOf])
theorem repA_fmt : ∀ (s : List UInt8), repA [34] [92, 34] s = fmtV s
 | [] => repA_nil (by simp)
 | a :: r => by
  have ih := repA_fmt r
  rw [fmtV_cons]
  by_cases h : a = 34
  ·rw [repA_hit (by simp) (by simp) (by simp [List.isPrefixOf, h]), if_pos h, ← ih]
   rfl
  ·rw [repA_miss (by simp) (by simp [List.isPrefixOf]; exact fun e => h e.symm), if_neg h, ih]
   rfl
theorem unesc_eq (s : List UInt8) : Lib.replaceAll s [92, 34] [34] = unescL s := by rw [replaceAll_repA (by simp), repA_unesc s.length s (Nat.le_refl _)]
theorem esc_eq (s : List UInt8) : Lib.replaceAll s [34] [92, 34] = fmtV s := by rw [replaceAll_repA (by simp), repA_fmt]
def scanV : Bool → List UInt8 → Rd (List UInt8)
 | _, [] => .cut
 | esc, b :: r => if b = 34 ∧ esc = false then .ok [] r else if b = 9 then .bad else
  match scanV (b == 92) r with | .bad => .bad | .cut => .cut | .ok v q => .ok (b :: v) q
def Rd.map {α β : Type} (f : α → β) : Rd α → Rd β
 | .bad => .bad
 | .cut => .cut
 | .ok x r => .ok (f x) r
theorem valL_scan : ∀ (n : Nat) (s : List UInt8), s.length ≤ n → valL s = (scanV false s).map unescL
 | _, [], _ => by rw [valL.eq_def]; rfl
 | n + 1, b :: r, hn => by
  by_cases h1 : b = 34
  ·subst h1
   rw [valL.eq_def]
   simp [scanV, Rd.map, unescL]
  ·by_cases h2 : b = 9
   ·subst h2
    rw [valL.eq_def]
    simp [scanV, Rd.map]
   ·by_cases h3 : b = 92 ∧ ∃ r', r = 34 :: r'
    ·obtain ⟨rfl, r', rfl⟩ := h3
     have ih := valL_scan n r' (by simp at hn; omega)
     rw [valL_esc, ih]
     have e : scanV false (92 :: 34 :: r') = match scanV false r' with | .bad => .bad | .cut => .cut | .ok v q => .ok (92 :: 34 :: v) q := by
      simp [scanV]
      cases scanV false r' <;> rfl
     rw [e]
     cases scanV false r' with
     | bad => rfl
     | cut => rfl
     | ok v q => simp [Rd.map, unescL_esc]
    ·have h3' : b = 92 → ∀ q, r ≠ 34 :: q := fun hb q hr => h3 ⟨hb, q, hr⟩
     have ih := valL_scan n r (by simp at hn; omega)
     rw [valL_step b r h1 h2 h3', ih]
     have e : scanV false (b :: r) = match scanV (b == 92) r with | .bad => .bad | .cut => .cut | .ok v q => .ok (b :: v) q := by
      rw [scanV, if_neg (fun h => h1 h.1), if_neg h2]
     rw [e]
     by_cases hb : b = 92
     ·subst hb
      cases r with
      | nil => rfl
      | cons c r =>
       have hc : c ≠ 34 := fun hc => h3' rfl r (by rw [hc])
       have e2 : scanV true (c :: r) = scanV false (c :: r) := by simp [scanV, hc]
       rw [show ((92 : UInt8) == 92) = true from rfl, e2]
       cases hs : scanV false (c :: r) with
       | bad => rfl
       | cut => rfl
       | ok v q =>
        have hv : ∀ q', v ≠ 34 :: q' := by
         intro q' hv'
         rw [scanV, if_neg (fun h => hc h.1)] at hs
         split at hs
         ·cases hs
         ·split at hs
          ·cases hs
          ·cases hs
          ·cases hs
           cases hv'
           exact hc rfl
        simp only [Rd.map]
        rw [unescL_step 92 v (fun _ => hv)]
     ·rw [show (b == 92) = false by simpa using hb]
      cases scanV false r with
      | bad => rfl
      | cut => rfl
      | ok v q => simp only [Rd.map]; rw [unescL_step b v (fun h => absurd h hb)]
def opCh (b : UInt8) : Bool := b == 61 || b == 33 || b == 43 || b == 45 || b == 58
def opB (s : List UInt8) : Rd (List UInt8) :=
 if opsL.contains (spanL opCh s).1 then match (spanL opCh s).2 with | 34 :: r => .ok (spanL opCh s).1 r | _ => .bad else .bad
theorem opB_eq (s : List UInt8) : opB s = match opOf s with | none => .bad | some o => match s.drop o.length with | 34 :: r => .ok o r | _ => .bad := by
 obtain ⟨e1, e2, e3⟩ := spanL_eq opCh s
 unfold opB
 by_cases hc : opsL.contains (spanL opCh s).1 = true
 ·rw [if_pos hc]
  split
  ·rename_i r hr
   have hs : s = (spanL opCh s).1 ++ 34 :: r := by rw [← hr, e1]
   have ho := opOf_app (List.contains_iff_mem.1 hc) r
   rw [← hs] at ho
   rw [ho]
   simp only
   have hd : s.drop (spanL opCh s).1.length = 34 :: r := by
    conv => lhs; arg 2; rw [hs]
    exact List.drop_left' rfl
   rw [hd]
   rfl
  ·rename_i hn
   split
   ·rfl
   ·rename_i o ho
    split
    ·rename_i r hr
     exfalso
     have hom : o ∈ opsL := List.mem_of_find?_eq_some ho
     have hop := List.find?_some ho
     have hs : s = o ++ 34 :: r := by
      have := List.prefix_iff_eq_append.1 (List.isPrefixOf_iff_prefix.1 hop)
      rw [← this, hr]
     have hall : o.all opCh = true := by
      simp only [opsL, List.mem_cons, List.not_mem_nil, or_false] at hom
      rcases hom with rfl | rfl | rfl | rfl | rfl | rfl <;> rfl
     have hsp := spanL_app opCh o (34 :: r) hall (fun b t h => by cases h; rfl)
     rw [← hs] at hsp
     exact hn r (by rw [hsp])
    ·rfl
 ·rw [if_neg hc]
  split
  ·rfl
  ·rename_i o ho
   split
   ·rename_i r hr
    exfalso
    have hom : o ∈ opsL := List.mem_of_find?_eq_some ho
    have hop := List.find?_some ho
    have hs : s = o ++ 34 :: r := by
     have := List.prefix_iff_eq_append.1 (List.isPrefixOf_iff_prefix.1 hop)
     rw [← this, hr]
    have hall : o.all opCh = true := by
     have hom2 := hom
     simp only [opsL, List.mem_cons, List.not_mem_nil, or_false] at hom2
     rcases hom2 with rfl | rfl | rfl | rfl | rfl | rfl <;> rfl
    have hsp := spanL_app opCh o (34 :: r) hall (fun b t h => by cases h; rfl)
    rw [← hs] at hsp
    exact hc (by rw [hsp]; exact List.contains_iff_mem.2 hom)
   ·rfl
def begO (k n s : List UInt8) : Rd Tok := (opB s).map fun o => ⟨k, n, o, []⟩
def begL (s : List UInt8) : Rd Tok :=
 if (spanL upCh s).1 = [] then .bad else
 match (spanL upCh s).2 with
 | 123 :: s1 => (match (spanL nmCh s1).2 with
  | [] => .cut
  | c :: s2 => if (spanL nmCh s1).1 = [] ∨ c ≠ 125 then .bad else begO (spanL upCh s).1 (spanL nmCh s1).1 s2)
 | s1 => begO (spanL upCh s).1 [] s1
theorem opL_beg (k n s : List UInt8) : opL k n s = match begO k n s with | .bad => .bad | .cut => .cut | .ok t body => (scanV false body).map fun raw => { t with val := unescL raw } := by
 unfold opL begO
 rw [opB_eq]
 cases opOf s with
 | none => rfl
 | some o =>
  simp only
  generalize s.drop o.length = d
  split
  ·rename_i r
   simp only [Rd.map]
   rw [valL_scan r.length r (Nat.le_refl _)]
   cases scanV false r <;> rfl
  ·simp only [Rd.map]
theorem tokenL_beg (s : List UInt8) : tokenL s = match begL s with | .bad => .bad | .cut => .cut | .ok t body => (scanV false body).map fun raw => { t with val := unescL raw } := by
 unfold tokenL begL
 split
 ·rfl
 ·cases hs : (spanL upCh s).2 with
  | nil => exact opL_beg _ _ _
  | cons c s1 =>
   simp only
   by_cases hc : c = 123
   ·subst hc
    rw [if_pos rfl]
    simp only [nameL]
    cases hn : (spanL nmCh s1).2 with
    | nil => rfl
    | cons d s2 =>
     simp only
     by_cases he : (spanL nmCh s1).1 = []
     ·rw [if_pos he, if_pos (.inl he)]
     ·rw [if_neg he]
      by_cases hd : d = 125
      ·rw [if_pos hd, if_neg (by simp [he, hd])]
       exact opL_beg _ _ _
      ·rw [if_neg hd, if_pos (.inr hd)]
   ·rw [if_neg hc]
    have e : (match c :: s1 with
     | 123 :: s1 => (match (spanL nmCh s1).2 with
      | [] => Rd.cut
      | c :: s2 => if (spanL nmCh s1).1 = [] ∨ c ≠ 125 then .bad else begO (spanL upCh s).1 (spanL nmCh s1).1 s2)
     | s1 => begO (spanL upCh s).1 [] s1) = begO (spanL upCh s).1 [] (c :: s1) := by
     split
     ·rename_i h
      cases h
      exact absurd rfl hc
     ·rfl
    rw [e]
    exact opL_beg _ _ _
end Go.Proofs.YtkkibibecgcbmaaGreatDoor.Lx
namespace Go.Proofs.YtkkibibecgcbmaaGreatDoor.Lx
open Go.RowKit
def clsN (n : Nat) : Nat :=
 if n = 9 then 33 else if n < 32 ∨ 126 < n then 0 else if n = 32 then 49 else if n = 44 then 53 else
 if n = 123 ∨ n = 125 ∨ n = 34 then 17 else if 65 ≤ n ∧ n ≤ 90 then 23 else
 if n = 61 ∨ n = 33 ∨ n = 43 ∨ n = 45 ∨ n = 58 then 29 else 21
theorem classOf_any (n : Nat) (w : World) : Calls Tryz.prog 75 #[.int .i32 (n : Int)] w fun r w' => r = .returned (.int .i64 (clsN n : Int)) ∧ w = w' := by
 go_enter Tryz.func75, Tryz.ntmps75
 go_wp2
 all_goals go_ret
 all_goals refine ⟨congrArg (fun k : Int => Ending.returned (.int .i64 k)) ?_, rfl⟩
 all_goals simp only [beq_iff_eq, beq_eq_false_iff_ne, ne_eq] at *
 all_goals unfold clsN
 all_goals repeat' split
 all_goals omega
def inC (c : Nat) (b : UInt8) : Bool := clsN b.toNat &&& c != 0
theorem forall_u8 {p : UInt8 → Bool} (h : (List.range 256).all (fun n => p (UInt8.ofNat n)) = true) (b : UInt8) : p b = true := by
 have := List.all_eq_true.1 h b.toNat (List.mem_range.2 (UInt8.toNat_lt b))
 simpa using this
theorem inC_line : inC 1 = lnCh := funext fun b => by
 have := forall_u8 (p := fun b => inC 1 b == lnCh b) (by decide +kernel) b
 simpa using this
theorem inC_key : inC 2 = upCh := funext fun b => by
 have := forall_u8 (p := fun b => inC 2 b == upCh b) (by decide +kernel) b
 simpa using this
theorem inC_name : inC 4 = nmCh := funext fun b => by
 have := forall_u8 (p := fun b => inC 4 b == nmCh b) (by decide +kernel) b
 simpa using this
theorem inC_op : inC 8 = opCh := funext fun b => by
 have := forall_u8 (p := fun b => inC 8 b == opCh b) (by decide +kernel) b
 simpa using this
theorem inC_val : inC 16 = prCh := funext fun b => by
 have := forall_u8 (p := fun b => inC 16 b == prCh b) (by decide +kernel) b
 simpa using this
theorem inC_sep : inC 32 = sepCh := funext fun b => by
 have := forall_u8 (p := fun b => inC 32 b == sepCh b) (by decide +kernel) b
 simpa using this
theorem cls_high {n : Nat} (h : 128 ≤ n) : clsN n = 0 := by
 unfold clsN
 rw [if_neg (by omega), if_pos (by omega)]
theorem inC_high {c : Nat} {b : UInt8} (h : 128 ≤ b.toNat) : inC c b = false := by
 unfold inC
 rw [cls_high h]
 simp
def ledL (c : Nat) (l : List UInt8) : Nat := (l.takeWhile (inC c)).length
theorem takeWhile_at {p : UInt8 → Bool} : ∀ {l : List UInt8} {i : Nat} {x : UInt8}, (l.take i).all p = true → l[i]? = some x → p x = false → (l.takeWhile p).length = i
 | [], _, _, _, h, _ => by simp at h
 | a :: l, 0, x, _, h, hx => by
  simp at h
  subst h
  simp [hx]
 | a :: l, i + 1, x, ha, h, hx => by
  simp only [List.take_succ_cons, List.all_cons, Bool.and_eq_true] at ha
  rw [List.takeWhile_cons, if_pos ha.1, List.length_cons, takeWhile_at ha.2 (by simpa using h) hx]
theorem takeWhile_all {p : UInt8 → Bool} : ∀ {l : List UInt8}, l.all p = true → (l.takeWhile p).length = l.length
 | [], _ => rfl
 | a :: l, h => by
  rw [List.all_cons, Bool.and_eq_true] at h
  rw [List.takeWhile_cons, if_pos h.1, List.length_cons, takeWhile_all h.2]
  rfl
theorem all_take_succ {p : UInt8 → Bool} {l : List UInt8} {i : Nat} {x : UInt8} (h : (l.take i).all p = true) (hx : l[i]? = some x) (hp : p x = true) : (l.take (i + 1)).all p = true := by
 rw [List.take_add_one, hx, List.all_append, h]
 simp [hp]
def clss : List Nat := [1, 2, 4, 8, 16, 32]
theorem cls_mem (n : Nat) : clsN n ∈ [33, 0, 49, 53, 17, 23, 29, 21] := by
 unfold clsN
 repeat' split
 all_goals simp
theorem bits_cls : ∀ k ∈ [33, 0, 49, 53, 17, 23, 29, 21], ∀ c ∈ clss, bits BinOp.and IntKind.i64 ((k : Nat) : Int) ((c : Nat) : Int) = ((k &&& c : Nat) : Int) := by decide +kernel
theorem bits_eq (n c : Nat) (hc : c ∈ clss) : bits BinOp.and IntKind.i64 (clsN n : Int) (c : Int) = ((clsN n &&& c : Nat) : Int) := bits_cls _ (cls_mem n) c hc
theorem bits_inC {b : UInt8} {c : Nat} (hc : c ∈ clss) : (bits BinOp.and IntKind.i64 (clsN b.toNat : Int) (c : Int) == 0) = !inC c b := by
 rw [bits_eq _ _ hc]
 unfold inC
 cases h : clsN b.toNat &&& c with
 | zero => rfl
 | succ k => rfl
theorem leading_any (s : ByteArray) (c : Nat) (w : World) (hc : c ∈ clss) : Calls Tryz.prog 72 #[.string s, .int .i64 (c : Int)] w fun r w' => r = .returned (.int .i64 (ledL c s.data.toList : Int)) ∧ Kp [] w w' := by
 go_enter Tryz.func72, Tryz.ntmps72
 go_wp2
 go_loopw [5] (fun _ w' => ∃ pos : Nat, w' = w.iter s pos ∧ pos ≤ s.size ∧ (s.data.toList.take pos).all (inC c) = true) (fun _ w' => s.size - w'.iterPos w.heap.size)
 case atStart => exact ⟨0, rfl, by omega, rfl⟩
 case round =>
  obtain ⟨pos, rfl, hle, hall⟩ := hrel
  have HA := qH hall
  clear hall
  by_cases hp : pos < s.size
  ·obtain ⟨x, hx⟩ : ∃ x : UInt8, s[pos]'hp = x := ⟨_, rfl⟩
   have hxl : s.data.toList[pos]? = some x := by rw [← hx]; exact Lib.data_getElem? s pos hp
   have HX := qH hxl
   clear hxl
   by_cases h8 : x.toNat < 128
   ·have hnx : ∀ ty, (Instr.next (.pointer (some ⟨w.heap.size, 0, none⟩)) true ty).run Tryz.prog (w.iter s pos) = _ := fun ty => run_next_ascii w s pos ty hp (by rw [hx]; exact h8)
    rw [hx] at hnx
    have HC := qH fun W => classOf_any x.toNat W
    go_wp2_with (go_at_call 75; refine (HC.out _).mono ?_; rintro r w' ⟨rfl, rfl⟩)
    ·rename_i hb
     rw [bits_inC hc, Bool.not_eq_true'] at hb
     go_ret
     refine ⟨?_, (Kp.refl [] w).alloc _⟩
     rw [show ledL c s.data.toList = pos from takeWhile_at HA.out HX.out hb]
     rfl
    ·rename_i hb
     rw [bits_inC hc, Bool.not_eq_false'] at hb
     refine ⟨⟨pos + 1, rfl, by omega, all_take_succ HA.out HX.out hb⟩, ?_⟩
     rw [World.iterPos_iter, World.iterPos_iter]
     omega
   ·have hnx : ∀ ty, (Instr.next (.pointer (some ⟨w.heap.size, 0, none⟩)) true ty).run Tryz.prog (w.iter s pos) = _ := fun ty => run_next_any w s pos ty hp
    have hh := (decode_high s pos hp (by rw [hx]; omega)).1
    obtain ⟨m, hm⟩ : ∃ m, (Utf8.decode s pos).1 = m := ⟨_, rfl⟩
    obtain ⟨q, hq⟩ : ∃ q, pos + (Utf8.decode s pos).2 = q := ⟨_, rfl⟩
    rw [hm] at hh hnx
    rw [hq] at hnx
    clear hm hq
    have HC := qH fun W => classOf_any m W
    have hz : bits BinOp.and IntKind.i64 (clsN m : Int) (c : Int) = 0 := by rw [bits_eq _ _ hc, cls_high hh, Nat.zero_and]; rfl
    have hb : inC c x = false := inC_high (by omega)
    go_wp2_with (go_at_call 75; refine (HC.out _).mono ?_; rintro r w' ⟨rfl, rfl⟩)
    go_ret
    refine ⟨?_, (Kp.refl [] w).alloc _⟩
    rw [show ledL c s.data.toList = pos from takeWhile_at HA.out HX.out hb]
    rfl
  ·have hnx : ∀ ty, (Instr.next (.pointer (some ⟨w.heap.size, 0, none⟩)) true ty).run Tryz.prog (w.iter s pos) = _ := fun ty => run_next_end w s pos ty hp
   have hsz := Lib.size_eq s
   have hl : ledL c s.data.toList = s.size := by
    have h := HA.out
    rw [List.take_of_length_le (by omega)] at h
    unfold ledL
    rw [takeWhile_all h, hsz]
   have HL := qH hl
   clear hl hsz
   go_wp2
   go_ret
   exact ⟨by rw [HL.out]; rfl, (Kp.refl [] w).alloc _⟩
theorem takeWhile_full {p : UInt8 → Bool} : ∀ {l : List UInt8}, ((l.takeWhile p).length == l.length) = l.all p
 | [] => rfl
 | a :: l => by
  have ih := takeWhile_full (p := p) (l := l)
  rw [List.takeWhile_cons, List.all_cons]
  cases h : p a with
  | false => rfl
  | true =>
   rw [Bool.true_and, ← ih]
   simp
theorem consists_any (s : ByteArray) (c : Nat) (w : World) (hc : c ∈ clss) : Calls Tryz.prog 71 #[.string s, .int .i64 (c : Int)] w fun r w' => r = .returned (.bool (s.data.toList.all (inC c))) ∧ Kp [] w w' := by
 have HL := qH (leading_any s c w hc)
 have hsz := Lib.size_eq s
 have he : ((ledL c s.data.toList : Int) == (s.size : Int)) = s.data.toList.all (inC c) := by
  rw [hsz, ← takeWhile_full (p := inC c)]
  unfold ledL
  rw [Bool.eq_iff_iff]
  simp only [beq_iff_eq]
  omega
 have HE := qH he
 clear he hsz
 go_enter Tryz.func71, Tryz.ntmps71
 go_wp2_with (go_at_call 72; refine HL.out.mono ?_; rintro r w' ⟨rfl, hk⟩)
 go_ret
 exact ⟨by rw [← HE.out]; rfl, hk⟩
theorem takeWhile_le (p : UInt8 → Bool) (l : List UInt8) : (l.takeWhile p).length ≤ l.length := (List.takeWhile_sublist p).length_le
theorem span_take (p : UInt8 → Bool) : ∀ l : List UInt8, l.take (l.takeWhile p).length = (spanL p l).1 ∧ l.drop (l.takeWhile p).length = (spanL p l).2
 | [] => ⟨rfl, rfl⟩
 | a :: l => by
  obtain ⟨h1, h2⟩ := span_take p l
  rw [List.takeWhile_cons]
  unfold spanL
  cases h : p a with
  | false => exact ⟨rfl, rfl⟩
  | true =>
   simp only [if_true, List.length_cons, List.take_succ_cons, List.drop_succ_cons, h1, h2]
   exact ⟨trivial, trivial⟩
theorem take_any (l : List UInt8) (c : Nat) (w : World) (hc : c ∈ clss) : Calls Tryz.prog 104 #[.string (bs l), .int .i64 (c : Int)] w fun r w' => r = .returned (.tuple #[.string (bs (spanL (inC c) l).1), .string (bs (spanL (inC c) l).2)]) ∧ Kp [] w w' := by
 have hL := leading_any (bs l) c w hc
 rw [bs_data] at hL
 have hle := takeWhile_le (inC c) l
 have hn : (ledL c l : Int) ≤ ((bs l).size : Int) := by rw [bs_size]; unfold ledL; omega
 have hn2 : ledL c l ≤ (bs l).size := by rw [bs_size]; exact hle
 obtain ⟨s1, s2⟩ := span_take (inC c) l
 have e1 : (bs l).extract 0 (ledL c l) = bs (spanL (inC c) l).1 := by rw [bs_take]; unfold ledL; rw [s1]
 have e2 : (bs l).extract (ledL c l) (bs l).size = bs (spanL (inC c) l).2 := by rw [bs_drop]; unfold ledL; rw [s2]
 have HL := qH hL
 have E1 := qH e1
 have E2 := qH e2
 clear hL e1 e2 s1 s2 hle
 generalize ledL c l = k at *
 go_enter Tryz.func104, Tryz.ntmps104
 go_wp2_with (go_at_call 72; refine HL.out.mono ?_; rintro r w' ⟨rfl, hk⟩)
 go_quiet (fail)
 go_wp2
 go_ret2
 rw [E1.out, E2.out]
 exact ⟨rfl, hk.drew _⟩
end Go.Proofs.YtkkibibecgcbmaaGreatDoor.Lx
namespace Go.Proofs.YtkkibibecgcbmaaGreatDoor.Lx
open Go.RowKit
theorem isOp_any (o : List UInt8) (w : World) : Calls Tryz.prog 106 #[.string (bs o)] w fun r w' => r = .returned (.bool (opsL.contains o)) ∧ w = w' := by
 go_enter Tryz.func106, Tryz.ntmps106
 go_wp2
 all_goals go_ret
 all_goals refine ⟨congrArg (fun b : Bool => Ending.returned (.bool b)) ?_, rfl⟩
 all_goals simp_all [Lib.toList_data, bs_data, opsL]
def Max (w : World) : Prop := ∃ m : Int, w.cell? ⟨2, 0, none⟩ = some (.int .i64 m)
theorem Max.pos {w : World} (h : Max w) : 2 < w.heap.size := by
 obtain ⟨m, h⟩ := h
 exact World.block_lt_of_cell? _ _ h
theorem Max.kp {w w' : World} {s : List Nat} (h : Max w) (hb : Kp s w w') (hs : 2 ∉ s) : Max w' := by
 have hp := h.pos
 obtain ⟨m, h⟩ := h
 refine ⟨m, ?_⟩
 simp only [World.cell?, hb.block 2 hp hs] at h ⊢
 exact h
def tokC (x : Tok) : Array Value := #[.string (bs x.key), .string (bs x.name), .string (bs x.op), .string (bs x.val)]
def TAt (w : World) (b : Nat) (x : Tok) : Prop := w.heap[b]? = some (.cells (tokC x) 81 (0, 0))
theorem TAt.cells {w : World} {b : Nat} {x : Tok} (h : TAt w b x) : w.cell? ⟨b, 0, none⟩ = some (.string (bs x.key)) ∧ w.cell? ⟨b, 1, none⟩ = some (.string (bs x.name)) ∧ w.cell? ⟨b, 2, none⟩ = some (.string (bs x.op)) ∧ w.cell? ⟨b, 3, none⟩ = some (.string (bs x.val)) := by
 refine ⟨?_, ?_, ?_, ?_⟩ <;> (rw [cell_of_row _ _ _ _ _ _ h]; rfl)
theorem TAt.kp {w w' : World} {b : Nat} {x : Tok} {s : List Nat} (h : TAt w b x) (hk : Kp s w w') (hs : b ∉ s) : TAt w' b x := (hk.block b (block_lt h) hs).trans h
theorem cons1 (l : List UInt8) (w : World) : Calls Tryz.prog 71 #[.string (bs l), .int .i64 1] w fun r w' => r = .returned (.bool (l.all lnCh)) ∧ Kp [] w w' := by
 have h := consists_any (bs l) 1 w (by decide)
 rw [bs_data, inC_line] at h
 exact h
theorem suffix_one (l : List UInt8) (c : UInt8) : Lib.hasSuffix l [c] = (l.getLast? == some c) := by
 unfold Lib.hasSuffix
 rw [Bool.eq_iff_iff, List.isSuffixOf_iff_suffix, beq_iff_eq]
 constructor
 ·rintro ⟨t, rfl⟩
  simp
 ·intro h
  obtain ⟨t, ht⟩ := List.getLast?_eq_some_iff.1 h
  exact ⟨t, ht.symm⟩
theorem suf92 (l : List UInt8) (w : World) (hl : l.length ≤ 9223372036854775807) : Calls Tryz.prog 44 #[.string (bs l), .string ⟨#[92]⟩] w fun r w' => r = .returned (.bool (l.getLast? == some 92)) ∧ w' = w := by
 have h := Tryz.strings_HasSuffix (bs l) ⟨#[92]⟩ w (by rw [bs_size]; exact hl)
 rw [bs_data, show (⟨#[92]⟩ : ByteArray).data.toList = [92] from rfl, suffix_one] at h
 exact h
def goodB (x : Tok) : Bool := !x.key.isEmpty && x.key.all upCh && x.name.all nmCh && opsL.contains x.op && x.val.all prCh && !(x.val.getLast? == some 92)
theorem repl_any (s old new : ByteArray) (w : World) (hs : s.size ≤ 1000000000) (hm : Max w) (h1 : 1 ≤ old.size) (h2 : new.size ≤ 2) : Calls Tryz.prog 86 #[.string s, .string old, .string new] w fun r w' => r = .returned (.string ⟨(Lib.replaceAll s.data.toList old.data.toList new.data.toList).toArray⟩) ∧ Kp [] w w' := by
 obtain ⟨m, hm⟩ := hm
 have hmul := Lib.countB_mul_le old h1 s.size s (Nat.le_refl _)
 have h3 : Lib.countB s old * 1 ≤ Lib.countB s old * old.size := Nat.mul_le_mul_left _ h1
 have h4 : Lib.countB s old * new.size ≤ Lib.countB s old * 2 := Nat.mul_le_mul_left _ h2
 exact (Tryz.strings_ReplaceAll s old new m w (by omega) hm h1 (by omega)).mono fun r w' ⟨h, hb⟩ => ⟨h, Kp.of_below hb⟩
theorem unesc_any (l : List UInt8) (w : World) (hl : l.length ≤ 1000000000) (hm : Max w) : Calls Tryz.prog 74 #[.string (bs l)] w fun r w' => r = .returned (.string (bs (unescL l))) ∧ Kp [] w w' := by
 have h := repl_any (bs l) ⟨#[92, 34]⟩ ⟨#[34]⟩ w (by rw [bs_size]; exact hl) hm (by decide) (by decide)
 rw [bs_data, show (⟨#[92, 34]⟩ : ByteArray).data.toList = [92, 34] from rfl, show (⟨#[34]⟩ : ByteArray).data.toList = [34] from rfl, unesc_eq] at h
 have H := qH h
 clear h hm
 go_enter Tryz.func74, Tryz.ntmps74
 go_wp2_with (go_at_call 86; refine H.out.mono ?_; rintro r w' ⟨rfl, hk⟩)
 go_ret
 exact ⟨rfl, hk⟩
theorem esc_any (l : List UInt8) (w : World) (hl : l.length ≤ 1000000000) (hm : Max w) : Calls Tryz.prog 86 #[.string (bs l), .string ⟨#[34]⟩, .string ⟨#[92, 34]⟩] w fun r w' => r = .returned (.string (bs (fmtV l))) ∧ Kp [] w w' := by
 have h := repl_any (bs l) ⟨#[34]⟩ ⟨#[92, 34]⟩ w (by rw [bs_size]; exact hl) hm (by decide) (by decide)
 rw [bs_data, show (⟨#[92, 34]⟩ : ByteArray).data.toList = [92, 34] from rfl, show (⟨#[34]⟩ : ByteArray).data.toList = [34] from rfl, esc_eq] at h
 exact h
end Go.Proofs.YtkkibibecgcbmaaGreatDoor.Lx
namespace Go.Proofs.YtkkibibecgcbmaaGreatDoor.Lx
open Go.RowKit
theorem run_add_str {P : Program} (W : World) (a b : ByteArray) (h : a.size + b.size ≤ 100000000000) : (Op.stringOp .add a b).run P W = .ok (.string (a ++ b)) W :=
 run_string_add_sum W a b (by omega)
theorem fmtV_len (v : List UInt8) : (fmtV v).length ≤ 2 * v.length := by
 induction v with
 | nil => simp [fmtV]
 | cons b v ih =>
  rw [fmtV_cons, List.length_append, List.length_cons]
  split <;> simp <;> omega
def Sm (x : Tok) : Prop := x.key.length ≤ 1000000000 ∧ x.name.length ≤ 1000000000 ∧ x.op.length ≤ 1000000000 ∧ x.val.length ≤ 1000000000
end Go.Proofs.YtkkibibecgcbmaaGreatDoor.Lx
namespace Go.Proofs.YtkkibibecgcbmaaGreatDoor.Lx
open Go.RowKit
variable {α : Type} (r : RT α)
variable {r}
variable (r)
variable {r}
abbrev Ln := Nat × List UInt8
def lnC (x : Ln) : List Value := [.int .i64 (x.1 : Int), .string (bs x.2)]
noncomputable def tokT : RT Tok where
 sz := 4
 ty := 81
 sl := 77
 bt := 64
 z := .agg #[.string ⟨#[]⟩, .string ⟨#[]⟩, .string ⟨#[]⟩, .string ⟨#[]⟩]
 cf := fun x => (tokC x).toList
 pos := by decide
 len := fun _ => rfl
 one := fun x v hv => by
  simp only [tokC, List.mem_cons, List.not_mem_nil, or_false] at hv
  rcases hv with rfl | rfl | rfl | rfl <;> rfl
 und := Tryz.underlying77
 info := by kernel_rfl
 zs := rfl
 btl := by decide
noncomputable def lnT : RT Ln where
 sz := 2
 ty := 39
 sl := 35
 bt := 24
 z := .agg #[.int .i64 0, .string ⟨#[]⟩]
 cf := lnC
 pos := by decide
 len := fun _ => rfl
 one := fun x v hv => by
  simp only [lnC, List.mem_cons, List.not_mem_nil, or_false] at hv
  rcases hv with rfl | rfl <;> rfl
 und := Tryz.underlying35
 info := by kernel_rfl
 zs := rfl
 btl := by decide
theorem tokRow {w : World} {b o : Nat} {l : List Tok} (h : tokT.Row w b o l) {j : Nat} {x : Tok} (hx : l[j]? = some x) :
  w.cell? ⟨b, o + j * 4, none⟩ = some (.string (bs x.key)) ∧ w.cell? ⟨b, o + j * 4 + 1, none⟩ = some (.string (bs x.name)) ∧ w.cell? ⟨b, o + j * 4 + 2, none⟩ = some (.string (bs x.op)) ∧ w.cell? ⟨b, o + j * 4 + 3, none⟩ = some (.string (bs x.val)) :=
 ⟨h j x hx 0 _ rfl, h j x hx 1 _ rfl, h j x hx 2 _ rfl, h j x hx 3 _ rfl⟩
theorem lnRow {w : World} {b o : Nat} {l : List Ln} (h : lnT.Row w b o l) {j : Nat} {x : Ln} (hx : l[j]? = some x) :
  w.cell? ⟨b, o + j * 2, none⟩ = some (.int .i64 (x.1 : Int)) ∧ w.cell? ⟨b, o + j * 2 + 1, none⟩ = some (.string (bs x.2)) :=
 ⟨h j x hx 0 _ rfl, h j x hx 1 _ rfl⟩
theorem TAt.range {w : World} {b : Nat} {x : Tok} (h : TAt w b x) : w.rangeAt b 0 (tokT.cf x) := fun m v hv => by
 rw [cell_of_row _ _ _ _ _ _ h, Nat.zero_add]
 simpa [tokT] using hv
end Go.Proofs.YtkkibibecgcbmaaGreatDoor.Lx
