/- Modules found by aliases, as lists: what the program's index answers is what the reference answers. Modules, pairs and entries in memory; a configuration. -/
import Derived.Lib.SlicesCompact
import Derived.Test.YtdlchlbngojljaaDoorPGG
namespace Go.Proofs.YtdlchlbngojljaaDoor
abbrev Tx := List UInt8
/-- A module: its name, its patterns. -/
structure Md where
 name : Tx
 al : List Tx
/-- A configuration: the modules, the blocked names, the patterns besides. -/
structure Cf where
 mods : List Md
 bl : List Tx
 ex : List (Tx × Tx)
/-- Strictly ascending. -/
abbrev Asc (l : List Tx) : Prop := l.Pairwise (· < ·)
theorem asc_ext : ∀ {a b : List Tx}, Asc a → Asc b → (∀ x, x ∈ a ↔ x ∈ b) → a = b
 | [], [], _, _, _ => rfl
 | [], y :: b, _, _, h => by have := (h y).2 (by simp); simp at this
 | x :: a, [], _, _, h => by have := (h x).1 (by simp); simp at this
 | x :: a, y :: b, ha, hb, h => by
  rw [Asc, List.pairwise_cons] at ha hb
  have e : x = y := by
   have h1 := (h x).1 (by simp)
   have h2 := (h y).2 (by simp)
   rcases List.mem_cons.1 h1 with h1 | h1
   ·exact h1
   ·rcases List.mem_cons.1 h2 with h2 | h2
    ·exact h2.symm
    ·exact absurd (List.lt_trans (ha.1 _ h2) (hb.1 _ h1)) (List.lt_irrefl _)
  subst e
  congr 1
  refine asc_ext ha.2 hb.2 fun z => ⟨fun hz => ?_, fun hz => ?_⟩
  ·rcases List.mem_cons.1 ((h z).1 (List.mem_cons_of_mem _ hz)) with e | e
   ·subst e; exact absurd (ha.1 _ hz) (List.lt_irrefl _)
   ·exact e
  ·rcases List.mem_cons.1 ((h z).2 (List.mem_cons_of_mem _ hz)) with e | e
   ·subst e; exact absurd (hb.1 _ hz) (List.lt_irrefl _)
   ·exact e
/-- The reference's Put: a text goes into an ascending list, once. -/
def putS : List Tx → Tx → List Tx
 | [], s => [s]
 | x :: l, s => if x < s then x :: putS l s else if x = s then x :: l else s :: x :: l
theorem putS_mem : ∀ (l : List Tx) (s x : Tx), x ∈ putS l s ↔ x = s ∨ x ∈ l
 | [], s, x => by simp [putS]
 | y :: l, s, x => by
  unfold putS
  split
  ·rw [List.mem_cons, putS_mem l s x, List.mem_cons]
   constructor
   ·rintro (h | h | h) <;> simp [h]
   ·rintro (h | h | h) <;> simp [h]
  ·split
   ·rename_i h
    subst h
    simp
   ·simp
theorem putS_asc : ∀ (l : List Tx) (s : Tx), Asc l → Asc (putS l s)
 | [], s, _ => by simp [putS, Asc]
 | y :: l, s, h => by
  have h' := h
  rw [Asc, List.pairwise_cons] at h
  unfold putS
  split
  ·rename_i hy
   rw [Asc, List.pairwise_cons]
   refine ⟨fun z hz => ?_, putS_asc l s h.2⟩
   rcases (putS_mem l s z).1 hz with e | e
   ·rw [e]; exact hy
   ·exact h.1 z e
  ·split
   ·exact h'
   ·rename_i h1 h2
    have hs : s < y := by
     rcases List.le_total s y with e | e
     ·exact Std.lt_of_le_of_ne e fun e => h2 e.symm
     ·exact absurd (Std.lt_of_le_of_ne e h2) h1
    rw [Asc, List.pairwise_cons]
    refine ⟨fun z hz => ?_, h'⟩
    rcases List.mem_cons.1 hz with e | e
    ·rw [e]; exact hs
    ·exact List.lt_trans hs (h.1 z e)
variable (hit : Tx → Tx → Bool)
/-- A module's patterns match an alias. -/
def matM (m : Md) (s : Tx) : Bool := m.al.any fun p => hit p s
/-- A module is found. -/
def fndM (C : Cf) (m : Md) (s : Tx) : Bool := !s.isEmpty && ((matM hit m s && !C.bl.contains m.name) || C.ex.any fun e => e.2 == m.name && hit e.1 s)
/-- The reference's answer. -/
def findR (C : Cf) (s : Tx) : List Tx := C.mods.foldl (fun o m => if fndM hit C m s then putS o m.name else o) []
theorem findR_gen (C : Cf) (s : Tx) : ∀ (l : List Md) (o : List Tx), Asc o → Asc (l.foldl (fun o m => if fndM hit C m s then putS o m.name else o) o) ∧ ∀ x, x ∈ l.foldl (fun o m => if fndM hit C m s then putS o m.name else o) o ↔ x ∈ o ∨ ∃ m ∈ l, fndM hit C m s = true ∧ m.name = x
 | [], o, h => ⟨h, fun x => by simp⟩
 | m :: l, o, h => by
  rw [List.foldl_cons]
  by_cases hf : fndM hit C m s = true
  ·rw [if_pos hf]
   have ih := findR_gen C s l (putS o m.name) (putS_asc _ _ h)
   refine ⟨ih.1, fun x => (ih.2 x).trans ?_⟩
   rw [putS_mem]
   constructor
   ·rintro ((e | e) | ⟨k, hk, e⟩)
    ·exact .inr ⟨m, by simp, hf, e.symm⟩
    ·exact .inl e
    ·exact .inr ⟨k, by simp [hk], e⟩
   ·rintro (e | ⟨k, hk, h1, h2⟩)
    ·exact .inl (.inr e)
    ·rcases List.mem_cons.1 hk with e | e
     ·subst e; exact .inl (.inl h2.symm)
     ·exact .inr ⟨k, e, h1, h2⟩
  ·rw [if_neg hf]
   have ih := findR_gen C s l o h
   refine ⟨ih.1, fun x => (ih.2 x).trans ?_⟩
   constructor
   ·rintro (e | ⟨k, hk, e⟩)
    ·exact .inl e
    ·exact .inr ⟨k, by simp [hk], e⟩
   ·rintro (e | ⟨k, hk, h1, h2⟩)
    ·exact .inl e
    ·rcases List.mem_cons.1 hk with e | e
     ·subst e; exact absurd h1 hf
     ·exact .inr ⟨k, e, h1, h2⟩
theorem findR_asc (C : Cf) (s : Tx) : Asc (findR hit C s) := (findR_gen hit C s C.mods [] .nil).1
theorem findR_mem (C : Cf) (s x : Tx) : x ∈ findR hit C s ↔ ∃ m ∈ C.mods, fndM hit C m s = true ∧ m.name = x := by
 have := (findR_gen hit C s C.mods [] .nil).2 x
 unfold findR
 simpa using this
theorem compact_snoc (l : List Tx) (x : Tx) : Lib.compact (l ++ [x]) = Lib.compact l ++ (if l.getLast? = some x then [] else [x]) := by
 have hup : ∀ m, m ≤ l.length → Lib.compactUpTo (l ++ [x]).toArray m = Lib.compactUpTo l.toArray m := by
  intro m hm
  unfold Lib.compactUpTo
  have e : ∀ j, j < l.length → (l ++ [x]).toArray[j]! = l.toArray[j]! := by
   intro j hj
   rw [getElem!_pos _ _ (by simp; omega), getElem!_pos _ _ (by simpa using hj)]
   simp [List.getElem_append_left hj]
  have e2 : ∀ j, j < l.length → Lib.keeps (l ++ [x]).toArray j = Lib.keeps l.toArray j := by
   intro j hj
   unfold Lib.keeps
   rw [e j hj, e (j - 1) (by omega)]
  rw [List.filter_congr fun j hj => e2 j (by have := List.mem_range.1 hj; omega)]
  refine List.map_congr_left fun j hj => e j ?_
  have := List.mem_range.1 (List.mem_filter.1 hj).1
  omega
 unfold Lib.compact
 rw [List.length_append, List.length_singleton, Lib.compactUpTo_succ, hup _ (Nat.le_refl _)]
 congr 1
 have hx : (l ++ [x]).toArray[l.length]! = x := by
  rw [getElem!_pos _ _ (by simp)]
  simp
 rw [hx]
 rcases List.eq_nil_or_concat l with e | ⟨k, y, e⟩
 ·subst e; simp [Lib.keeps]
 ·rw [List.concat_eq_append] at e
  subst e
  have hy : (k ++ [y] ++ [x]).toArray[(k ++ [y]).length - 1]! = y := by
   rw [getElem!_pos _ _ (by simp)]
   simp
  unfold Lib.keeps
  rw [hx, hy]
  by_cases hxy : x = y
  ·subst hxy; simp
  ·have : ¬ y = x := fun e => hxy e.symm
   simp [hxy, this]
/-- What compact makes of an ascending list: the same elements, each once. -/
theorem compact_gen : ∀ (r : List Tx), r.reverse.Pairwise (· ≤ ·) → Asc (Lib.compact r.reverse) ∧ (∀ x, x ∈ Lib.compact r.reverse ↔ x ∈ r.reverse) ∧ (Lib.compact r.reverse).getLast? = r.reverse.getLast?
 | [], _ => by
  refine ⟨?_, ?_, ?_⟩ <;> simp [Lib.compact, Lib.compactUpTo, Asc]
 | x :: r, h => by
  rw [List.reverse_cons] at h ⊢
  rw [List.pairwise_append] at h
  obtain ⟨h1, _, h2⟩ := h
  obtain ⟨g1, g2, g3⟩ := compact_gen r h1
  rw [compact_snoc]
  by_cases hl : r.reverse.getLast? = some x
  ·rw [if_pos hl, List.append_nil]
   refine ⟨g1, fun z => ?_, ?_⟩
   ·rw [g2, List.mem_append, List.mem_singleton]
    constructor
    ·exact .inl
    ·rintro (e | e)
     ·exact e
     ·rw [e]
      exact List.mem_of_getLast? hl
   ·rw [g3, hl]; simp
  ·rw [if_neg hl]
   refine ⟨?_, fun z => ?_, by simp⟩
   ·rw [Asc, List.pairwise_append]
    refine ⟨g1, by simp, fun a ha b hb => ?_⟩
    rw [List.mem_singleton] at hb
    subst hb
    have ha' := (g2 a).1 ha
    refine Std.lt_of_le_of_ne (h2 a ha' b (by simp)) fun e => ?_
    subst e
    -- the last one is at least a, and at most a
    rcases List.eq_nil_or_concat r.reverse with e | ⟨k, y, e⟩
    ·rw [e] at ha'; simp at ha'
    ·rw [List.concat_eq_append] at e
     rw [e] at ha' hl h1 h2
     rw [List.pairwise_append] at h1
     refine hl ?_
     rw [List.getLast?_concat]
     congr 1
     rcases List.mem_append.1 ha' with q | q
     ·have q1 := h1.2.2 a q y (by simp)
      have q2 := h2 y (by simp) a (by simp)
      exact Std.le_antisymm q2 q1
     ·exact (List.mem_singleton.1 q).symm
   ·rw [List.mem_append, List.mem_append, g2]
theorem compact_asc {l : List Tx} (h : l.Pairwise (· ≤ ·)) : Asc (Lib.compact l) ∧ ∀ x, x ∈ Lib.compact l ↔ x ∈ l := by
 have := compact_gen l.reverse (by rw [List.reverse_reverse]; exact h)
 rw [List.reverse_reverse] at this
 exact ⟨this.1, this.2.1⟩
theorem sort_asc (l : List Tx) : (l.mergeSort fun x y => decide (x ≤ y)).Pairwise (· ≤ ·) := by
 have := List.pairwise_mergeSort (le := fun x y : Tx => decide (x ≤ y)) (fun a b c h1 h2 => by
  rw [decide_eq_true_eq] at *
  exact Std.le_trans h1 h2) (fun a b => by
  rcases List.le_total a b with h | h <;> simp [h]) l
 exact this.imp fun h => by simpa using h
theorem sc_asc (l : List Tx) : Asc (Lib.compact (l.mergeSort fun x y => decide (x ≤ y))) := (compact_asc (sort_asc l)).1
theorem sc_mem (l : List Tx) (x : Tx) : x ∈ Lib.compact (l.mergeSort fun x y => decide (x ≤ y)) ↔ x ∈ l := by
 rw [(compact_asc (sort_asc l)).2, (List.mergeSort_perm l _).mem_iff]
variable (pre : Tx → Option Tx)
/-- What one pattern puts into the index. -/
def entP (p n : Tx) : List (Tx × Tx × Tx) := match pre p with
 | some b => [(b, p, n)]
 | none => []
/-- What a module puts into the index; what an element of Extra does. -/
def entM (bl : List Tx) (m : Md) : List (Tx × Tx × Tx) := if bl.contains m.name then [] else m.al.flatMap fun p => entP pre p m.name
def entX (ms : List Md) (e : Tx × Tx) : List (Tx × Tx × Tx) := if (ms.map (·.name)).contains e.2 then entP pre e.1 e.2 else []
/-- The index's entries in the order in which they came. -/
def ents (C : Cf) : List (Tx × Tx × Tx) := C.mods.flatMap (entM pre C.bl) ++ C.ex.flatMap (entX pre C.mods)
/-- The entries at a beginning. -/
def atK (E : List (Tx × Tx × Tx)) (k : Tx) : List (Tx × Tx) := (E.filter (·.1 == k)).map (·.2)
/-- The names that are found before they are sorted. -/
def namK (E : List (Tx × Tx × Tx)) (s k : Tx) : List Tx := ((atK E k).filter fun e => hit e.1 s).map (·.2)
def namN (E : List (Tx × Tx × Tx)) (s : Tx) (n : Nat) : List Tx := (List.range n).flatMap fun i => namK hit E s (s.take i)
/-- The program's answer. -/
def findP (E : List (Tx × Tx × Tx)) (s : Tx) : List Tx := if s.isEmpty then [] else Lib.compact ((namN hit E s (min s.length 256 + 1)).mergeSort fun x y => decide (x ≤ y))
theorem ents_mem (C : Cf) (b p n : Tx) : (b, p, n) ∈ ents pre C ↔ pre p = some b ∧ ((∃ m ∈ C.mods, C.bl.contains m.name = false ∧ p ∈ m.al ∧ n = m.name) ∨ ((p, n) ∈ C.ex ∧ ∃ m ∈ C.mods, m.name = n)) := by
 have hent : ∀ (q k : Tx), (b, p, n) ∈ entP pre q k ↔ pre q = some b ∧ p = q ∧ n = k := by
  intro q k
  unfold entP
  cases hq : pre q with
  | none => simp
  | some c =>
   simp only [List.mem_singleton, Prod.mk.injEq, Option.some.injEq]
   constructor
   ·rintro ⟨h1, h2, h3⟩; exact ⟨h1.symm, h2, h3⟩
   ·rintro ⟨h1, h2, h3⟩; exact ⟨h1.symm, h2, h3⟩
 unfold ents
 rw [List.mem_append, List.mem_flatMap, List.mem_flatMap]
 constructor
 ·rintro (⟨m, hm, h⟩ | ⟨e, he, h⟩)
  ·unfold entM at h
   split at h
   ·simp at h
   ·rename_i hb
    obtain ⟨q, hq, h⟩ := List.mem_flatMap.1 h
    obtain ⟨h1, h2, h3⟩ := (hent q m.name).1 h
    subst h2
    exact ⟨h1, .inl ⟨m, hm, by simpa using hb, hq, h3⟩⟩
  ·unfold entX at h
   split at h
   ·rename_i hk
    obtain ⟨h1, h2, h3⟩ := (hent e.1 e.2).1 h
    refine ⟨h2 ▸ h1, .inr ⟨?_, ?_⟩⟩
    ·rw [h2, h3]; exact he
    ·have := List.contains_iff_mem.1 hk
     obtain ⟨m, hm, hn⟩ := List.mem_map.1 this
     exact ⟨m, hm, hn.trans h3.symm⟩
   ·simp at h
 ·rintro ⟨h1, ⟨m, hm, hb, hp, hn⟩ | ⟨he, m, hm, hn⟩⟩
  ·refine .inl ⟨m, hm, ?_⟩
   unfold entM
   rw [if_neg (by rw [hb]; simp)]
   exact List.mem_flatMap.2 ⟨p, hp, (hent p m.name).2 ⟨h1, rfl, hn⟩⟩
  ·refine .inr ⟨(p, n), he, ?_⟩
   unfold entX
   rw [if_pos (List.contains_iff_mem.2 (List.mem_map.2 ⟨m, hm, hn⟩))]
   exact (hent p n).2 ⟨h1, rfl, rfl⟩
/-- The index finds what the reference finds. -/
theorem find_eq (hpre : ∀ p s, hit p s = true → ∃ b, pre p = some b ∧ b <+: s ∧ b.length ≤ 256) (C : Cf) (s : Tx) : findP hit (ents pre C) s = findR hit C s := by
 by_cases hs : s.isEmpty = true
 ·have h1 : findP hit (ents pre C) s = [] := by unfold findP; rw [if_pos hs]
  rw [h1]
  refine asc_ext .nil (findR_asc hit C s) fun x => ?_
  rw [findR_mem]
  constructor
  ·intro h; simp at h
  ·rintro ⟨m, _, h, _⟩
   unfold fndM at h
   rw [hs] at h
   simp at h
 ·have h1 : findP hit (ents pre C) s = Lib.compact ((namN hit (ents pre C) s (min s.length 256 + 1)).mergeSort fun x y => decide (x ≤ y)) := by unfold findP; rw [if_neg hs]
  rw [h1]
  refine asc_ext (sc_asc _) (findR_asc hit C s) fun x => ?_
  rw [sc_mem, findR_mem]
  have hs' : s.isEmpty = false := by simpa using hs
  have hm : x ∈ namN hit (ents pre C) s (min s.length 256 + 1) ↔ ∃ p, ∃ b, (b, p, x) ∈ ents pre C ∧ hit p s = true := by
   unfold namN
   rw [List.mem_flatMap]
   constructor
   ·rintro ⟨i, _, h⟩
    obtain ⟨e, he, rfl⟩ := List.mem_map.1 h
    obtain ⟨he, hh⟩ := List.mem_filter.1 he
    obtain ⟨t, ht, rfl⟩ := List.mem_map.1 he
    exact ⟨t.2.1, t.1, (List.mem_filter.1 ht).1, hh⟩
   ·rintro ⟨p, b, hb, hh⟩
    obtain ⟨c, hc, hcp, hcl⟩ := hpre p s hh
    have hcb : pre p = some b := ((ents_mem pre C b p x).1 hb).1
    have hcc : c = b := by rw [hc] at hcb; exact Option.some.inj hcb
    rw [← hcc] at hb
    have hle := hcp.length_le
    refine ⟨c.length, List.mem_range.2 (by omega), ?_⟩
    have ht : s.take c.length = c := (List.prefix_iff_eq_take.1 hcp).symm
    refine List.mem_map.2 ⟨(p, x), List.mem_filter.2 ⟨List.mem_map.2 ⟨(c, p, x), List.mem_filter.2 ⟨hb, ?_⟩, rfl⟩, hh⟩, rfl⟩
    rw [ht]
    simp
  rw [hm]
  constructor
  ·rintro ⟨p, b, hb, hh⟩
   obtain ⟨_, ⟨m, hmm, hbl, hp, hn⟩ | ⟨he, m, hmm, hn⟩⟩ := (ents_mem pre C b p x).1 hb
   ·refine ⟨m, hmm, ?_, hn.symm⟩
    unfold fndM matM
    rw [hs', hbl, List.any_eq_true.2 ⟨p, hp, hh⟩]
    rfl
   ·refine ⟨m, hmm, ?_, hn⟩
    unfold fndM
    rw [hs', List.any_eq_true.2 ⟨(p, x), he, by rw [hh, hn]; simp⟩]
    simp
  ·rintro ⟨m, hmm, hf, hn⟩
   unfold fndM matM at hf
   rw [hs'] at hf
   rw [Bool.not_false, Bool.true_and, Bool.or_eq_true, Bool.and_eq_true] at hf
   rcases hf with ⟨h2, h3⟩ | h2
   ·obtain ⟨p, hp, hh⟩ := List.any_eq_true.1 h2
    obtain ⟨b, hb, _⟩ := hpre p s hh
    refine ⟨p, b, (ents_mem pre C b p x).2 ⟨hb, .inl ⟨m, hmm, ?_, hp, hn.symm⟩⟩, hh⟩
    simpa using h3
   ·obtain ⟨e, he, hh⟩ := List.any_eq_true.1 h2
    rw [Bool.and_eq_true] at hh
    obtain ⟨b, hb, _⟩ := hpre e.1 s hh.2
    have hn2 : e.2 = x := (by simpa using hh.1 : e.2 = m.name).trans hn
    refine ⟨e.1, b, (ents_mem pre C b e.1 x).2 ⟨hb, .inr ⟨?_, m, hmm, hn⟩⟩, hh.2⟩
    rw [← hn2]
    exact he
/-- The least of the common texts of two lists of patterns. -/
def updS (le : Tx → Tx → Bool) (st : Option Tx) (c : Option Tx) : Option Tx := match c with
 | none => st
 | some t => match st with
  | none => some t
  | some l => if le t l then some t else some l
def shrRow (le : Tx → Tx → Bool) (com : Tx → Tx → Option Tx) (ys : List Tx) (st : Option Tx) (p : Tx) : Option Tx := ys.foldl (fun st q => updS le st (com p q)) st
def shrL (le : Tx → Tx → Bool) (com : Tx → Tx → Option Tx) (xs ys : List Tx) : Option Tx := xs.foldl (shrRow le com ys) none
/-- The first module of a name. -/
def modN (ms : List Md) (n : Tx) : Option Md := ms.find? fun m => m.name == n
def aliN (ms : List Md) (n : Tx) : List Tx := ((modN ms n).map (·.al)).getD []
theorem updS_spec (le : Tx → Tx → Bool) (S : Tx → Prop) (st c : Option Tx) (h : ∀ t, st = some t → S t) (hc : ∀ t, c = some t → S t) : (∀ t, updS le st c = some t → S t) ∧ ((st.isSome ∨ c.isSome) → (updS le st c).isSome) := by
 unfold updS
 cases c with
 | none => exact ⟨h, by simp⟩
 | some t =>
  cases st with
  | none => exact ⟨hc, by simp⟩
  | some l =>
   refine ⟨fun u hu => ?_, fun _ => ?_⟩
   ·simp only at hu
    split at hu
    ·exact hc u hu
    ·exact h u hu
   ·simp only
    split <;> rfl
theorem shrRow_spec (le : Tx → Tx → Bool) (com : Tx → Tx → Option Tx) (S : Tx → Prop) (p : Tx) : ∀ (ys : List Tx) (st : Option Tx), (∀ t, st = some t → S t) → (∀ q ∈ ys, ∀ t, com p q = some t → S t) →
  (∀ t, shrRow le com ys st p = some t → S t) ∧ ((st.isSome ∨ ∃ q ∈ ys, (com p q).isSome) → (shrRow le com ys st p).isSome)
 | [], st, h, _ => ⟨h, fun h => by rcases h with h | ⟨q, hq, _⟩; exact h; simp at hq⟩
 | q :: ys, st, h, hc => by
  obtain ⟨u1, u2⟩ := updS_spec le S st (com p q) h (hc q (by simp))
  have ih := shrRow_spec le com S p ys (updS le st (com p q)) u1 fun q hq => hc q (by simp [hq])
  refine ⟨ih.1, fun h => ih.2 ?_⟩
  rcases h with h | ⟨z, hz, h⟩
  ·exact .inl (u2 (.inl h))
  ·rcases List.mem_cons.1 hz with e | e
   ·subst e; exact .inl (u2 (.inr h))
   ·exact .inr ⟨z, e, h⟩
theorem shrL_gen (le : Tx → Tx → Bool) (com : Tx → Tx → Option Tx) (S : Tx → Prop) (ys : List Tx) : ∀ (xs : List Tx) (st : Option Tx), (∀ t, st = some t → S t) → (∀ p ∈ xs, ∀ q ∈ ys, ∀ t, com p q = some t → S t) →
  (∀ t, xs.foldl (shrRow le com ys) st = some t → S t) ∧ ((st.isSome ∨ ∃ p ∈ xs, ∃ q ∈ ys, (com p q).isSome) → (xs.foldl (shrRow le com ys) st).isSome)
 | [], st, h, _ => ⟨h, fun h => by rcases h with h | ⟨q, hq, _⟩; exact h; simp at hq⟩
 | p :: xs, st, h, hc => by
  obtain ⟨u1, u2⟩ := shrRow_spec le com S p ys st h (hc p (by simp))
  have ih := shrL_gen le com S ys xs (shrRow le com ys st p) u1 fun p hp => hc p (by simp [hp])
  refine ⟨ih.1, fun h => ih.2 ?_⟩
  rcases h with h | ⟨z, hz, h⟩
  ·exact .inl (u2 (.inl h))
  ·rcases List.mem_cons.1 hz with e | e
   ·subst e; exact .inl (u2 (.inr h))
   ·exact .inr ⟨z, e, h⟩
/-- Without Extra and Blocked: two modules that are found by one alias share a text, and by a text that is shared both are found. -/
theorem meets (le : Tx → Tx → Bool) (com : Tx → Tx → Option Tx) (hc1 : ∀ p q s, hit p s = true → hit q s = true → (com p q).isSome = true) (hc2 : ∀ p q t, com p q = some t → hit p t = true ∧ hit q t = true)
  (ms : List Md) (hn : (ms.map (·.name)).Nodup) (s x y : Tx) (hx : x ∈ findR hit ⟨ms, [], []⟩ s) (hy : y ∈ findR hit ⟨ms, [], []⟩ s) :
  ∃ t, shrL le com (aliN ms x) (aliN ms y) = some t ∧ (t.isEmpty = false → x ∈ findR hit ⟨ms, [], []⟩ t ∧ y ∈ findR hit ⟨ms, [], []⟩ t) := by
 have one : ∀ z, z ∈ findR hit ⟨ms, [], []⟩ s → ∃ m ∈ ms, m.name = z ∧ aliN ms z = m.al ∧ ∃ p ∈ m.al, hit p s = true := by
  intro z hz
  obtain ⟨m, hm, hf, hname⟩ := (findR_mem hit ⟨ms, [], []⟩ s z).1 hz
  refine ⟨m, hm, hname, ?_, ?_⟩
  ·have : ms.find? (fun k => k.name == z) = some m := by
    clear hx hy hz hf
    induction ms with
    | nil => simp at hm
    | cons k r ih =>
     rw [List.map_cons, List.nodup_cons] at hn
     rw [List.find?_cons]
     rcases List.mem_cons.1 hm with e | e
     ·subst e
      rw [hname]
      simp
     ·have : ¬ (k.name = z) := fun e' => hn.1 (List.mem_map.2 ⟨m, e, hname.trans e'.symm⟩)
      have hb : (k.name == z) = false := by simpa using this
      rw [hb]
      exact ih hn.2 e
   unfold aliN modN
   rw [this]
   rfl
  ·unfold fndM matM at hf
   rw [Bool.and_eq_true, Bool.or_eq_true] at hf
   rcases hf.2 with h | h
   ·rw [Bool.and_eq_true] at h
    obtain ⟨p, hp, hh⟩ := List.any_eq_true.1 h.1
    exact ⟨p, hp, hh⟩
   ·simp at h
 obtain ⟨mx, hmx, hnx, hax, px, hpx, hhx⟩ := one x hx
 obtain ⟨my, hmy, hny, hay, py, hpy, hhy⟩ := one y hy
 obtain ⟨g1, g2⟩ := shrL_gen le com (fun t => (∃ p ∈ aliN ms x, hit p t = true) ∧ ∃ q ∈ aliN ms y, hit q t = true) (aliN ms y) (aliN ms x) none (by simp) (fun p hp q hq t ht => ⟨⟨p, hp, (hc2 p q t ht).1⟩, ⟨q, hq, (hc2 p q t ht).2⟩⟩)
 have hs := g2 (.inr ⟨px, by rw [hax]; exact hpx, py, by rw [hay]; exact hpy, hc1 px py s hhx hhy⟩)
 obtain ⟨t, ht⟩ := Option.isSome_iff_exists.1 hs
 obtain ⟨⟨p, hp, hpt⟩, q, hq, hqt⟩ := g1 t ht
 refine ⟨t, ht, fun hte => ⟨?_, ?_⟩⟩
 ·refine (findR_mem hit _ t x).2 ⟨mx, hmx, ?_, hnx⟩
  unfold fndM matM
  rw [hte, List.any_eq_true.2 ⟨p, by rw [← hax]; exact hp, hpt⟩]
  rfl
 ·refine (findR_mem hit _ t y).2 ⟨my, hmy, ?_, hny⟩
  unfold fndM matM
  rw [hte, List.any_eq_true.2 ⟨q, by rw [← hay]; exact hq, hqt⟩]
  rfl
theorem asc_nodup {l : List Tx} (h : Asc l) : l.Nodup := h.imp fun hab e => by rw [e] at hab; exact List.lt_irrefl _ hab
/-- Blocking a module takes away this one, where no Extra pattern finds it. -/
theorem blocks (C : Cf) (s n : Tx) (x : Tx) (hx : x ∈ findR hit C s) : (findR hit ⟨C.mods, C.bl ++ [n], C.ex⟩ s).contains x = (!(x == n) || C.ex.any fun e => e.2 == n && hit e.1 s) := by
 obtain ⟨m, hm, hf, hn⟩ := (findR_mem hit C s x).1 hx
 unfold fndM at hf
 rw [Bool.and_eq_true, Bool.or_eq_true] at hf
 have hset : ∀ k : Md, k.name = x → ((C.bl ++ [n]).contains k.name) = (C.bl.contains k.name || x == n) := by
  intro k hk
  rw [hk]
  by_cases e : x = n
  ·subst e; simp
  ·simp [e]
 rw [Bool.eq_iff_iff, List.contains_iff_mem, findR_mem]
 constructor
 ·rintro ⟨k, hk, hf2, hkn⟩
  unfold fndM at hf2
  rw [Bool.and_eq_true, Bool.or_eq_true] at hf2
  rcases hf2.2 with h | h
  ·rw [Bool.and_eq_true, hset k hkn] at h
   have : (x == n) = false := by
    cases hxn : x == n with
    | false => rfl
    | true => rw [hxn] at h; simp at h
   rw [this]; rfl
  ·by_cases e : x = n
   ·rw [hkn, e] at h
    simp only at h
    rw [h]; simp
   ·simp [e]
 ·intro h
  rw [Bool.or_eq_true] at h
  refine ⟨m, hm, ?_, hn⟩
  unfold fndM
  simp only
  rw [hf.1, Bool.true_and, hset m hn]
  rcases h with h | h
  ·have hxn : (x == n) = false := by simpa using h
   rw [hxn, Bool.or_false, Bool.or_eq_true]
   exact hf.2
  ·by_cases e : x = n
   ·rw [hn, e, h]; simp
   ·have hxn : (x == n) = false := by simpa using e
    rw [hxn, Bool.or_false, Bool.or_eq_true]
    exact hf.2
theorem sub_len : ∀ {a b : List Tx}, a.Nodup → (∀ x ∈ a, x ∈ b) → a.length ≤ b.length
 | [], _, _, _ => by simp
 | x :: a, b, hd, h => by
  rw [List.nodup_cons] at hd
  have hx := h x (by simp)
  have := sub_len (a := a) (b := b.erase x) hd.2 fun z hz => by
   have hne : z ≠ x := fun e => hd.1 (e ▸ hz)
   exact (List.mem_erase_of_ne hne).2 (h z (by simp [hz]))
  rw [List.length_erase_of_mem hx] at this
  have hp : 0 < b.length := List.length_pos_of_mem hx
  rw [List.length_cons]
  omega
theorem blocks_len (C : Cf) (s n : Tx) : (findR hit ⟨C.mods, C.bl ++ [n], C.ex⟩ s).length ≤ (findR hit C s).length := by
 refine sub_len (asc_nodup (findR_asc hit _ s)) fun x hx => ?_
 obtain ⟨m, hm, hf, hn⟩ := (findR_mem hit _ s x).1 hx
 refine (findR_mem hit C s x).2 ⟨m, hm, ?_, hn⟩
 unfold fndM at hf ⊢
 rw [Bool.and_eq_true, Bool.or_eq_true] at hf ⊢
 refine ⟨hf.1, ?_⟩
 rcases hf.2 with h | h
 ·rw [Bool.and_eq_true] at h
  refine .inl ?_
  rw [Bool.and_eq_true]
  refine ⟨h.1, ?_⟩
  have h2 := h.2
  simp only [Bool.not_eq_true', List.contains_eq_mem, decide_eq_false_iff_not, List.mem_append, not_or] at h2 ⊢
  exact h2.1
 ·exact .inr h
/-- An Extra pattern that matches adds its module alone. -/
theorem more_mem (C : Cf) (s n star : Tx) (hst : hit star s = true) : (findR hit ⟨C.mods, C.bl, C.ex ++ [(star, n)]⟩ s).contains n = ((modN C.mods n).isSome && !s.isEmpty) := by
 rw [Bool.eq_iff_iff, List.contains_iff_mem, findR_mem, Bool.and_eq_true]
 unfold modN
 rw [List.find?_isSome]
 constructor
 ·rintro ⟨m, hm, hf, hn⟩
  unfold fndM at hf
  rw [Bool.and_eq_true] at hf
  exact ⟨⟨m, hm, by simpa using hn⟩, hf.1⟩
 ·rintro ⟨⟨m, hm, hn⟩, hs⟩
  have hn' : m.name = n := by simpa using hn
  refine ⟨m, hm, ?_, hn'⟩
  unfold fndM
  rw [hs, List.any_eq_true.2 ⟨(star, n), by simp, by rw [hst, hn']; simp⟩]
  simp
theorem more_len (C : Cf) (s n star : Tx) : (findR hit ⟨C.mods, C.bl, C.ex ++ [(star, n)]⟩ s).length ≤ (findR hit C s).length + 1 := by
 refine Nat.le_trans (sub_len (b := n :: findR hit C s) (asc_nodup (findR_asc hit _ s)) fun x hx => ?_) (by simp)
 obtain ⟨m, hm, hf, hn⟩ := (findR_mem hit _ s x).1 hx
 by_cases e : x = n
 ·rw [e]; simp
 ·refine List.mem_cons_of_mem _ ((findR_mem hit C s x).2 ⟨m, hm, ?_, hn⟩)
  unfold fndM at hf ⊢
  rw [Bool.and_eq_true, Bool.or_eq_true] at hf ⊢
  refine ⟨hf.1, ?_⟩
  rcases hf.2 with h | h
  ·exact .inl h
  ·refine .inr ?_
   simp only at h
   rw [List.any_append, Bool.or_eq_true] at h
   rcases h with h | h
   ·exact h
   ·exfalso
    simp only [List.any_cons, List.any_nil, Bool.or_false, Bool.and_eq_true, beq_iff_eq] at h
    exact e (hn.symm.trans h.1.symm)
end Go.Proofs.YtdlchlbngojljaaDoor
namespace Go.Proofs.YtdlchlbngojljaaDoor
open Go.RowKit
/-- A slice as a value. -/
structure Sl where
 a : Option Addr
 n : Nat
 c : Nat
def Sl.v (s : Sl) : Value := .slice s.a s.n s.c
/-- A module's cells. -/
structure Me where
 nm : Tx
 al : Sl
 nd : Sl
 pr : Sl
 po : Sl
 fl : Bool
def meC (m : Me) : Array Value := #[.string (bs m.nm), m.al.v, m.nd.v, m.pr.v, m.po.v, .bool m.fl]
abbrev Mx := Me × Md
set_option maxRecDepth 100000 in
noncomputable def mdT : RT Mx where
 sz := 6
 ty := 51
 sl := 27
 bt := 120
 z := .agg #[.string ⟨#[]⟩, .slice none 0 0, .slice none 0 0, .slice none 0 0, .slice none 0 0, .bool false]
 cf := fun x => (meC x.1).toList
 pos := by decide
 len := fun _ => rfl
 one := fun x v hv => by
  simp only [meC, List.mem_cons, List.not_mem_nil, or_false] at hv
  rcases hv with rfl | rfl | rfl | rfl | rfl | rfl <;> rfl
 und := Tryd.underlying27
 info := by kernel_rfl
 zs := rfl
 btl := by decide
def twC (x : Tx × Tx) : Array Value := #[.string (bs x.1), .string (bs x.2)]
set_option maxRecDepth 100000 in
noncomputable def enT : RT (Tx × Tx) where
 sz := 2
 ty := 65
 sl := 63
 bt := 32
 z := .agg #[.string ⟨#[]⟩, .string ⟨#[]⟩]
 cf := fun x => (twC x).toList
 pos := by decide
 len := fun _ => rfl
 one := fun x v hv => by
  simp only [twC, List.mem_cons, List.not_mem_nil, or_false] at hv
  rcases hv with rfl | rfl <;> rfl
 und := Tryd.underlying63
 info := by kernel_rfl
 zs := rfl
 btl := by decide
set_option maxRecDepth 100000 in
noncomputable def atT : RT (Tx × Tx) where
 sz := 2
 ty := 48
 sl := 29
 bt := 32
 z := .agg #[.string ⟨#[]⟩, .string ⟨#[]⟩]
 cf := fun x => (twC x).toList
 pos := by decide
 len := fun _ => rfl
 one := fun x v hv => by
  simp only [twC, List.mem_cons, List.not_mem_nil, or_false] at hv
  rcases hv with rfl | rfl <;> rfl
 und := Tryd.underlying29
 info := by kernel_rfl
 zs := rfl
 btl := by decide
/-- The slice v holds these elements, in a block from B on. -/
def RT.HasB {α : Type} (r : RT α) (B : Nat) (w : World) (v : Value) (l : List α) : Prop := r.Has w v l ∧ ∀ b, v.ownBlock = some b → B ≤ b
section
variable {α : Type} {r : RT α} {B : Nat} {w w' : World} {v : Value} {l : List α}
theorem RT.HasB.kp (h : r.HasB B w v l) {s : List Nat} (hk : Kp s w w') (hs : ∀ x ∈ s, x < B) : r.HasB B w' v l := ⟨h.1.kp hk fun b hb hm => by have := h.2 b hb; have := hs b hm; omega, h.2⟩
theorem RT.Own.hasB {C : Nat} (h : r.Own w C v l) (hB : B ≤ C) : r.HasB B w v l := ⟨h.has, fun b hb => Nat.le_trans hB (h.ge b hb).1⟩
theorem RT.HasB.low (h : r.HasB B w v l) {C : Nat} (hC : C ≤ B) : r.HasB C w v l := ⟨h.1, fun b hb => Nat.le_trans hC (h.2 b hb)⟩
end
/-- A module in memory: its name, its patterns' row. -/
def MxOk (B : Nat) (w : World) (x : Mx) : Prop := x.1.nm = x.2.name ∧ stT.HasB B w x.1.al.v x.2.al
/-- Modules in memory. -/
structure Ms (B : Nat) (w : World) (v : Value) (l : List Mx) : Prop where
 has : mdT.HasB B w v l
 ok : ∀ x ∈ l, MxOk B w x
theorem Ms.kp {B : Nat} {w w' : World} {v : Value} {l : List Mx} {s : List Nat} (h : Ms B w v l) (hk : Kp s w w') (hs : ∀ x ∈ s, x < B) : Ms B w' v l := ⟨h.has.kp hk hs, fun x hx => ⟨(h.ok x hx).1, (h.ok x hx).2.kp hk hs⟩⟩
/-- A configuration in memory. -/
structure CAt (B : Nat) (w : World) (mv bv xv : Value) (l : List Mx) (C : Cf) : Prop where
 ms : Ms B w mv l
 eq : C.mods = l.map (·.2)
 bl : stT.HasB B w bv C.bl
 ex : atT.HasB B w xv C.ex
theorem CAt.kp {B : Nat} {w w' : World} {mv bv xv : Value} {l : List Mx} {C : Cf} {s : List Nat} (h : CAt B w mv bv xv l C) (hk : Kp s w w') (hs : ∀ x ∈ s, x < B) : CAt B w' mv bv xv l C := ⟨h.ms.kp hk hs, h.eq, h.bl.kp hk hs, h.ex.kp hk hs⟩
/-- A configuration's bounds. -/
structure CSm (C : Cf) : Prop where
 ms : C.mods.length ≤ 1000
 al : ∀ m ∈ C.mods, m.al.length ≤ 100
 nm : ∀ m ∈ C.mods, m.name.length ≤ 1000
 pt : ∀ m ∈ C.mods, ∀ p ∈ m.al, p.length ≤ 16
 bl : C.bl.length ≤ 1000
 bt : ∀ s ∈ C.bl, s.length ≤ 1000
 ex : C.ex.length ≤ 1000
 xt : ∀ e ∈ C.ex, e.1.length ≤ 1000 ∧ e.2.length ≤ 1000
/-- A slice of rows: its form. -/
theorem RT.HasB.form {α : Type} {r : RT α} {B : Nat} {w : World} {v : Value} {l : List α} (h : r.HasB B w v l) : ∃ a c, v = .slice a l.length c ∧ (l ≠ [] → ∃ b o, a = some ⟨b, o, none⟩ ∧ b < w.heap.size ∧ B ≤ b ∧ r.Row w b o l) := by
 obtain ⟨a, c, rfl, hr⟩ := h.1.form
 refine ⟨a, c, rfl, fun hl => ?_⟩
 obtain ⟨b, o, rfl, hb, hrow⟩ := hr hl
 exact ⟨b, o, rfl, hb, h.2 b rfl, hrow⟩
theorem toL (s : List UInt8) : (bs s).toList = s := by rw [Lib.toList_data, bs_data]
theorem bs_eq (a b : List UInt8) : ((bs a).toList == (bs b).toList) = (a == b) := by rw [toL, toL]
end Go.Proofs.YtdlchlbngojljaaDoor
