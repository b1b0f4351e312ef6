/- The reference's way to the least common text, on lists: pairs of places with their texts. What the reference's pairs mean: soundness, closing, the next texts, the least text; the numbers that fall. The reference's Common: the numbers that fall, and how long its lists are. -/
import Derived.Test.YtdlchlbngojljaaDoorQRa
import Derived.Test.YtdlchlbngojljaaDoorQGl
namespace Go.Proofs.YtdlchlbngojljaaDoor.Gl
open Go.RowKit
/-- A pair of places in two alternatives, with a text that leads there. -/
structure Pr5 where
 a : Nat
 b : Nat
 i : Nat
 k : Nat
 t : List UInt8
def sameK (y z : Pr5) : Bool := decide (y.a = z.a) && (decide (y.b = z.b) && (decide (y.i = z.i) && decide (y.k = z.k)))
theorem sameK_iff {y z : Pr5} : sameK y z = true ↔ y.a = z.a ∧ y.b = z.b ∧ y.i = z.i ∧ y.k = z.k := by
 unfold sameK
 simp only [Bool.and_eq_true, decide_eq_true_eq]
theorem sameK_refl (y : Pr5) : sameK y y = true := sameK_iff.2 ⟨rfl, rfl, rfl, rfl⟩
theorem sameK_symm {y z : Pr5} (h : sameK y z = true) : sameK z y = true := by
 obtain ⟨h1, h2, h3, h4⟩ := sameK_iff.1 h
 exact sameK_iff.2 ⟨h1.symm, h2.symm, h3.symm, h4.symm⟩
theorem sameK_trans {y z u : Pr5} (h : sameK y z = true) (k : sameK z u = true) : sameK y u = true := by
 obtain ⟨h1, h2, h3, h4⟩ := sameK_iff.1 h
 obtain ⟨k1, k2, k3, k4⟩ := sameK_iff.1 k
 exact sameK_iff.2 ⟨h1.trans k1, h2.trans k2, h3.trans k3, h4.trans k4⟩
theorem sameK_comm (y z : Pr5) : sameK y z = sameK z y := by
 rw [Bool.eq_iff_iff]
 exact ⟨sameK_symm, sameK_symm⟩
def leT (s t : List UInt8) : Bool := !Op.bytesLess t s
theorem leT_iff {s t : List UInt8} (h : s.length = t.length) : leT s t = true ↔ lexLe s t := by
 unfold leT
 rw [lexLe_less s t h]
 simp
theorem lex_of_not {s t : List UInt8} (h : s.length = t.length) (hn : leT s t = false) : lexLe t s := by
 rcases lexLe_total t s with k | k
 ·exact k
 ·have := (leT_iff h).2 k
  rw [hn] at this
  cases this
/-- A list of pairs as the reference keeps it: texts of one length, no pair twice, in the order of texts. -/
structure LI (n : Nat) (l : List Pr5) : Prop where
 len : ∀ z ∈ l, z.t.length = n
 uniq : l.Pairwise fun y z => sameK y z = false
 srt : l.Pairwise fun y z => lexLe y.t z.t
theorem LI.nil (n : Nat) : LI n [] := ⟨fun _ h => (by cases h), .nil, .nil⟩
theorem uniq_eq {l : List Pr5} (h : l.Pairwise fun y z => sameK y z = false) {y z : Pr5} (hy : y ∈ l) (hz : z ∈ l) (hk : sameK y z = true) : y = z := by
 induction h with
 | nil => cases hy
 | cons hx _ ih =>
  rcases List.mem_cons.1 hy with rfl | hy'
  ·rcases List.mem_cons.1 hz with rfl | hz'
   ·rfl
   ·have := hx z hz'
    rw [hk] at this
    cases this
  ·rcases List.mem_cons.1 hz with rfl | hz'
   ·have := hx y hy'
    rw [sameK_symm hk] at this
    cases this
   ·exact ih hy' hz'
def insQ : List Pr5 → Pr5 → List Pr5
 | [], z => [z]
 | y :: l, z => if leT y.t z.t then y :: insQ l z else z :: y :: l
theorem insQ_perm : ∀ (l : List Pr5) (z : Pr5), (insQ l z).Perm (z :: l)
 | [], _ => .refl _
 | y :: l, z => by
  unfold insQ
  split
  ·exact ((insQ_perm l z).cons y).trans (List.Perm.swap z y l)
  ·exact .refl _
theorem mem_insQ {l : List Pr5} {z y : Pr5} : y ∈ insQ l z ↔ y = z ∨ y ∈ l := by
 rw [(insQ_perm l z).mem_iff, List.mem_cons]
theorem insQ_srt : ∀ {l : List Pr5} {z : Pr5} {n : Nat}, (∀ y ∈ l, y.t.length = n) → z.t.length = n → l.Pairwise (fun y z => lexLe y.t z.t) → (insQ l z).Pairwise fun y z => lexLe y.t z.t
 | [], z, _, _, _, _ => List.pairwise_singleton _ _
 | y :: l, z, n, hl, hz, hp => by
  rw [List.pairwise_cons] at hp
  unfold insQ
  have hyl := hl y List.mem_cons_self
  split
  ·rename_i h
   rw [List.pairwise_cons]
   refine ⟨fun u hu => ?_, insQ_srt (fun u hu => hl u (List.mem_cons_of_mem _ hu)) hz hp.2⟩
   rcases mem_insQ.1 hu with rfl | hu
   ·exact (leT_iff (by omega)).1 h
   ·exact hp.1 u hu
  ·rename_i h
   have hzy : lexLe z.t y.t := lex_of_not (s := y.t) (t := z.t) (by rw [hyl, hz]) (by simpa using h)
   rw [List.pairwise_cons, List.pairwise_cons]
   refine ⟨fun u hu => ?_, hp.1, hp.2⟩
   rcases List.mem_cons.1 hu with rfl | hu
   ·exact hzy
   ·exact lexLe_trans _ _ _ hzy (hp.1 u hu)
theorem LI.ins {n : Nat} {l : List Pr5} {z : Pr5} (h : LI n l) (hz : z.t.length = n) (hk : ∀ y ∈ l, sameK y z = false) : LI n (insQ l z) := by
 refine ⟨fun y hy => ?_, ?_, insQ_srt h.len hz h.srt⟩
 ·rcases mem_insQ.1 hy with rfl | hy
  ·exact hz
  ·exact h.len y hy
 ·rw [(insQ_perm l z).pairwise_iff (fun hxy => by rw [sameK_comm]; exact hxy), List.pairwise_cons]
  exact ⟨fun y hy => by rw [sameK_comm]; exact hk y hy, h.uniq⟩
def putP (l : List Pr5) (z : Pr5) : List Pr5 := match l.find? (sameK · z) with
 | none => insQ l z
 | some y => if leT y.t z.t then l else insQ (l.eraseP (sameK · z)) z
theorem erase_none {l : List Pr5} {z : Pr5} (h : l.Pairwise fun y z => sameK y z = false) : ∀ y ∈ l.eraseP (sameK · z), sameK y z = false := by
 induction h with
 | nil => intro y hy; cases hy
 | @cons x l hx _ ih =>
  intro y hy
  rw [List.eraseP_cons] at hy
  cases hxz : sameK x z with
  | true =>
   rw [hxz] at hy
   have hyl : y ∈ l := hy
   cases hyz : sameK y z with
   | false => rfl
   | true =>
    have := hx y hyl
    rw [sameK_trans hxz (sameK_symm hyz)] at this
    cases this
  | false =>
   rw [hxz] at hy
   rcases List.mem_cons.1 hy with rfl | hy
   ·exact hxz
   ·exact ih y hy
theorem LI.erase {n : Nat} {l : List Pr5} (h : LI n l) (z : Pr5) : LI n (l.eraseP (sameK · z)) :=
 ⟨fun y hy => h.len y (List.mem_of_mem_eraseP hy), h.uniq.sublist List.eraseP_sublist, h.srt.sublist List.eraseP_sublist⟩
theorem find_none {l : List Pr5} {z : Pr5} (h : l.find? (sameK · z) = none) : ∀ y ∈ l, sameK y z = false := fun y hy => by
 have := List.find?_eq_none.1 h y hy
 simpa using this
theorem LI.put {n : Nat} {l : List Pr5} {z : Pr5} (h : LI n l) (hz : z.t.length = n) : LI n (putP l z) := by
 unfold putP
 split
 ·rename_i hf
  exact h.ins hz (find_none hf)
 ·split
  ·exact h
  ·exact (h.erase z).ins hz (erase_none h.uniq)
theorem mem_put {l : List Pr5} {z y : Pr5} (h : y ∈ putP l z) : y = z ∨ y ∈ l := by
 unfold putP at h
 split at h
 ·exact mem_insQ.1 h
 ·split at h
  ·exact Or.inr h
  ·rcases mem_insQ.1 h with h | h
   ·exact Or.inl h
   ·exact Or.inr (List.mem_of_mem_eraseP h)
/-- The pair of x lies in the list, with a text that is no greater. -/
def Dom (l : List Pr5) (x : Pr5) : Prop := ∃ y ∈ l, sameK y x = true ∧ lexLe y.t x.t
theorem Dom.of_mem {l : List Pr5} {x : Pr5} (h : x ∈ l) : Dom l x := ⟨x, h, sameK_refl x, lexLe_refl _⟩
theorem dom_put_self {n : Nat} {l : List Pr5} {z : Pr5} (h : LI n l) (hz : z.t.length = n) : Dom (putP l z) z := by
 unfold putP
 split
 ·exact .of_mem (mem_insQ.2 (Or.inl rfl))
 ·rename_i y hf
  have hy := List.mem_of_find?_eq_some hf
  have hk : sameK y z = true := by simpa using List.find?_some hf
  split
  ·rename_i hle
   exact ⟨y, hy, hk, (leT_iff (by rw [h.len y hy, hz])).1 hle⟩
  ·exact .of_mem (mem_insQ.2 (Or.inl rfl))
theorem dom_put {n : Nat} {l : List Pr5} {z x : Pr5} (h : LI n l) (hz : z.t.length = n) (hx : Dom l x) : Dom (putP l z) x := by
 obtain ⟨y, hy, hk, hle⟩ := hx
 unfold putP
 split
 ·exact ⟨y, mem_insQ.2 (Or.inr hy), hk, hle⟩
 ·rename_i u hf
  have hu := List.mem_of_find?_eq_some hf
  have huk : sameK u z = true := by simpa using List.find?_some hf
  split
  ·exact ⟨y, hy, hk, hle⟩
  ·rename_i hn
   cases hyz : sameK y z with
   | true =>
    obtain rfl := uniq_eq h.uniq hy hu (sameK_trans hyz (sameK_symm huk))
    have hzy : lexLe z.t y.t := lex_of_not (s := y.t) (t := z.t) (by rw [h.len y hy, hz]) (by simpa using hn)
    exact ⟨z, mem_insQ.2 (Or.inl rfl), sameK_trans (sameK_symm hyz) hk, lexLe_trans _ _ _ hzy hle⟩
   | false =>
    refine ⟨y, mem_insQ.2 (Or.inr ?_), hk, hle⟩
    exact (List.mem_eraseP_of_neg (by simpa using hyz)).2 hy
def betterP (l : List Pr5) (w : Pr5) : Bool := match l.find? (sameK · w) with
 | none => true
 | some y => Op.bytesLess w.t y.t
theorem dom_of_not_better {n : Nat} {l : List Pr5} {w : Pr5} (h : LI n l) (hw : w.t.length = n) (hb : betterP l w = false) : Dom l w := by
 unfold betterP at hb
 split at hb
 ·cases hb
 ·rename_i y hf
  have hy := List.mem_of_find?_eq_some hf
  exact ⟨y, hy, by simpa using List.find?_some hf, (lexLe_less _ _ (by rw [h.len y hy, hw])).2 hb⟩
theorem put_mem_of_better {l : List Pr5} {w : Pr5} (hb : betterP l w = true) : w ∈ putP l w := by
 unfold betterP at hb
 unfold putP
 split
 ·exact mem_insQ.2 (Or.inl rfl)
 ·rename_i y hf
  rw [hf] at hb
  simp only at hb
  have : leT y.t w.t = false := by
   unfold leT
   rw [hb]
   rfl
  rw [if_neg (by rw [this]; simp)]
  exact mem_insQ.2 (Or.inl rfl)
def hasP (l : List Pr5) (z : Pr5) : Bool := l.any (sameK · z)
theorem hasP_iff {l : List Pr5} {z : Pr5} : hasP l z = true ↔ ∃ y ∈ l, sameK y z = true := by
 unfold hasP
 rw [List.any_eq_true]
end Go.Proofs.YtdlchlbngojljaaDoor.Gl
namespace Go.Proofs.YtdlchlbngojljaaDoor.Gl
open Go.RowKit
section
variable (x y : List (List El))
/-- The text leads from the beginnings to the places. -/
structure Snd (z : Pr5) : Prop where
 ex : ∃ la lb, x[z.a]? = some la ∧ y[z.b]? = some lb ∧ z.i ≤ la.length ∧ z.k ≤ lb.length ∧
  (∀ s, mB (la.drop z.i) s = true → mB la (z.t ++ s) = true) ∧ (∀ s, mB (lb.drop z.k) s = true → mB lb (z.t ++ s) = true)
def Com2 (s : List UInt8) : Prop := (x.any fun a => mB a s) = true ∧ (y.any fun b => mB b s) = true
theorem com_of {la lb : List El} {s : List UInt8} (ha : la ∈ x) (hb : lb ∈ y) (h1 : mB la s = true) (h2 : mB lb s = true) : Com2 x y s :=
 ⟨List.any_eq_true.2 ⟨la, ha, h1⟩, List.any_eq_true.2 ⟨lb, hb, h2⟩⟩
theorem snd_start {a b : Nat} {la lb : List El} (ha : x[a]? = some la) (hb : y[b]? = some lb) : Snd x y ⟨a, b, 0, 0, []⟩ :=
 ⟨la, lb, ha, hb, Nat.zero_le _, Nat.zero_le _, fun _ h => h, fun _ h => h⟩
theorem snd_skip_i {z : Pr5} {la : List El} (h : Snd x y z) (ha : x[z.a]? = some la) (hs : starAt la z.i = true) : Snd x y { z with i := z.i + 1 } := by
 obtain ⟨la', lb, ha', hb, hi, hk, h1, h2⟩ := h.ex
 rw [ha] at ha'
 obtain rfl := Option.some.inj ha'
 exact ⟨la, lb, ha, hb, starAt_lt hs, hk, fun s hm => h1 s (star_skip hs hm), h2⟩
theorem snd_skip_k {z : Pr5} {lb : List El} (h : Snd x y z) (hb : y[z.b]? = some lb) (hs : starAt lb z.k = true) : Snd x y { z with k := z.k + 1 } := by
 obtain ⟨la, lb', ha, hb', hi, hk, h1, h2⟩ := h.ex
 rw [hb] at hb'
 obtain rfl := Option.some.inj hb'
 exact ⟨la, lb, ha, hb, hi, starAt_lt hs, h1, fun s hm => h2 s (star_skip hs hm)⟩
/-- The place behind a place and a byte, as the reference's step answers. -/
def stepR (l : List El) (i : Nat) (c : UInt8) : Nat × Bool := match l[i]? with
 | none => (0, false)
 | some e => if e.star then (i, true) else (i + 1, e.set c)
theorem stepR_back {l : List El} {i j : Nat} {c : UInt8} {s : List UInt8} (hok : ∀ e ∈ l, e.ok) (hc : isText c = true) (h : stepR l i c = (j, true)) (hm : mB (l.drop j) s = true) : mB (l.drop i) (c :: s) = true ∧ j ≤ l.length := by
 unfold stepR at h
 split at h
 ·cases h
 ·rename_i e he
  have hil := (List.getElem?_eq_some_iff.1 he).1
  split at h
  ·rename_i hs
   obtain ⟨rfl, _⟩ := Prod.mk.inj h
   refine ⟨?_, by omega⟩
   rw [drop_at he] at hm ⊢
   exact (mB_star_cases hs).2 (Or.inr ⟨c, s, rfl, (hok e (List.mem_of_getElem? he)).2 hs c hc, hm⟩)
  ·rename_i hs
   obtain ⟨rfl, hset⟩ := Prod.mk.inj h
   refine ⟨?_, by omega⟩
   rw [drop_at he]
   exact (mB_one e _ _ (by simpa using hs)).2 ⟨c, s, rfl, hset, hm⟩
theorem snd_step {z : Pr5} {la lb : List El} {c : UInt8} {i k : Nat} (hx : ∀ l ∈ x, ∀ e ∈ l, e.ok) (hy : ∀ l ∈ y, ∀ e ∈ l, e.ok) (hc : isText c = true) (h : Snd x y z) (ha : x[z.a]? = some la) (hb : y[z.b]? = some lb)
  (h1 : stepR la z.i c = (i, true)) (h2 : stepR lb z.k c = (k, true)) : Snd x y ⟨z.a, z.b, i, k, z.t ++ [c]⟩ := by
 obtain ⟨la', lb', ha', hb', hi, hk, g1, g2⟩ := h.ex
 rw [ha] at ha'
 obtain rfl := Option.some.inj ha'
 rw [hb] at hb'
 obtain rfl := Option.some.inj hb'
 have oka := hx la (List.mem_of_getElem? ha)
 have okb := hy lb (List.mem_of_getElem? hb)
 have bnd : ∀ {l : List El} {i j : Nat}, stepR l i c = (j, true) → j ≤ l.length := fun {l i j} h => by
  unfold stepR at h
  split at h
  ·cases h
  ·rename_i e he
   have hil := (List.getElem?_eq_some_iff.1 he).1
   split at h
   ·obtain ⟨rfl, _⟩ := Prod.mk.inj h
    omega
   ·obtain ⟨rfl, _⟩ := Prod.mk.inj h
    omega
 refine ⟨la, lb, ha, hb, bnd h1, bnd h2, fun s hm => ?_, fun s hm => ?_⟩
 ·show mB la ((z.t ++ [c]) ++ s) = true
  rw [List.append_assoc]
  exact g1 _ (stepR_back oka hc h1 hm).1
 ·show mB lb ((z.t ++ [c]) ++ s) = true
  rw [List.append_assoc]
  exact g2 _ (stepR_back okb hc h2 hm).1
/-- A star may be left at any time. -/
def ClosedL (l : List Pr5) : Prop := ∀ z ∈ l, (∀ la, x[z.a]? = some la → starAt la z.i = true → Dom l { z with i := z.i + 1 }) ∧ (∀ lb, y[z.b]? = some lb → starAt lb z.k = true → Dom l { z with k := z.k + 1 })
/-- c is the least common text. -/
def LeastC (c : List UInt8) : Prop := Com2 x y c ∧ ∀ s, Com2 x y s → leB c s
theorem lex_pre : ∀ {p q r : List UInt8}, p.length = q.length → lexLe p q → lexLe (q ++ r) (p ++ r) → p = q
 | [], [], _, _, _, _ => rfl
 | [], _ :: _, _, h, _, _ => by simp at h
 | _ :: _, [], _, h, _, _ => by simp at h
 | a :: p, b :: q, r, h, h1, h2 => by
  rcases h1 with h1 | ⟨rfl, h1⟩
  ·rcases h2 with h2 | ⟨rfl, _⟩
   ·omega
   ·omega
  ·rcases h2 with h2 | ⟨_, h2⟩
   ·omega
   ·rw [lex_pre (by simpa using h) h1 h2]
/-- Some pair has the beginning of c as its text, and the rest of c is matched from its places. -/
def Front (c : List UInt8) (n : Nat) (l : List Pr5) (z : Pr5) : Prop := z ∈ l ∧ z.t = c.take n ∧ ∃ la lb, x[z.a]? = some la ∧ y[z.b]? = some lb ∧ mB (la.drop z.i) (c.drop n) = true ∧ mB (lb.drop z.k) (c.drop n) = true
theorem front_dom {c : List UInt8} {n : Nat} {l : List Pr5} {u : Pr5} (hc : LeastC x y c) (hn : n ≤ c.length) (hl : ∀ z ∈ l, z.t.length = n) (hs : ∀ z ∈ l, Snd x y z) (hd : Dom l u) (hu : u.t = c.take n)
  {la lb : List El} (ha : x[u.a]? = some la) (hb : y[u.b]? = some lb) (h1 : mB (la.drop u.i) (c.drop n) = true) (h2 : mB (lb.drop u.k) (c.drop n) = true) : ∃ z, Front x y c n l z ∧ sameK z u = true := by
 obtain ⟨z, hz, hk, hle⟩ := hd
 obtain ⟨k1, k2, k3, k4⟩ := sameK_iff.1 hk
 obtain ⟨la', lb', ha', hb', _, _, g1, g2⟩ := (hs z hz).ex
 rw [k1, ha] at ha'
 obtain rfl := Option.some.inj ha'
 rw [k2, hb] at hb'
 obtain rfl := Option.some.inj hb'
 rw [k3] at g1
 rw [k4] at g2
 have hcom := com_of x y (List.mem_of_getElem? ha) (List.mem_of_getElem? hb) (g1 _ h1) (g2 _ h2)
 have hlen : z.t.length = (c.take n).length := by rw [hl z hz, List.length_take]; omega
 have hlex : lexLe c (z.t ++ c.drop n) := by
  rcases hc.2 _ hcom with h | h
  ·rw [List.length_append, hlen, ← List.length_append, List.take_append_drop] at h
   omega
  ·exact h.2
 have he : z.t = c.take n := lex_pre (r := c.drop n) hlen (by rw [← hu]; exact hle) (by rw [List.take_append_drop]; exact hlex)
 exact ⟨z, ⟨hz, he, la, lb, by rw [k1]; exact ha, by rw [k2]; exact hb, by rw [k3]; exact h1, by rw [k4]; exact h2⟩, hk⟩
/-- What is left of a text at a place: it ends, or its next byte is taken here. -/
def Done (l : List El) (i : Nat) : List UInt8 → Prop
 | [] => i = l.length
 | ch :: rest => ∃ j, stepR l i ch = (j, true) ∧ mB (l.drop j) rest = true
theorem side {l : List El} {i : Nat} {s : List UInt8} (hi : i ≤ l.length) (h : mB (l.drop i) s = true) : Done l i s ∨ (starAt l i = true ∧ mB (l.drop (i + 1)) s = true) := by
 rcases Nat.lt_or_ge i l.length with hlt | hge
 ·have he : l[i]? = some l[i] := List.getElem?_eq_getElem hlt
  generalize l[i] = e at he
  have h' := h
  rw [drop_at he] at h'
  cases hs : e.star with
  | true =>
   rcases (mB_star_cases hs).1 h' with h1 | ⟨c, t, rfl, hset, h1⟩
   ·exact Or.inr ⟨starAt_iff.2 ⟨e, he, hs⟩, h1⟩
   ·refine Or.inl ⟨i, ?_, ?_⟩
    ·unfold stepR
     simp only [he, hs, if_true]
    ·rw [drop_at he]
     exact h1
  | false =>
   obtain ⟨c, t, rfl, hset, h1⟩ := (mB_one e _ _ hs).1 h'
   refine Or.inl ⟨i + 1, ?_, h1⟩
   unfold stepR
   simp only [he, hs, hset]
   simp
 ·obtain rfl : i = l.length := by omega
  rw [List.drop_length] at h
  cases s with
  | nil => exact Or.inl rfl
  | cons c t => simp [mB] at h
/-- From a front, leaving stars, to one from which the next byte is taken (or at which both alternatives end). -/
theorem front_go {c : List UInt8} {n : Nat} {l : List Pr5} (hc : LeastC x y c) (hn : n ≤ c.length) (hl : ∀ z ∈ l, z.t.length = n) (hs : ∀ z ∈ l, Snd x y z) (hcl : ClosedL x y l) : ∀ (d : Nat) (z : Pr5), Front x y c n l z →
  (∀ la lb, x[z.a]? = some la → y[z.b]? = some lb → (la.length - z.i) + (lb.length - z.k) < d) →
  ∃ u, Front x y c n l u ∧ ∃ la lb, x[u.a]? = some la ∧ y[u.b]? = some lb ∧ Done la u.i (c.drop n) ∧ Done lb u.k (c.drop n) := by
 intro d
 induction d with
 | zero =>
  intro z hz hd
  obtain ⟨_, _, la, lb, ha, hb, _, _⟩ := hz
  exact absurd (hd la lb ha hb) (Nat.not_lt_zero _)
 | succ d ih =>
  intro z hz hd
  obtain ⟨hzl, hzt, la, lb, ha, hb, h1, h2⟩ := id hz
  obtain ⟨la', lb', ha', hb', hi, hk, _, _⟩ := (hs z hzl).ex
  rw [ha] at ha'
  obtain rfl := Option.some.inj ha'
  rw [hb] at hb'
  obtain rfl := Option.some.inj hb'
  have hm := hd la lb ha hb
  rcases side hi h1 with g1 | ⟨s1, m1⟩
  ·rcases side hk h2 with g2 | ⟨s2, m2⟩
   ·exact ⟨z, hz, la, lb, ha, hb, g1, g2⟩
   ·have hdom := (hcl z hzl).2 lb hb s2
    obtain ⟨u, hu, huk⟩ := front_dom x y hc hn hl hs hdom hzt ha hb h1 m2
    obtain ⟨k1, k2, k3, k4⟩ := sameK_iff.1 huk
    refine ih u hu fun la2 lb2 ha2 hb2 => ?_
    rw [k1] at ha2
    rw [k2] at hb2
    have ha3 : x[z.a]? = some la2 := ha2
    have hb3 : y[z.b]? = some lb2 := hb2
    rw [ha] at ha3
    rw [hb] at hb3
    obtain rfl := Option.some.inj ha3
    obtain rfl := Option.some.inj hb3
    have e3 : u.i = z.i := k3
    have e4 : u.k = z.k + 1 := k4
    have := starAt_lt s2
    omega
  ·have hdom := (hcl z hzl).1 la ha s1
   obtain ⟨u, hu, huk⟩ := front_dom x y hc hn hl hs hdom hzt ha hb m1 h2
   obtain ⟨k1, k2, k3, k4⟩ := sameK_iff.1 huk
   refine ih u hu fun la2 lb2 ha2 hb2 => ?_
   rw [k1] at ha2
   rw [k2] at hb2
   have ha3 : x[z.a]? = some la2 := ha2
   have hb3 : y[z.b]? = some lb2 := hb2
   rw [ha] at ha3
   rw [hb] at hb3
   obtain rfl := Option.some.inj ha3
   obtain rfl := Option.some.inj hb3
   have e3 : u.i = z.i + 1 := k3
   have e4 : u.k = z.k := k4
   have := starAt_lt s1
   omega
/-- The pair at which both alternatives end. -/
def Final (z : Pr5) : Prop := ∃ la lb, x[z.a]? = some la ∧ y[z.b]? = some lb ∧ z.i = la.length ∧ z.k = lb.length
theorem final_com {z : Pr5} (h : Snd x y z) (hf : Final x y z) : Com2 x y z.t := by
 obtain ⟨la, lb, ha, hb, _, _, g1, g2⟩ := h.ex
 obtain ⟨la', lb', ha', hb', e1, e2⟩ := hf
 rw [ha] at ha'
 obtain rfl := Option.some.inj ha'
 rw [hb] at hb'
 obtain rfl := Option.some.inj hb'
 have h1 := g1 [] (by rw [e1, List.drop_length]; rfl)
 have h2 := g2 [] (by rw [e2, List.drop_length]; rfl)
 rw [List.append_nil] at h1 h2
 exact com_of x y (List.mem_of_getElem? ha) (List.mem_of_getElem? hb) h1 h2
/-- A list of one length: sound, and with a front of the least common text, if there is one that is no shorter. -/
structure Lev (n : Nat) (l : List Pr5) : Prop where
 li : LI n l
 snd : ∀ z ∈ l, Snd x y z
 fr : ∀ c, LeastC x y c → n ≤ c.length ∧ ∃ z, Front x y c n l z
theorem Lev.dom {n : Nat} {l m : List Pr5} (h : Lev x y n l) (hm : LI n m) (hs : ∀ z ∈ m, Snd x y z) (hd : ∀ z ∈ l, Dom m z) : Lev x y n m := by
 refine ⟨hm, hs, fun c hc => ?_⟩
 obtain ⟨hn, z, hz⟩ := h.fr c hc
 obtain ⟨hzl, hzt, la, lb, ha, hb, h1, h2⟩ := hz
 obtain ⟨u, hu, _⟩ := front_dom x y hc hn hm.len hs (hd z hzl) hzt ha hb h1 h2
 exact ⟨hn, u, hu⟩
/-- A closed list in which the first final pair is z: its text is the least common one. -/
theorem Lev.found {n : Nat} {l : List Pr5} (h : Lev x y n l) (hcl : ClosedL x y l) {j : Nat} {z : Pr5} (hj : l[j]? = some z) (hf : Final x y z) (hno : ∀ (m : Nat) u, m < j → l[m]? = some u → ¬ Final x y u) : Com2 x y z.t ∧ ∀ c, LeastC x y c → z.t = c := by
 have hz := List.mem_of_getElem? hj
 have hcom := final_com x y (h.snd z hz) hf
 refine ⟨hcom, fun c hc => ?_⟩
 obtain ⟨hn, f, hfr⟩ := h.fr c hc
 have hlz := h.li.len z hz
 have hle := hc.2 _ hcom
 have hNn : n = c.length := by
  rcases hle with hlt | ⟨he, _⟩
  ·omega
  ·omega
 obtain ⟨u, hu, la, lb, ha, hb, d1, d2⟩ := front_go x y hc hn h.li.len h.snd hcl ((x.getD f.a []).length + (y.getD f.b []).length + 1) f hfr fun la lb ha hb => by
  simp only [List.getD, ha, hb, Option.getD_some]
  omega
 rw [hNn, List.drop_length] at d1 d2
 have hfu : Final x y u := ⟨la, lb, ha, hb, d1, d2⟩
 obtain ⟨m, hm, hmu⟩ := List.getElem_of_mem hu.1
 have hmu' : l[m]? = some u := by rw [List.getElem?_eq_getElem hm, hmu]
 have hjm : j ≤ m := by
  rcases Nat.lt_or_ge m j with h' | h'
  ·exact absurd hfu (hno m u h' hmu')
  ·exact h'
 have hle2 : lexLe z.t u.t := by
  rcases Nat.lt_or_ge j m with h' | h'
  ·have hjl := (List.getElem?_eq_some_iff.1 hj)
   have := (List.pairwise_iff_getElem.1 h.li.srt) j m hjl.1 hm h'
   rw [hjl.2, hmu] at this
   exact this
  ·obtain rfl : j = m := by omega
   rw [hj] at hmu'
   obtain rfl := Option.some.inj hmu'
   exact lexLe_refl _
 have hut : u.t = c := by rw [hu.2.1, hNn, List.take_length]
 have h3 : lexLe c z.t := by
  rcases hle with hlt | ⟨_, hle⟩
  ·omega
  ·exact hle
 rw [hut] at hle2
 exact lex_pre (r := []) (by omega) hle2 (by rw [List.append_nil, List.append_nil]; exact h3)
/-- What follows a closed list without final pairs: all pairs by one byte, but for those that were seen. -/
theorem Lev.next {n : Nat} {l m seen : List Pr5} (_ : ∀ l ∈ x, ∀ e ∈ l, e.ok) (_ : ∀ l ∈ y, ∀ e ∈ l, e.ok) (h : Lev x y n l) (hcl : ClosedL x y l) (hno : ∀ z ∈ l, ¬ Final x y z)
  (htx : ∀ s, Com2 x y s → s.all isText = true)
  (hseen : ∀ z ∈ seen, Snd x y z ∧ z.t.length ≤ n) (hm : LI (n + 1) m) (hms : ∀ z ∈ m, Snd x y z)
  (hall : ∀ z ∈ l, ∀ la lb, x[z.a]? = some la → y[z.b]? = some lb → ∀ (c : UInt8) (i k : Nat), isText c = true → stepR la z.i c = (i, true) → stepR lb z.k c = (k, true) → hasP seen ⟨z.a, z.b, i, k, z.t ++ [c]⟩ = true ∨ Dom m ⟨z.a, z.b, i, k, z.t ++ [c]⟩) : Lev x y (n + 1) m := by
 refine ⟨hm, hms, fun c hc => ?_⟩
 obtain ⟨hn, f, hfr⟩ := h.fr c hc
 obtain ⟨u, hu, la, lb, ha, hb, d1, d2⟩ := front_go x y hc hn h.li.len h.snd hcl ((x.getD f.a []).length + (y.getD f.b []).length + 1) f hfr fun la lb ha hb => by
  simp only [List.getD, ha, hb, Option.getD_some]
  omega
 cases hd : c.drop n with
 | nil =>
  rw [hd] at d1 d2
  exact absurd ⟨la, lb, ha, hb, d1, d2⟩ (hno u hu.1)
 | cons ch rest =>
  rw [hd] at d1 d2
  obtain ⟨i, hi, m1⟩ := d1
  obtain ⟨k, hk, m2⟩ := d2
  have hlt : n < c.length := by
   rcases Nat.lt_or_ge n c.length with h' | h'
   ·exact h'
   ·rw [List.drop_of_length_le h'] at hd
    cases hd
  have hch : c[n]? = some ch := by
   have := congrArg List.head? hd
   rw [List.head?_drop] at this
   exact this
  have hrest : c.drop (n + 1) = rest := by
   have := congrArg List.tail hd
   rw [List.tail_drop] at this
   exact this
  have htc : isText ch = true := List.all_eq_true.1 (htx c hc.1) ch (List.mem_of_getElem? hch)
  have htake : c.take (n + 1) = c.take n ++ [ch] := by rw [List.take_add_one, hch]; rfl
  refine ⟨hlt, ?_⟩
  rcases hall u hu.1 la lb ha hb ch i k htc hi hk with hs | hdm
  ·exfalso
   obtain ⟨v, hv, hvk⟩ := hasP_iff.1 hs
   obtain ⟨k1, k2, k3, k4⟩ := sameK_iff.1 hvk
   obtain ⟨hsv, hvl⟩ := hseen v hv
   obtain ⟨la', lb', ha', hb', _, _, g1, g2⟩ := hsv.ex
   rw [k1] at ha'
   rw [k2] at hb'
   have ha3 : x[u.a]? = some la' := ha'
   have hb3 : y[u.b]? = some lb' := hb'
   rw [ha] at ha3
   rw [hb] at hb3
   obtain rfl := Option.some.inj ha3
   obtain rfl := Option.some.inj hb3
   have e3 : v.i = i := k3
   have e4 : v.k = k := k4
   rw [e3] at g1
   rw [e4] at g2
   have hcom := com_of x y (List.mem_of_getElem? ha) (List.mem_of_getElem? hb) (g1 _ m1) (g2 _ m2)
   have hlr : rest.length = c.length - (n + 1) := by rw [← hrest, List.length_drop]
   rcases hc.2 _ hcom with h' | ⟨h', _⟩
   ·rw [List.length_append] at h'
    omega
   ·rw [List.length_append] at h'
    omega
  ·obtain ⟨v, hv, _⟩ := front_dom x y hc hlt hm.len hms hdm (by rw [htake, ← hu.2.1]) ha hb (by rw [hrest]; exact m1) (by rw [hrest]; exact m2)
   exact ⟨v, hv⟩
end
end Go.Proofs.YtdlchlbngojljaaDoor.Gl
namespace Go.Proofs.YtdlchlbngojljaaDoor.Gl
open Go.RowKit
theorem countP_lt {α : Type} {p q : α → Bool} : ∀ {T : List α}, (∀ s ∈ T, p s = true → q s = true) → (∃ s ∈ T, q s = true ∧ p s = false) → T.countP p < T.countP q
 | [], _, h => by
  obtain ⟨_, h, _⟩ := h
  cases h
 | a :: T, h1, h2 => by
  have hle : ∀ {T : List α}, (∀ s ∈ T, p s = true → q s = true) → T.countP p ≤ T.countP q := fun h => List.countP_mono_left h
  have h1' : ∀ s ∈ T, p s = true → q s = true := fun s hs => h1 s (List.mem_cons_of_mem _ hs)
  obtain ⟨s, hs, hq, hp⟩ := h2
  rw [List.countP_cons, List.countP_cons]
  rcases List.mem_cons.1 hs with rfl | hs
  ·rw [hq, hp]
   have := hle h1'
   simp only [if_true, Bool.false_eq_true, if_false]
   omega
  ·have := countP_lt h1' ⟨s, hs, hq, hp⟩
   have h3 := h1 a List.mem_cons_self
   cases hpa : p a with
   | false => simp only [Bool.false_eq_true, if_false]; split <;> omega
   | true => rw [h3 hpa]; simp only [if_true]; omega
theorem sum_lt {α : Type} {f g : α → Nat} : ∀ {U : List α}, (∀ s ∈ U, f s ≤ g s) → (∃ s ∈ U, f s < g s) → (U.map f).sum < (U.map g).sum
 | [], _, h => by
  obtain ⟨_, h, _⟩ := h
  cases h
 | a :: U, h1, h2 => by
  have hle : ∀ {U : List α}, (∀ s ∈ U, f s ≤ g s) → (U.map f).sum ≤ (U.map g).sum := fun {U} h => by
   induction U with
   | nil => exact Nat.le_refl _
   | cons b U ih =>
    simp only [List.map_cons, List.sum_cons]
    have := h b List.mem_cons_self
    have := ih fun s hs => h s (List.mem_cons_of_mem _ hs)
    omega
  have h1' : ∀ s ∈ U, f s ≤ g s := fun s hs => h1 s (List.mem_cons_of_mem _ hs)
  obtain ⟨s, hs, hlt⟩ := h2
  simp only [List.map_cons, List.sum_cons]
  rcases List.mem_cons.1 hs with rfl | hs
  ·have := hle h1'
   omega
  ·have := sum_lt h1' ⟨s, hs, hlt⟩
   have := h1 a List.mem_cons_self
   omega
theorem find_iff {n : Nat} {l : List Pr5} (h : LI n l) {κ y : Pr5} : l.find? (sameK · κ) = some y ↔ y ∈ l ∧ sameK y κ = true := by
 constructor
 ·intro hf
  exact ⟨List.mem_of_find?_eq_some hf, by simpa using List.find?_some hf⟩
 ·rintro ⟨hy, hk⟩
  cases hf : l.find? (sameK · κ) with
  | none =>
   have := find_none hf y hy
   rw [hk] at this
   cases this
  | some u =>
   have hu := List.mem_of_find?_eq_some hf
   have huk : sameK u κ = true := by simpa using List.find?_some hf
   rw [uniq_eq h.uniq hu hy (sameK_trans huk (sameK_symm hk))]
def costP (T : List (List UInt8)) (l : List Pr5) (κ : Pr5) : Nat := match l.find? (sameK · κ) with
 | none => T.length + 1
 | some y => T.countP fun s => Op.bytesLess s y.t
def muP (T : List (List UInt8)) (U l : List Pr5) : Nat := (U.map (costP T l)).sum
theorem put_keeps {l : List Pr5} {w y : Pr5} (hy : y ∈ l) (hk : sameK y w = false) : y ∈ putP l w := by
 unfold putP
 split
 ·exact mem_insQ.2 (Or.inr hy)
 ·split
  ·exact hy
  ·exact mem_insQ.2 (Or.inr ((List.mem_eraseP_of_neg (by simpa using hk)).2 hy))
theorem less_strict {s t u : List UInt8} (h1 : s.length = t.length) (h2 : t.length = u.length) (a : Op.bytesLess s t = true) (b : Op.bytesLess t u = true) : Op.bytesLess s u = true := by
 cases hb : Op.bytesLess s u with
 | true => rfl
 | false =>
  have k1 := (lexLe_less u s (by omega)).2 hb
  have k2 : lexLe t u := by
   rcases lexLe_total t u with k | k
   ·exact k
   ·rw [(lexLe_less u t (by omega)).1 k] at b
    cases b
  have k3 := (lexLe_less t s (by omega)).1 (lexLe_trans _ _ _ k2 k1)
  rw [k3] at a
  cases a
theorem less_irrefl (s : List UInt8) : Op.bytesLess s s = false := (lexLe_less s s rfl).1 (lexLe_refl s)
theorem mu_put {n : Nat} {l U : List Pr5} {w : Pr5} {T : List (List UInt8)} (h : LI n l) (hw : w.t.length = n) (hT : ∀ s ∈ T, s.length = n) (hwT : w.t ∈ T) (hb : betterP l w = true) (hU : ∃ κ ∈ U, sameK κ w = true) : muP T U (putP l w) < muP T U l := by
 have hp := h.put hw
 have hwp := put_mem_of_better hb
 have hsame : ∀ κ, sameK κ w = true → costP T (putP l w) κ < costP T l κ := fun κ hκ => by
  unfold costP
  rw [(find_iff hp).2 ⟨hwp, sameK_symm hκ⟩]
  cases hf : l.find? (sameK · κ) with
  | none =>
   have : T.countP (fun s => Op.bytesLess s w.t) ≤ T.length := List.countP_le_length
   show T.countP (fun s => Op.bytesLess s w.t) < T.length + 1
   omega
  | some y =>
   obtain ⟨hy, hyk⟩ := (find_iff h).1 hf
   have hfw : l.find? (sameK · w) = some y := (find_iff h).2 ⟨hy, sameK_trans hyk hκ⟩
   unfold betterP at hb
   rw [hfw] at hb
   have hb' : Op.bytesLess w.t y.t = true := hb
   have hyl := h.len y hy
   show T.countP (fun s => Op.bytesLess s w.t) < T.countP (fun s => Op.bytesLess s y.t)
   exact countP_lt (fun s hs hsw => less_strict (by rw [hT s hs, hw]) (by rw [hw, hyl]) hsw hb') ⟨w.t, hwT, hb', less_irrefl _⟩
 refine sum_lt (fun κ _ => ?_) ?_
 ·cases hκ : sameK κ w with
  | true => exact Nat.le_of_lt (hsame κ hκ)
  | false =>
   have hne : ∀ y, sameK y κ = true → sameK y w = false := fun y hy => by
    cases hyw : sameK y w with
    | false => rfl
    | true =>
     rw [sameK_trans (sameK_symm hy) hyw] at hκ
     cases hκ
   unfold costP
   cases hf : l.find? (sameK · κ) with
   | none =>
    have hnew : (putP l w).find? (sameK · κ) = none := by
     rw [List.find?_eq_none]
     intro y hy hyk
     have hyk' : sameK y κ = true := by simpa using hyk
     rcases mem_put hy with rfl | hyl
     ·rw [sameK_symm hyk'] at hκ
      cases hκ
     ·have := find_none hf y hyl
      rw [hyk'] at this
      cases this
    rw [hnew]
    exact Nat.le_refl _
   | some y =>
    obtain ⟨hy, hyk⟩ := (find_iff h).1 hf
    rw [(find_iff hp).2 ⟨put_keeps hy (hne y hyk), hyk⟩]
    exact Nat.le_refl _
 ·obtain ⟨κ, hκU, hκ⟩ := hU
  exact ⟨κ, hκU, hsame κ hκ⟩
/-- All pairs of places in few short alternatives. -/
def allK (M : Nat) : List Pr5 := (List.range M).flatMap fun a => (List.range M).flatMap fun b => (List.range M).flatMap fun i => (List.range M).map fun k => ⟨a, b, i, k, []⟩
theorem allK_mem {M : Nat} {z : Pr5} (h1 : z.a < M) (h2 : z.b < M) (h3 : z.i < M) (h4 : z.k < M) : ∃ κ ∈ allK M, sameK κ z = true := by
 refine ⟨⟨z.a, z.b, z.i, z.k, []⟩, ?_, sameK_iff.2 ⟨rfl, rfl, rfl, rfl⟩⟩
 unfold allK
 simp only [List.mem_flatMap, List.mem_map, List.mem_range]
 exact ⟨z.a, h1, z.b, h2, z.i, h3, z.k, h4, rfl⟩
def nuP (U seen : List Pr5) : Nat := U.countP fun κ => !hasP seen κ
theorem hasP_congr {l : List Pr5} {z u : Pr5} (h : sameK z u = true) : hasP l z = hasP l u := by
 rw [Bool.eq_iff_iff, hasP_iff, hasP_iff]
 exact ⟨fun ⟨y, hy, hk⟩ => ⟨y, hy, sameK_trans hk h⟩, fun ⟨y, hy, hk⟩ => ⟨y, hy, sameK_trans hk (sameK_symm h)⟩⟩
theorem nu_less {U seen now : List Pr5} {z : Pr5} (hz : z ∈ now) (hn : hasP seen z = false) (hU : ∃ κ ∈ U, sameK κ z = true) : nuP U (seen ++ now) < nuP U seen := by
 obtain ⟨κ, hκ, hk⟩ := hU
 refine countP_lt (fun s _ h => ?_) ⟨κ, hκ, ?_, ?_⟩
 ·have : hasP (seen ++ now) s = (hasP seen s || hasP now s) := by unfold hasP; rw [List.any_append]
  rw [this] at h
  cases hs : hasP seen s with
  | false => rfl
  | true => rw [hs] at h; simp at h
 ·rw [hasP_congr hk, hn]
  rfl
 ·have : hasP (seen ++ now) κ = true := by
   rw [hasP_congr hk]
   exact hasP_iff.2 ⟨z, List.mem_append_right _ hz, sameK_refl z⟩
  rw [this]
  rfl
/-- A list without a pair twice is no longer than all pairs. -/
theorem uniq_length : ∀ {l U : List Pr5}, (l.Pairwise fun y z => sameK y z = false) → (∀ z ∈ l, ∃ κ ∈ U, sameK κ z = true) → l.length ≤ U.length
 | [], _, _, _ => Nat.zero_le _
 | z :: l, U, hp, hU => by
  rw [List.pairwise_cons] at hp
  obtain ⟨κ, hκ, hk⟩ := hU z List.mem_cons_self
  have hpos : 0 < U.length := List.length_pos_of_mem hκ
  have hlen : (U.eraseP (sameK · z)).length = U.length - 1 := List.length_eraseP_of_mem hκ (by simpa using hk)
  have := uniq_length hp.2 (U := U.eraseP (sameK · z)) fun u hu => by
   obtain ⟨ρ, hρ, hρu⟩ := hU u (List.mem_cons_of_mem _ hu)
   refine ⟨ρ, ?_, hρu⟩
   have hne : sameK ρ z = false := by
    cases h : sameK ρ z with
    | false => rfl
    | true =>
     have := hp.1 u hu
     rw [sameK_trans (sameK_symm h) hρu] at this
     cases this
   exact (List.mem_eraseP_of_neg (by simpa using hne)).2 hρ
  rw [List.length_cons]
  omega
theorem sum_const (c : Nat) : ∀ l : List Nat, (l.map fun _ => c).sum = l.length * c
 | [] => by simp
 | a :: l => by rw [List.map_cons, List.sum_cons, sum_const c l, List.length_cons, Nat.add_mul]; omega
theorem allK_length (M : Nat) : (allK M).length = M * (M * (M * M)) := by
 unfold allK
 simp only [List.length_flatMap, List.length_map, List.length_range, sum_const]
/-- What the reference returns: the least common text. -/
theorem common_result {x y : List (List El)} (hx : Good x) (hy : Good y) {t : List UInt8} (hc : Com2 x y t) (hl : ∀ c, LeastC x y c → t = c) (hn : t.length < never) : commonB x y = some t := by
 have h := commonB_spec hx hy
 cases hcb : commonB x y with
 | none =>
  rw [hcb] at h
  exact absurd hc.2 fun h2 => h t hn hc.1 h2
 | some c =>
  rw [hcb] at h
  have hle : LeastC x y c := ⟨⟨h.2.1, h.2.2.1⟩, fun s hs => h.2.2.2 s hs.1 hs.2⟩
  rw [hl c hle]
theorem common_nothing {x y : List (List El)} (hx : Good x) (hy : Good y) (hl : ∀ c, ¬ LeastC x y c) : commonB x y = none := by
 have h := commonB_spec hx hy
 cases hcb : commonB x y with
 | none => rfl
 | some c =>
  rw [hcb] at h
  exact absurd ⟨⟨h.2.1, h.2.2.1⟩, fun s hs => h.2.2.2 s hs.1 hs.2⟩ (hl c)
end Go.Proofs.YtdlchlbngojljaaDoor.Gl
