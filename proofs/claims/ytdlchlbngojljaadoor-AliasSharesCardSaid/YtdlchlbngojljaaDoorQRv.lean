/- The reference's put, every way. Closing a list of pairs, on lists: what stays true, and the number that falls; the bounds of short patterns. -/
import Derived.Test.YtdlchlbngojljaaDoorQGlRU
namespace Go.Proofs.YtdlchlbngojljaaDoor.Gl
open Go.RowKit
theorem refPut_any (l : List Pr5) (z : Pr5) (v : Value) (M : Nat) (w : World) (hl : l.length ≤ 1000000000) (hLI : LI M l) (hz : z.t.length = M) (hv : PHas w v l) : Calls Tryd.prog 53 #[v, prV z] w (PutPost l z v w) := by
 rcases hv with ⟨rfl, rfl⟩ | ⟨g, c, rfl, hc, hg, hr⟩
 ·exact put_nil z w
 ·cases hf : l.find? (sameK · z) with
  | none => exact put_new l z g c M w hl hLI hz hc hg hr hf
  | some y =>
   cases hle : leT y.t z.t with
   | true => exact put_keep l z g c M w hl hLI hz hc hg hr y hf hle
   | false => exact put_over l z g c M w hl hLI hz hc hg hr y hf hle
end Go.Proofs.YtdlchlbngojljaaDoor.Gl
namespace Go.Proofs.YtdlchlbngojljaaDoor.Gl
open Go.RowKit
/-- The alternatives of a short pattern: few, and short. -/
structure Small (M : Nat) (x : List (List El)) : Prop where
 len : x.length < M
 el : ∀ l ∈ x, l.length < M
theorem altsP_small {p : List UInt8} {L : List (List El)} {M : Nat} (h : altsP p = some L) (hp : p.length + 1 < M) : Small M L := by
 obtain ⟨_, ht, T, hT, rfl⟩ := altsP_parts h
 obtain ⟨_, g2⟩ := toks_good _ p T (Nat.le_refl _) ht hT
 obtain ⟨s1, s2⟩ := altsOf_size T
 exact ⟨by omega, fun a ha => by have := s2 a ha; omega⟩
theorem snd_mem {x y : List (List El)} {M : Nat} (hx : Small M x) (hy : Small M y) {z : Pr5} (h : Snd x y z) : ∃ κ ∈ allK M, sameK κ z = true := by
 obtain ⟨la, lb, ha, hb, hi, hk, _, _⟩ := h.ex
 have h1 := (List.getElem?_eq_some_iff.1 ha).1
 have h2 := (List.getElem?_eq_some_iff.1 hb).1
 have h3 := hx.el la (List.mem_of_getElem? ha)
 have h4 := hy.el lb (List.mem_of_getElem? hb)
 have h5 := hx.len
 have h6 := hy.len
 exact allK_mem (by omega) (by omega) (by omega) (by omega)
theorem snd_length {x y : List (List El)} {M n : Nat} (hx : Small M x) (hy : Small M y) {l : List Pr5} (h : LI n l) (hs : ∀ z ∈ l, Snd x y z) : l.length ≤ (allK M).length :=
 uniq_length h.uniq fun z hz => snd_mem hx hy (hs z hz)
theorem allK18 : (allK 18).length = 104976 := by rw [allK_length]
/-- What closing has made of a list so far. -/
structure CL (x y : List (List El)) (n : Nat) (T : List (List UInt8)) (d o : List Pr5) : Prop where
 li : LI n o
 snd : ∀ z ∈ o, Snd x y z
 dom : ∀ z ∈ d, Dom o z
 txt : ∀ z ∈ o, z.t ∈ T
theorem CL.nil (x y : List (List El)) (n : Nat) (T : List (List UInt8)) : CL x y n T [] [] := ⟨.nil n, fun _ h => (by cases h), fun _ h => (by cases h), fun _ h => (by cases h)⟩
theorem CL.put {x y : List (List El)} {n : Nat} {T : List (List UInt8)} {d o : List Pr5} {w : Pr5} (h : CL x y n T d o) (hw : w.t.length = n) (hs : Snd x y w) (ht : w.t ∈ T) : CL x y n T d (putP o w) := by
 refine ⟨h.li.put hw, fun z hz => ?_, fun z hz => dom_put h.li hw (h.dom z hz), fun z hz => ?_⟩
 ·rcases mem_put hz with rfl | hz
  ·exact hs
  ·exact h.snd z hz
 ·rcases mem_put hz with rfl | hz
  ·exact ht
  ·exact h.txt z hz
theorem CL.more {x y : List (List El)} {n : Nat} {T : List (List UInt8)} {l o : List Pr5} {i : Nat} {w : Pr5} (h : CL x y n T (l.take i) o) (hi : l[i]? = some w) (hw : w.t.length = n) (hs : Snd x y w) (ht : w.t ∈ T) : CL x y n T (l.take (i + 1)) (putP o w) := by
 have h2 := h.put hw hs ht
 refine ⟨h2.li, h2.snd, fun z hz => ?_, h2.txt⟩
 rw [List.take_add_one, hi] at hz
 rcases List.mem_append.1 hz with hz | hz
 ·exact h2.dom z hz
 ·simp only [Option.toList, List.mem_singleton] at hz
  subst hz
  exact dom_put_self h.li hw
/-- The stars at this pair are left in the list, too. -/
def ClosedAt (x y : List (List El)) (o : List Pr5) (z : Pr5) : Prop := (∀ la, x[z.a]? = some la → starAt la z.i = true → Dom o { z with i := z.i + 1 }) ∧ (∀ lb, y[z.b]? = some lb → starAt lb z.k = true → Dom o { z with k := z.k + 1 })
theorem closed_step {x y : List (List El)} {o : List Pr5} {i : Nat} {z : Pr5} (h : ∀ (j : Nat) u, j < i → o[j]? = some u → ClosedAt x y o u) (hz : o[i]? = some z) (hc : ClosedAt x y o z) : ∀ (j : Nat) u, j < i + 1 → o[j]? = some u → ClosedAt x y o u := fun j u hj hu => by
 rcases Nat.lt_or_ge j i with h' | h'
 ·exact h j u h' hu
 ·obtain rfl : j = i := by omega
  rw [hz] at hu
  obtain rfl := Option.some.inj hu
  exact hc
theorem closed_all {x y : List (List El)} {o : List Pr5} (h : ∀ (j : Nat) u, j < o.length → o[j]? = some u → ClosedAt x y o u) : ClosedL x y o := fun z hz => by
 obtain ⟨j, hj, he⟩ := List.getElem_of_mem hz
 exact h j z hj (by rw [List.getElem?_eq_getElem hj, he])
/-- The number that falls while a list is closed. -/
def clM (M : Nat) (T : List (List UInt8)) (o : List Pr5) (i : Nat) : Nat := muP T (allK M) o * ((allK M).length + 1) + ((allK M).length - i)
theorem clM_step {M : Nat} {T : List (List UInt8)} {o : List Pr5} {i : Nat} (h : i < (allK M).length) : clM M T o (i + 1) < clM M T o i := by
 unfold clM
 omega
theorem clM_put {x y : List (List El)} {M n : Nat} {T : List (List UInt8)} {d o : List Pr5} {w : Pr5} (hx : Small M x) (hy : Small M y) (h : CL x y n T d o) (hT : ∀ s ∈ T, s.length = n) (hs : Snd x y w) (ht : w.t ∈ T) (hb : betterP o w = true) (i : Nat) (hi : i < (allK M).length) : clM M T (putP o w) 0 < clM M T o i := by
 have hmu := mu_put (U := allK M) h.li (hT _ ht) hT ht hb (snd_mem hx hy hs)
 unfold clM
 have h1 : (muP T (allK M) (putP o w) + 1) * ((allK M).length + 1) ≤ muP T (allK M) o * ((allK M).length + 1) := Nat.mul_le_mul_right _ hmu
 rw [Nat.add_mul, Nat.one_mul] at h1
 omega
/-- A list of pairs and what closing makes of it. -/
structure Closing (x y : List (List El)) (n : Nat) (l m : List Pr5) : Prop where
 li : LI n m
 snd : ∀ z ∈ m, Snd x y z
 dom : ∀ z ∈ l, Dom m z
 cl : ClosedL x y m
/-- The pairs of the next length so far: those of the rows ahead of j, and of row j those by bytes ahead of c. -/
structure NX (x y : List (List El)) (n : Nat) (l seen : List Pr5) (j c : Nat) (m : List Pr5) : Prop where
 li : LI (n + 1) m
 snd : ∀ z ∈ m, Snd x y z
 new : ∀ z ∈ m, hasP seen z = false
 all : ∀ (j' : Nat) z, l[j']? = some z → ∀ la lb, x[z.a]? = some la → y[z.b]? = some lb → ∀ (ch : UInt8) (i k : Nat), isText ch = true → stepR la z.i ch = (i, true) → stepR lb z.k ch = (k, true) → (j' < j ∨ (j' = j ∧ ch.toNat < c)) →
  hasP seen ⟨z.a, z.b, i, k, z.t ++ [ch]⟩ = true ∨ Dom m ⟨z.a, z.b, i, k, z.t ++ [ch]⟩
theorem text_ge {ch : UInt8} (h : isText ch = true) : 32 ≤ ch.toNat ∧ ch.toNat ≤ 126 := by
 unfold isText at h
 simp only [Bool.and_eq_true, decide_eq_true_eq] at h
 exact h
theorem NX.start (x y : List (List El)) (n : Nat) (l seen : List Pr5) : NX x y n l seen 0 32 [] :=
 ⟨.nil _, fun _ h => (by cases h), fun _ h => (by cases h), fun j' z _ la lb _ _ ch i k hc _ _ h => by
  have := (text_ge hc).1
  omega⟩
theorem NX.row {x y : List (List El)} {n : Nat} {l seen m : List Pr5} {j : Nat} (h : NX x y n l seen j 127 m) : NX x y n l seen (j + 1) 32 m :=
 ⟨h.li, h.snd, h.new, fun j' z hz la lb ha hb ch i k hc h1 h2 hj => h.all j' z hz la lb ha hb ch i k hc h1 h2 (by
  have := text_ge hc
  omega)⟩
theorem NX.skip {x y : List (List El)} {n : Nat} {l seen m : List Pr5} {j c : Nat} {z : Pr5} {la lb : List El} (h : NX x y n l seen j c m) (hz : l[j]? = some z) (ha : x[z.a]? = some la) (hb : y[z.b]? = some lb)
  (hno : ∀ (ch : UInt8) (i k : Nat), ch.toNat = c → stepR la z.i ch = (i, true) → stepR lb z.k ch = (k, true) → hasP seen ⟨z.a, z.b, i, k, z.t ++ [ch]⟩ = true) : NX x y n l seen j (c + 1) m :=
 ⟨h.li, h.snd, h.new, fun j' z' hz' la' lb' ha' hb' ch i k hc h1 h2 hj => by
  by_cases hcase : j' = j ∧ ch.toNat = c
  ·obtain ⟨rfl, hch⟩ := hcase
   rw [hz] at hz'
   obtain rfl := Option.some.inj hz'
   rw [ha] at ha'
   obtain rfl := Option.some.inj ha'
   rw [hb] at hb'
   obtain rfl := Option.some.inj hb'
   exact Or.inl (hno ch i k hch h1 h2)
  ·exact h.all j' z' hz' la' lb' ha' hb' ch i k hc h1 h2 (by omega)⟩
theorem NX.take {x y : List (List El)} {n : Nat} {l seen m : List Pr5} {j c : Nat} {z : Pr5} {la lb : List El} {ch : UInt8} {i k : Nat} (hx : ∀ l ∈ x, ∀ e ∈ l, e.ok) (hy : ∀ l ∈ y, ∀ e ∈ l, e.ok) (h : NX x y n l seen j c m) (hl : LI n l) (hs : ∀ z ∈ l, Snd x y z) (hz : l[j]? = some z) (ha : x[z.a]? = some la) (hb : y[z.b]? = some lb)
  (hch : ch.toNat = c) (hc : isText ch = true) (h1 : stepR la z.i ch = (i, true)) (h2 : stepR lb z.k ch = (k, true)) (hno : hasP seen ⟨z.a, z.b, i, k, z.t ++ [ch]⟩ = false) : NX x y n l seen j (c + 1) (putP m ⟨z.a, z.b, i, k, z.t ++ [ch]⟩) := by
 have hzm := List.mem_of_getElem? hz
 have hlen : (z.t ++ [ch]).length = n + 1 := by rw [List.length_append, hl.len z hzm]; rfl
 refine ⟨h.li.put hlen, fun u hu => ?_, fun u hu => ?_, fun j' z' hz' la' lb' ha' hb' ch' i' k' hc' h1' h2' hj => ?_⟩
 ·rcases mem_put hu with rfl | hu
  ·exact snd_step x y hx hy hc (hs z hzm) ha hb h1 h2
  ·exact h.snd u hu
 ·rcases mem_put hu with rfl | hu
  ·exact hno
  ·exact h.new u hu
 ·by_cases hcase : j' = j ∧ ch'.toNat = c
  ·obtain ⟨rfl, hch'⟩ := hcase
   rw [hz] at hz'
   obtain rfl := Option.some.inj hz'
   rw [ha] at ha'
   obtain rfl := Option.some.inj ha'
   rw [hb] at hb'
   obtain rfl := Option.some.inj hb'
   obtain rfl : ch' = ch := UInt8.toNat_inj.1 (by rw [hch, hch'])
   rw [h1] at h1'
   obtain ⟨rfl, _⟩ := Prod.mk.inj h1'
   rw [h2] at h2'
   obtain ⟨rfl, _⟩ := Prod.mk.inj h2'
   exact Or.inr (dom_put_self h.li hlen)
  ·rcases h.all j' z' hz' la' lb' ha' hb' ch' i' k' hc' h1' h2' (by omega) with h' | h'
   ·exact Or.inl h'
   ·exact Or.inr (dom_put h.li hlen h')
/-- The reference's state ahead of a round. -/
structure RD (x y : List (List El)) (M n : Nat) (seen now : List Pr5) : Prop where
 lev : Lev x y n now
 new : ∀ z ∈ now, hasP seen z = false
 old : ∀ z ∈ seen, Snd x y z ∧ z.t.length ≤ n
 many : seen.length ≤ n * (allK M).length
 few : n + nuP (allK M) seen ≤ (allK M).length
theorem RD.n_le {x y : List (List El)} {M n : Nat} {seen now : List Pr5} (h : RD x y M n seen now) : n ≤ (allK M).length := by
 have := h.few
 omega
/-- The pairs of a round, closed, join those that were seen: fewer are left. -/
theorem RD.next {x y : List (List El)} {M n : Nat} {seen now lc m : List Pr5} (hx : Small M x) (hy : Small M y) (gx : ∀ l ∈ x, ∀ e ∈ l, e.ok) (gy : ∀ l ∈ y, ∀ e ∈ l, e.ok) (htx : ∀ s, Com2 x y s → s.all isText = true)
  (h : RD x y M n seen now) (hne : now ≠ []) (hc : Closing x y n now lc) (hno : ∀ z ∈ lc, ¬ Final x y z) (hm : NX x y n lc (seen ++ lc) lc.length 32 m) : RD x y M (n + 1) (seen ++ lc) m := by
 have hlev : Lev x y n lc := h.lev.dom x y hc.li hc.snd hc.dom
 have hold : ∀ z ∈ seen ++ lc, Snd x y z ∧ z.t.length ≤ n := fun z hz => by
  rcases List.mem_append.1 hz with hz | hz
  ·exact h.old z hz
  ·exact ⟨hc.snd z hz, by rw [hc.li.len z hz]; exact Nat.le_refl _⟩
 refine ⟨hlev.next x y gx gy hc.cl hno htx hold hm.li hm.snd (fun z hz la lb ha hb ch i k hch h1 h2 => ?_), hm.new, fun z hz => ⟨(hold z hz).1, by have := (hold z hz).2; omega⟩, ?_, ?_⟩
 ·obtain ⟨j, hj, he⟩ := List.getElem_of_mem hz
  exact hm.all j z (by rw [List.getElem?_eq_getElem hj, he]) la lb ha hb ch i k hch h1 h2 (Or.inl hj)
 ·rw [List.length_append, Nat.add_mul, Nat.one_mul]
  have := h.many
  have := snd_length hx hy hc.li hc.snd
  omega
 ·obtain ⟨z, r, hzr⟩ : ∃ z r, now = z :: r := by
   cases now with
   | nil => exact absurd rfl hne
   | cons z r => exact ⟨z, r, rfl⟩
  have hz : z ∈ now := by rw [hzr]; exact List.mem_cons_self
  obtain ⟨u, hu, hk, _⟩ := hc.dom z hz
  have hn : hasP seen u = false := by rw [hasP_congr hk]; exact h.new z hz
  have := nu_less (U := allK M) hu hn (snd_mem hx hy (hc.snd u hu))
  have := h.few
  omega
/-- The pairs that the reference begins with. -/
def starts (a b : Nat) : List Pr5 := (List.range a).flatMap fun i => (List.range b).map fun j => ⟨i, j, 0, 0, []⟩
theorem starts_mem {a b : Nat} {z : Pr5} : z ∈ starts a b ↔ ∃ i j, i < a ∧ j < b ∧ z = ⟨i, j, 0, 0, []⟩ := by
 unfold starts
 simp only [List.mem_flatMap, List.mem_map, List.mem_range]
 exact ⟨fun ⟨i, hi, j, hj, h⟩ => ⟨i, j, hi, hj, h.symm⟩, fun ⟨i, j, hi, hj, h⟩ => ⟨i, hi, j, hj, h.symm⟩⟩
theorem starts_li (a b : Nat) : LI 0 (starts a b) := by
 refine ⟨fun z hz => ?_, ?_, ?_⟩
 ·obtain ⟨i, j, _, _, rfl⟩ := starts_mem.1 hz
  rfl
 ·unfold starts
  rw [List.pairwise_flatMap]
  refine ⟨fun i _ => ?_, ?_⟩
  ·rw [List.pairwise_map]
   refine List.Pairwise.imp ?_ (List.nodup_range (n := b))
   intro p q hpq
   rw [Bool.eq_false_iff]
   intro h
   exact hpq (sameK_iff.1 h).2.1
  ·refine List.Pairwise.imp ?_ (List.nodup_range (n := a))
   intro p q hpq u hu v hv
   obtain ⟨j, _, rfl⟩ := List.mem_map.1 hu
   obtain ⟨k, _, rfl⟩ := List.mem_map.1 hv
   rw [Bool.eq_false_iff]
   intro h
   exact hpq (sameK_iff.1 h).1
 ·rw [List.pairwise_iff_getElem]
  intro i j hi hj _
  obtain ⟨_, _, _, _, e1⟩ := starts_mem.1 (List.getElem_mem hi)
  obtain ⟨_, _, _, _, e2⟩ := starts_mem.1 (List.getElem_mem hj)
  rw [e1, e2]
  exact lexLe_refl _
theorem starts_rd {x y : List (List El)} {M : Nat} : RD x y M 0 [] (starts x.length y.length) := by
 refine ⟨⟨starts_li _ _, fun z hz => ?_, fun c hc => ⟨Nat.zero_le _, ?_⟩⟩, fun _ _ => rfl, fun _ h => (by cases h), Nat.zero_le _, ?_⟩
 ·obtain ⟨i, j, hi, hj, rfl⟩ := starts_mem.1 hz
  exact snd_start x y (List.getElem?_eq_getElem hi) (List.getElem?_eq_getElem hj)
 ·obtain ⟨la, ha, h1⟩ := List.any_eq_true.1 hc.1.1
  obtain ⟨lb, hb, h2⟩ := List.any_eq_true.1 hc.1.2
  obtain ⟨i, hi, e1⟩ := List.getElem_of_mem ha
  obtain ⟨j, hj, e2⟩ := List.getElem_of_mem hb
  exact ⟨⟨i, j, 0, 0, []⟩, starts_mem.2 ⟨i, j, hi, hj, rfl⟩, rfl, la, lb, by rw [List.getElem?_eq_getElem hi, e1], by rw [List.getElem?_eq_getElem hj, e2], h1, h2⟩
 ·rw [Nat.zero_add]
  exact List.countP_le_length
theorem starts_row (a b : Nat) : starts (a + 1) b = starts a b ++ (List.range b).map fun j => ⟨a, j, 0, 0, []⟩ := by
 unfold starts
 rw [List.range_succ, List.flatMap_append]
 simp
theorem starts_length (a b : Nat) : (starts a b).length = a * b := by
 induction a with
 | zero => simp [starts]
 | succ a ih => rw [starts_row, List.length_append, ih, List.length_map, List.length_range, Nat.add_mul, Nat.one_mul]
theorem range_snoc (a b : Nat) : ((List.range (b + 1)).map fun j => (⟨a, j, 0, 0, []⟩ : Pr5)) = ((List.range b).map fun j => (⟨a, j, 0, 0, []⟩ : Pr5)) ++ [⟨a, b, 0, 0, []⟩] := by
 rw [List.range_succ, List.map_append]
 rfl
end Go.Proofs.YtdlchlbngojljaaDoor.Gl
