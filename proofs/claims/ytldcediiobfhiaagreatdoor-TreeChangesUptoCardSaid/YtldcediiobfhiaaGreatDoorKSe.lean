/- Relatives of a device, on lists; same. A subtree as a row of neighbours, and origins below an origin. -/
import Derived.Test.YtldcediiobfhiaaGreatDoorKY1
import Derived.Test.YtldcediiobfhiaaGreatDoorKV8
import Derived.Test.YtldcediiobfhiaaGreatDoorKWa
import Derived.Test.YtldcediiobfhiaaGreatDoorKX1
import Derived.Test.YtldcediiobfhiaaGreatDoorKRr
import Derived.Test.YtldcediiobfhiaaGreatDoorKX4
import Derived.Test.YtldcediiobfhiaaGreatDoorKNp
namespace Go.Proofs.YtldcediiobfhiaaGreatDoor.De
open Go.RowKit
def walkA (f : Int → Bool) : List ADev → List ADev
 | [] => []
 | y :: r => if f y.par = true then y :: walkA (fun j => j == y.idx || f j) r else []
theorem walkS_fst : ∀ (l : List DV) (f : Int → Bool), (walkS f l).map (·.1) = walkA f (l.map (·.1))
 | [], _ => rfl
 | y :: r, f => by
  rw [List.map_cons, walkA]
  cases hf : f y.1.par with
  | false => rw [walkS_no hf]; rfl
  | true => rw [walkS_yes hf, List.map_cons, walkS_fst r]; rfl
theorem walk_bel {snd : ADev → Bool} {cl : ADev → ADev → Bool} {l : List ADev} (h : Valid snd cl l) {i : Nat} {d : ADev} (hd : l[i]? = some d) : ∀ (n j : Nat) (f : Int → Bool), l.length - j = n → i < j →
  (∀ m e, i ≤ m → m < j → l[m]? = some e → bel l e d.idx = true) → (∀ q, f q = true ↔ ∃ m e, i ≤ m ∧ m < j ∧ l[m]? = some e ∧ e.idx = q) → walkA f (l.drop j) = (l.drop j).takeWhile fun e => bel l e d.idx := by
 intro n
 induction n with
 | zero =>
  intro j f hn hij _ _
  rw [List.drop_eq_nil_iff.2 (by omega)]
  rfl
 | succ n ih =>
  intro j f hn hij hb hf
  have hj : j < l.length := by omega
  obtain ⟨e, he⟩ : ∃ e, l[j]? = some e := ⟨_, List.getElem?_eq_getElem hj⟩
  have hdr : l.drop j = e :: l.drop (j + 1) := by
   rw [List.drop_eq_getElem_cons hj]
   congr 1
   exact (List.getElem?_eq_some_iff.1 he).2
  have hem := List.mem_of_getElem? he
  have hne : (e.idx == d.idx) = false := by
   rw [beq_eq_false_iff_ne]
   intro e'
   have := (uniq_at h.tidy.uniq he hd e').1
   omega
  have key : f e.par = bel l e d.idx := by
   rw [Bool.eq_iff_iff, hf]
   constructor
   ·rintro ⟨m, p, h1, h2, h3, h4⟩
    rw [bel_child h.tidy hem (List.mem_of_getElem? h3) h4, hb m p h1 h2 h3, Bool.or_true]
   ·intro hbe
    rcases h.tidy.par j e he with h0 | ⟨j', p, hlt, hp, hpe⟩
    ·rw [bel_root h.tidy hem h0, hne] at hbe
     cases hbe
    ·rw [bel_child h.tidy hem (List.mem_of_getElem? hp) hpe, hne, Bool.false_or] at hbe
     exact ⟨j', p, h.bel_first hd hp hbe, hlt, hp, hpe⟩
  rw [hdr, walkA, List.takeWhile_cons, key]
  cases hbe : bel l e d.idx with
  | false => rfl
  | true =>
   rw [if_pos rfl, if_pos rfl, ih (j + 1) _ (by omega) (by omega) (fun m a h1 h2 h3 => ?_) (fun q => ?_)]
   ·by_cases hm : m = j
    ·subst hm
     rw [he] at h3
     cases h3
     exact hbe
    ·exact hb m a h1 (by omega) h3
   ·rw [Bool.or_eq_true, beq_iff_eq, hf]
    constructor
    ·rintro (rfl | ⟨m, a, h1, h2, h3, h4⟩)
     ·exact ⟨j, e, by omega, by omega, he, rfl⟩
     ·exact ⟨m, a, h1, by omega, h3, h4⟩
    ·rintro ⟨m, a, h1, h2, h3, h4⟩
     by_cases hm : m = j
     ·subst hm
      rw [he] at h3
      cases h3
      exact .inl h4.symm
     ·exact .inr ⟨m, a, h1, by omega, h3, h4⟩
theorem bel_none {l : List ADev} {q : Int} (h : lastI l q = none) (e : ADev) : bel l e q = false := by
 unfold bel
 rw [List.any_eq_false]
 intro a ha
 have := lastI_none h a (up_mem _ _ a ha)
 simpa using this
/-- What the program returns as a subtree is what the reference filters. -/
theorem sub_eq {snd : ADev → Bool} {cl : ADev → ADev → Bool} {L : List DV} (h : Valid snd cl (L.map (·.1))) (q : Int) : (subOf L q).map (·.1) = (L.map (·.1)).filter fun e => bel (L.map (·.1)) e q := by
 unfold subOf
 cases hp : lastI (L.map (·.1)) q with
 | none =>
  rw [List.filter_eq_nil_iff.2 (fun e _ => by rw [bel_none hp e]; simp)]
  rfl
 | some p =>
  obtain ⟨d, hd, hdq⟩ := lastI_some hp
  have hd2 := hd
  rw [List.getElem?_map, Option.map_eq_some_iff] at hd2
  obtain ⟨x, hx, hxd⟩ := hd2
  simp only [hx]
  subst hdq
  rw [h.subtree hd]
  unfold subL
  rw [List.map_cons, walkS_fst, ← hxd, List.map_drop]
  rw [hxd]
  rw [walk_bel h hd ((L.map (·.1)).length - (p + 1)) (p + 1) (f1 d.idx) rfl (by omega) (fun m e h1 h2 h3 => ?_) (fun q => ?_)]
  ·obtain rfl : m = p := by omega
   rw [hd] at h3
   cases h3
   exact bel_self h.tidy (List.mem_of_getElem? hd)
  ·unfold f1
   rw [Bool.or_false, beq_iff_eq]
   constructor
   ·rintro rfl
    exact ⟨p, d, Nat.le_refl _, by omega, hd, rfl⟩
   ·rintro ⟨m, e, h1, h2, h3, h4⟩
    obtain rfl : m = p := by omega
    rw [hd] at h3
    cases h3
    exact h4.symm
theorem filter_fst (L : List DV) (p : ADev → Bool) : (L.filter fun x => p x.1).map (·.1) = (L.map (·.1)).filter p := by
 rw [List.filter_map]
 rfl
end Go.Proofs.YtldcediiobfhiaaGreatDoor.De
namespace Go.Proofs.YtldcediiobfhiaaGreatDoor
open Go.RowKit
end Go.Proofs.YtldcediiobfhiaaGreatDoor
namespace Go.Proofs.YtldcediiobfhiaaGreatDoor
open Go.RowKit
/-- The subtree stands behind its device. -/
theorem sub_row {l : List De.ADev} (hv : De.Valid sndA clA l) {p : Nat} {d : De.ADev} (hd : l[p]? = some d) : l.filter (fun e => De.bel l e d.idx) = (l.drop p).take (l.filter fun e => De.bel l e d.idx).length := by
 have hp := (List.getElem?_eq_some_iff.1 hd).1
 have hdr : l.drop p = d :: l.drop (p + 1) := by
  rw [List.drop_eq_getElem_cons hp]
  congr 1
  exact (List.getElem?_eq_some_iff.1 hd).2
 have hself := De.bel_self hv.tidy (List.mem_of_getElem? hd)
 have h1 : l.filter (fun e => De.bel l e d.idx) = (l.drop p).takeWhile fun e => De.bel l e d.idx := by
  rw [hv.subtree hd, hdr, List.takeWhile_cons, hself, if_pos rfl]
 rw [h1]
 exact List.prefix_iff_eq_take.1 (List.takeWhile_prefix _)
theorem row_of {W : World} {va : Option Addr} {N vc p : Nat} {l : List De.DV} {d : De.DV} (h : De.DHas W (.slice va N vc) l) (hd : l[p]? = some d) : ∃ g o, va = some ⟨g, o, none⟩ ∧ l.length ≤ vc ∧ g < W.heap.size ∧ De.DRow W g o l := by
 obtain ⟨a, c, hv, hr⟩ := h.form
 injection hv with e1 e2 e3
 subst e1
 subst e3
 exact hr (fun e => by rw [e] at hd; simp at hd)
end Go.Proofs.YtldcediiobfhiaaGreatDoor
