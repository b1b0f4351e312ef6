/- Relatives of a device, on lists; same. -/
import Derived.Test.YtldcediiobfhiaaGreatDoorKY1
import Derived.Test.YtldcediiobfhiaaGreatDoorKV8
import Derived.Test.YtldcediiobfhiaaGreatDoorKWa
import Derived.Test.YtldcediiobfhiaaGreatDoorKRfDS
import Derived.Test.YtldcediiobfhiaaGreatDoorKRr
namespace Go.Proofs.YtldcediiobfhiaaGreatDoor.De
open Go.RowKit
def walkA (f : Int → Bool) : List ADev → List ADev
 | [] => []
 | y :: r => if f y.par = true then y :: walkA (fun j => j == y.idx || f j) r else []
theorem walkS_fst : ∀ (l : List DV) (f : Int → Bool), (walkS f l).map (·.1) = walkA f (l.map (·.1))
 | [], _ => rfl
 | y :: r, f => by
  rw [List.map_cons, walkA]
  cases hf : f y.1.par with
  | false => rw [walkS_no hf]; rfl
  | true => rw [walkS_yes hf, List.map_cons, walkS_fst r]; rfl
theorem walk_bel {snd : ADev → Bool} {cl : ADev → ADev → Bool} {l : List ADev} (h : Valid snd cl l) {i : Nat} {d : ADev} (hd : l[i]? = some d) : ∀ (n j : Nat) (f : Int → Bool), l.length - j = n → i < j →
  (∀ m e, i ≤ m → m < j → l[m]? = some e → bel l e d.idx = true) → (∀ q, f q = true ↔ ∃ m e, i ≤ m ∧ m < j ∧ l[m]? = some e ∧ e.idx = q) → walkA f (l.drop j) = (l.drop j).takeWhile fun e => bel l e d.idx := by
 intro n
 induction n with
 | zero =>
  intro j f hn hij _ _
  rw [List.drop_eq_nil_iff.2 (by omega)]
  rfl
 | succ n ih =>
  intro j f hn hij hb hf
  have hj : j < l.length := by omega
  obtain ⟨e, he⟩ : ∃ e, l[j]? = some e := ⟨_, List.getElem?_eq_getElem hj⟩
  have hdr : l.drop j = e :: l.drop (j + 1) := by
   rw [List.drop_eq_getElem_cons hj]
   congr 1
   exact (List.getElem?_eq_some_iff.1 he).2
  have hem := List.mem_of_getElem? he
  have hne : (e.idx == d.idx) = false := by
   rw [beq_eq_false_iff_ne]
   intro e'
   have := (uniq_at h.tidy.uniq he hd e').1
   omega
  have key : f e.par = bel l e d.idx := by
   rw [Bool.eq_iff_iff, hf]
   constructor
   ·rintro ⟨m, p, h1, h2, h3, h4⟩
    rw [bel_child h.tidy hem (List.mem_of_getElem? h3) h4, hb m p h1 h2 h3, Bool.or_true]
   ·intro hbe
    rcases h.tidy.par j e he with h0 | ⟨j', p, hlt, hp, hpe⟩
    ·rw [bel_root h.tidy hem h0, hne] at hbe
     cases hbe
    ·rw [bel_child h.tidy hem (List.mem_of_getElem? hp) hpe, hne, Bool.false_or] at hbe
     exact ⟨j', p, h.bel_first hd hp hbe, hlt, hp, hpe⟩
  rw [hdr, walkA, List.takeWhile_cons, key]
  cases hbe : bel l e d.idx with
  | false => rfl
  | true =>
   rw [if_pos rfl, if_pos rfl, ih (j + 1) _ (by omega) (by omega) (fun m a h1 h2 h3 => ?_) (fun q => ?_)]
   ·by_cases hm : m = j
    ·subst hm
     rw [he] at h3
     cases h3
     exact hbe
    ·exact hb m a h1 (by omega) h3
   ·rw [Bool.or_eq_true, beq_iff_eq, hf]
    constructor
    ·rintro (rfl | ⟨m, a, h1, h2, h3, h4⟩)
     ·exact ⟨j, e, by omega, by omega, he, rfl⟩
     ·exact ⟨m, a, h1, by omega, h3, h4⟩
    ·rintro ⟨m, a, h1, h2, h3, h4⟩
     by_cases hm : m = j
     ·subst hm
      rw [he] at h3
      cases h3
      exact .inl h4.symm
     ·exact .inr ⟨m, a, h1, by omega, h3, h4⟩
theorem bel_none {l : List ADev} {q : Int} (h : lastI l q = none) (e : ADev) : bel l e q = false := by
 unfold bel
 rw [List.any_eq_false]
 intro a ha
 have := lastI_none h a (up_mem _ _ a ha)
 simpa using this
/-- What the program returns as a subtree is what the reference filters. -/
theorem sub_eq {snd : ADev → Bool} {cl : ADev → ADev → Bool} {L : List DV} (h : Valid snd cl (L.map (·.1))) (q : Int) : (subOf L q).map (·.1) = (L.map (·.1)).filter fun e => bel (L.map (·.1)) e q := by
 unfold subOf
 cases hp : lastI (L.map (·.1)) q with
 | none =>
  rw [List.filter_eq_nil_iff.2 (fun e _ => by rw [bel_none hp e]; simp)]
  rfl
 | some p =>
  obtain ⟨d, hd, hdq⟩ := lastI_some hp
  have hd2 := hd
  rw [List.getElem?_map, Option.map_eq_some_iff] at hd2
  obtain ⟨x, hx, hxd⟩ := hd2
  simp only [hx]
  subst hdq
  rw [h.subtree hd]
  unfold subL
  rw [List.map_cons, walkS_fst, ← hxd, List.map_drop]
  rw [hxd]
  rw [walk_bel h hd ((L.map (·.1)).length - (p + 1)) (p + 1) (f1 d.idx) rfl (by omega) (fun m e h1 h2 h3 => ?_) (fun q => ?_)]
  ·obtain rfl : m = p := by omega
   rw [hd] at h3
   cases h3
   exact bel_self h.tidy (List.mem_of_getElem? hd)
  ·unfold f1
   rw [Bool.or_false, beq_iff_eq]
   constructor
   ·rintro rfl
    exact ⟨p, d, Nat.le_refl _, by omega, hd, rfl⟩
   ·rintro ⟨m, e, h1, h2, h3, h4⟩
    obtain rfl : m = p := by omega
    rw [hd] at h3
    cases h3
    exact h4.symm
theorem filter_fst (L : List DV) (p : ADev → Bool) : (L.filter fun x => p x.1).map (·.1) = (L.map (·.1)).filter p := by
 rw [List.filter_map]
 rfl
end Go.Proofs.YtldcediiobfhiaaGreatDoor.De
namespace Go.Proofs.YtldcediiobfhiaaGreatDoor
open Go.RowKit
theorem anc_eq {L : List De.DV} (hv : De.Valid sndA clA (L.map (·.1))) (q : Int) : (De.ancOf L q).map (·.1) = ((De.upD L L.length q).drop 1).map (·.1) := by
 rw [List.map_drop, up_eq]
 unfold De.ancOf
 cases hp : De.lastI (L.map (·.1)) q with
 | none =>
  have hf : De.fnd (L.map (·.1)) q = none := by rw [De.lastI_fnd hv.tidy, hp]; rfl
  rw [ups_none hf]
  rfl
 | some p =>
  obtain ⟨d, hd, hdq⟩ := De.lastI_some hp
  have hd2 := hd
  rw [List.getElem?_map, Option.map_eq_some_iff] at hd2
  obtain ⟨x, hx, hxd⟩ := hd2
  simp only [hx]
  have hf : De.fnd (L.map (·.1)) q = some d := by rw [De.lastI_fnd hv.tidy, hp]; exact hd
  obtain ⟨h1, h2⟩ := ups_some hv.tidy hf
  rw [h1, ancL_fst hv.tidy, hxd, hv.up7 h2]
  rfl
/-- A call returns a list of such devices. -/
def LP (A : List De.ADev) (W : World) (e : Ending) (w' : World) : Prop := ∃ a n c L1, e = .returned (.slice a n c) ∧ Hid (L1.map (·.1) = A) ∧ Hid (De.DHas w' (.slice a n c) L1) ∧ Hid (Kp [] W w')
theorem lp_of {A : List De.ADev} {W w' : World} {e : Ending} {u : Value} {L1 : List De.DV} (he : e = .returned u) (h1 : L1.map (·.1) = A) (h2 : De.DHas w' u L1) (h3 : Below W.heap.size W w') : LP A W e w' := by
 obtain ⟨a, c, hu, -⟩ := h2.form
 subst hu
 exact ⟨a, _, c, L1, he, Lib.hid h1, Lib.hid h2, Lib.hid (Kp.of_below h3)⟩
set_option maxRecDepth 100000 in
set_option maxHeartbeats 1000000 in
theorem same33_any (u v : Value) (L1 L2 : List De.DV) (A : List De.ADev) (W : World) (hA : A.length ≤ 1000000) (hA2 : ∀ a ∈ A, a.ats.length ≤ 1000000) (h1 : L1.map (·.1) = A) (h2 : L2.map (·.1) = A) (hu : De.DHas W u L1) (hv : De.DHas W v L2) :
  Calls Tryz.prog 33 #[u, v] W fun e w' => e = .returned (.bool true) ∧ Kp [] W w' := by
 have hl : L1.length ≤ 1000000 := by rw [← h1, List.length_map] at hA; exact hA
 have hal : ∀ x ∈ L1, x.1.ats.length ≤ 1000000 := fun x hx => hA2 _ (by rw [← h1]; exact List.mem_map.2 ⟨x, hx, rfl⟩)
 obtain ⟨a, c, rfl, -⟩ := hu.form
 obtain ⟨b, d, rfl, -⟩ := hv.form
 have HS := Lib.hid (De.sameTree_any _ _ L1 L2 W hl hal hu hv)
 have hs : De.sameL (L1.map (·.1)) (L2.map (·.1)) = true := by rw [h1, h2]; exact De.sameL_iff.2 rfl
 rw [hs] at HS
 clear hs hl hal hu hv h1 h2 hA hA2
 go_enter Tryz.func33, Tryz.ntmps33
 go_wp2_with (go_at_call 42; refine Calls.mono (by with_reducible exact HS.out) ?_; rintro e w2 ⟨rfl, hb⟩)
 go_ret
 exact ⟨rfl, Kp.of_below hb⟩
theorem tree10 {w : World} {tb k : Nat} (hk : k ≤ 400) (h : Tp w tb k) (hm : De.Max w) : Calls Tryz.prog 13 #[.pointer (some ⟨tb, 0, none⟩), .int .i64 10] w fun e w' => ∃ va N vc L, e = .returned (.agg #[.slice va N vc]) ∧ Hid (L.length = N) ∧ N ≤ vc ∧ N ≤ 10 ∧ Hid (TreeAt w' (tb + 1) 10 (.slice va N vc) L) ∧ ∃ k', k' ≤ k + 401 ∧ Hid (Tp w' tb k') ∧ Hid (Kp [tb] w w') := by
 refine (show Calls Tryz.prog 13 #[.pointer (some ⟨tb, 0, none⟩), .int .i64 ((10 : Nat) : Int)] w (TreePost tb k 10 w) from tree_any 10 (by omega) (by omega) h hm).mono ?_
 rintro e w' ⟨v, L, rfl, ht, ⟨k', hk', hT⟩, hkp⟩
 obtain ⟨va, vc, rfl, hvc, -⟩ := ht.any.wform
 exact ⟨va, L.length, vc, L, rfl, Lib.hid rfl, hvc, ht.len, Lib.hid (ht.up (Nat.le_refl _) h.lt), k', by omega, Lib.hid hT, Lib.hid hkp⟩
end Go.Proofs.YtldcediiobfhiaaGreatDoor
