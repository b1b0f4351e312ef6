/- At. The order of origins. The place of an origin in a valid tree. -/
import Derived.Test.YtldcediiobfhiaaGreatDoorKV2
import Derived.Test.YtldcediiobfhiaaGreatDoorKDeDL
import Derived.Test.YtldcediiobfhiaaGreatDoorKU4
import Derived.Test.YtldcediiobfhiaaGreatDoorKV8
namespace Go.Proofs.YtldcediiobfhiaaGreatDoor.De
open Go.RowKit Go.Maps
/-- The device that is found at a place. -/
def atR (l : List DV) (o : ByteArray) (r : Nat) : Option DV := if hasAt l o r = true then l[r]? else none
end Go.Proofs.YtldcediiobfhiaaGreatDoor.De
namespace Go.Proofs.YtldcediiobfhiaaGreatDoor.Nm
def Free (c : UInt8) (l : List UInt8) : Prop := ∀ b ∈ l, b ≠ c
theorem pieces_of_free (c : UInt8) : ∀ l, Free c l → pieces c l = [l]
 | [], _ => rfl
 | x :: r, h => by
  rw [pieces, if_neg (h x (List.mem_cons_self ..)), pieces_of_free c r fun b hb => h b (List.mem_cons_of_mem _ hb)]
theorem pieces_snoc (c : UInt8) : ∀ (a q : List UInt8), Free c q → pieces c (a ++ c :: q) = pieces c a ++ [q]
 | [], q, h => by simp [pieces, pieces_of_free c q h]
 | x :: a, q, h => by
  have ih := pieces_snoc c a q h
  rw [List.cons_append, pieces, pieces, ih]
  split
  ·rfl
  ·cases hp : pieces c a with
   | nil => exact absurd hp (pieces_ne c a)
   | cons p ps => rfl
/-- The pieces with c between them. -/
def joinP (c : UInt8) : List (List UInt8) → List UInt8
 | [] => []
 | p :: ps => p ++ ps.flatMap fun q => c :: q
theorem joinP_pieces (c : UInt8) : ∀ l, joinP c (pieces c l) = l
 | [] => rfl
 | x :: r => by
  have ih := joinP_pieces c r
  rw [pieces]
  cases hp : pieces c r with
  | nil => exact absurd hp (pieces_ne c r)
  | cons p ps =>
   rw [hp] at ih
   split
   ·rename_i hx
    subst hx
    simp [joinP] at ih ⊢
    exact ih
   ·simp [joinP] at ih ⊢
    exact ih
theorem pieces_flat (c : UInt8) : ∀ (ps : List (List UInt8)) (a : List UInt8), (∀ p ∈ ps, Free c p) → pieces c (a ++ ps.flatMap fun q => c :: q) = pieces c a ++ ps
 | [], a, _ => by simp
 | p :: ps, a, h => by
  rw [List.flatMap_cons, ← List.append_assoc, pieces_flat c ps (a ++ c :: p) fun q hq => h q (List.mem_cons_of_mem _ hq), pieces_snoc c a p (h p (List.mem_cons_self ..)), List.append_assoc]
  rfl
theorem pieces_joinP (c : UInt8) (p : List UInt8) (ps : List (List UInt8)) (h : ∀ q ∈ p :: ps, Free c q) : pieces c (joinP c (p :: ps)) = p :: ps := by
 rw [joinP, pieces_flat c ps p fun q hq => h q (List.mem_cons_of_mem _ hq), pieces_of_free c p (h p (List.mem_cons_self ..))]
 rfl
theorem cmpL_append : ∀ (p s t : List UInt8), cmpL (p ++ s) (p ++ t) = cmpL s t
 | [], _, _ => rfl
 | c :: p, s, t => by rw [List.cons_append, List.cons_append, cmpL, if_pos rfl, cmpL_append p s t]
def Tail (s : List UInt8) : Prop := s = [] ∨ ∃ r, s = 47 :: r
theorem rank_pos {c : UInt8} (h : c ≠ 47) : rankI c = (c.toNat : Int) := by rw [rankI, if_neg h]
theorem rank_slash : rankI 47 = -1 := by unfold rankI; simp
theorem cmpL_names : ∀ (x y s t : List UInt8), Free 47 x → Free 47 y → Tail s → Tail t → x ≠ y → cmpL (x ++ s) (y ++ t) = Lib.compareBytes x y
 | [], [], _, _, _, _, _, _, h => absurd rfl h
 | [], d :: y, s, t, _, hy, hs, _, _ => by
  have hd := hy d (List.mem_cons_self ..)
  have e : Lib.compareBytes [] (d :: y) = -1 := rfl
  rw [e, List.nil_append, List.cons_append]
  rcases hs with rfl | ⟨r, rfl⟩
  ·rfl
  ·rw [cmpL, if_neg fun e => hd e.symm, rank_slash, rank_pos hd, Lib.compareInt, if_pos (by omega)]
 | c :: x, [], s, t, hx, _, _, ht, _ => by
  have hc := hx c (List.mem_cons_self ..)
  have e : Lib.compareBytes (c :: x) [] = 1 := rfl
  rw [e, List.nil_append, List.cons_append]
  rcases ht with rfl | ⟨r, rfl⟩
  ·rfl
  ·rw [cmpL, if_neg hc, rank_slash, rank_pos hc, Lib.compareInt, if_neg (by omega), if_pos (by omega)]
 | c :: x, d :: y, s, t, hx, hy, hs, ht, h => by
  have hc := hx c (List.mem_cons_self ..)
  have hd := hy d (List.mem_cons_self ..)
  rw [List.cons_append, List.cons_append, cmpL]
  by_cases e : c = d
  ·subst e
   rw [if_pos rfl, cmpL_names x y s t (fun b hb => hx b (List.mem_cons_of_mem _ hb)) (fun b hb => hy b (List.mem_cons_of_mem _ hb)) hs ht fun e => h (by rw [e])]
   rw [Lib.compareBytes]
   simp
  ·rw [if_neg e, rank_pos hc, rank_pos hd, Lib.compareBytes, Lib.compareInt]
   have hne : c.toNat ≠ d.toNat := fun h => e (UInt8.toNat_inj.1 h)
   by_cases h1 : c.toNat < d.toNat
   ·rw [if_pos (by omega), if_pos (UInt8.lt_iff_toNat_lt.2 h1)]
   ·rw [if_neg (by omega), if_pos (by omega), if_neg (fun h => h1 (UInt8.lt_iff_toNat_lt.1 h)), if_pos (UInt8.lt_iff_toNat_lt.2 (by omega))]
theorem tail_flat (ps : List (List UInt8)) : Tail (ps.flatMap fun q => 47 :: q) := by
 cases ps with
 | nil => exact .inl rfl
 | cons p ps => exact .inr ⟨p ++ ps.flatMap fun q => 47 :: q, by simp⟩
theorem cmpL_flat : ∀ (xs ys : List (List UInt8)), (∀ x ∈ xs, Free 47 x) → (∀ y ∈ ys, Free 47 y) → cmpL (xs.flatMap fun q => 47 :: q) (ys.flatMap fun q => 47 :: q) = De.cmpN xs ys
 | [], [], _, _ => rfl
 | [], y :: ys, _, _ => rfl
 | x :: xs, [], _, _ => rfl
 | x :: xs, y :: ys, hx, hy => by
  rw [List.flatMap_cons, List.flatMap_cons, List.cons_append, List.cons_append, cmpL, if_pos rfl, De.cmpN]
  by_cases e : x = y
  ·subst e
   rw [if_pos rfl, cmpL_append, cmpL_flat xs ys (fun q hq => hx q (List.mem_cons_of_mem _ hq)) fun q hq => hy q (List.mem_cons_of_mem _ hq)]
  ·rw [if_neg e]
   exact cmpL_names x y _ _ (hx x (List.mem_cons_self ..)) (hy y (List.mem_cons_self ..)) (tail_flat xs) (tail_flat ys) e
theorem joinP_flat (p : List UInt8) (ps : List (List UInt8)) : 47 :: joinP 47 (p :: ps) = (p :: ps).flatMap fun q => 47 :: q := by
 rw [joinP, List.flatMap_cons]
 rfl
theorem pieces_flat_self (l : List UInt8) : (pieces 47 l).flatMap (fun q => 47 :: q) = 47 :: l := by
 have h := joinP_pieces 47 l
 cases hp : pieces 47 l with
 | nil => exact absurd hp (pieces_ne 47 l)
 | cons p ps => rw [← joinP_flat, ← hp, h]
theorem flat_pth (xs : List (List UInt8)) : (xs.flatMap fun q => 47 :: q) = De.pth xs := rfl
theorem free_name {l : List UInt8} (h : nameB NameSet l = true) : Free 47 l := fun b hb e => by
 subst e
 unfold nameB at h
 simp only [Bool.and_eq_true] at h
 have h2 := h.2
 unfold allIn at h2
 have := List.all_eq_true.1 h2 47 hb
 exact absurd this (by decide)
theorem path_pth {xs : List (List UInt8)} (h0 : xs ≠ []) (h : ∀ x ∈ xs, nameB NameSet x = true) : isPathB (De.pth xs) = true := by
 cases xs with
 | nil => exact absurd rfl h0
 | cons p ps =>
  rw [← flat_pth, ← joinP_flat, isPathB, pieces_joinP 47 p ps fun q hq => free_name (h q hq)]
  simpa using h
/-- What a path is made of. -/
theorem path_names {l : List UInt8} (h : isPathB l = true) : ∃ ys, l = De.pth ys ∧ ys ≠ [] ∧ ∀ y ∈ ys, nameB NameSet y = true := by
 cases l with
 | nil => cases h
 | cons c r =>
  rw [isPathB, Bool.and_eq_true] at h
  obtain ⟨h1, h2⟩ := h
  obtain rfl : c = 47 := by simpa using h1
  exact ⟨pieces 47 r, by rw [← flat_pth, pieces_flat_self], pieces_ne 47 r, List.all_eq_true.1 h2⟩
theorem cmpB_pth {xs ys : List (List UInt8)} (hx0 : xs ≠ []) (hy0 : ys ≠ []) (hx : ∀ x ∈ xs, nameB NameSet x = true) (hy : ∀ y ∈ ys, nameB NameSet y = true) : cmpB (De.pth xs) (De.pth ys) = (De.cmpN xs ys, 0) := by
 unfold cmpB
 rw [path_pth hx0 hx, path_pth hy0 hy, Bool.and_self, if_pos rfl, ← flat_pth, ← flat_pth, cmpL_flat xs ys (fun x h => free_name (hx x h)) fun y h => free_name (hy y h)]
end Go.Proofs.YtldcediiobfhiaaGreatDoor.Nm
namespace Go.Proofs.YtldcediiobfhiaaGreatDoor
open Go.RowKit
theorem snd_orig {a : De.ADev} (h : sndA a = true) : Nm.nameB Nm.NameSet a.orig.data.toList = true := by
 have hc : De.checkE (vDev a) a.ats = 0 := of_decide_eq_true h
 unfold De.checkE at hc
 split at hc
 ·cases hc
 split at hc
 ·cases hc
 ·rename_i h1 h2
  have h2 : De.textsB (vDev a) = true := by simpa using h2
  unfold De.textsB at h2
  simp only [Bool.and_eq_true] at h2
  exact h2.2.1
theorem org_names {l : List De.ADev} (hv : De.Valid sndA clA l) {d : De.ADev} (hd : d ∈ l) : ∀ s ∈ De.org l d, Nm.nameB Nm.NameSet s = true := fun s hs => by
 unfold De.org at hs
 rw [List.mem_reverse, List.mem_map] at hs
 obtain ⟨e, he, rfl⟩ := hs
 rcases List.mem_cons.1 he with rfl | he
 ·exact snd_orig (hv.sound _ hd)
 ·exact snd_orig (hv.sound _ (De.up_mem _ _ e he))
theorem trlA_org {L : List De.DV} (hv : De.Valid sndA clA (L.map (·.1))) {x : De.DV} (hx : x ∈ L) : De.trlA De.ADev.orig L x.1 = De.pth (De.org (L.map (·.1)) x.1) := by
 unfold De.trlA
 rw [ancL_fst hv.tidy, hv.up7 (hv.tidy.parent (List.mem_map.2 ⟨x, hx, rfl⟩))]
 exact De.trail_org _ _
theorem ordA_path {L : List De.DV} (hv : De.Valid sndA clA (L.map (·.1))) {x : De.DV} (hx : x ∈ L) {o : ByteArray} {ys : List (List UInt8)} (ho : o.data.toList = De.pth ys) (h0 : ys ≠ []) (hy : ∀ y ∈ ys, Nm.nameB Nm.NameSet y = true) : De.ordA L o x.1 = De.cmpN (De.org (L.map (·.1)) x.1) ys := by
 unfold De.ordA
 rw [trlA_org hv hx, ho, Nm.cmpB_pth (De.org_ne _ _) h0 (org_names hv (List.mem_map.2 ⟨x, hx, rfl⟩)) hy]
theorem orgB_path {L : List De.DV} (hv : De.Valid sndA clA (L.map (·.1))) {x : De.DV} (hx : x ∈ L) : De.orgB L x.1 = bs (De.pth (De.org (L.map (·.1)) x.1)) := by
 unfold De.orgB
 rw [trlA_org hv hx]
 rfl
theorem pth_names_inj {a b : List (List UInt8)} (ha : ∀ s ∈ a, Nm.nameB Nm.NameSet s = true) (hb : ∀ s ∈ b, Nm.nameB Nm.NameSet s = true) (h : De.pth a = De.pth b) : a = b :=
 De.pth_inj (fun s hs => Nm.free_name (ha s hs)) (fun s hs => Nm.free_name (hb s hs)) h
theorem str_bs (a b : ByteArray) : (a.toList == b.toList) = decide (a.data.toList = b.data.toList) := lst_dec a b
theorem has_at {L : List De.DV} (hv : De.Valid sndA clA (L.map (·.1))) {o : ByteArray} {r : Nat} {x : De.DV} (hx : L[r]? = some x) : De.hasAt L o r = decide (De.pth (De.org (L.map (·.1)) x.1) = o.data.toList) := by
 unfold De.hasAt
 rw [hx]
 show ((De.orgB L x.1).toList == o.toList) = _
 rw [orgB_path hv (List.mem_of_getElem? hx), str_bs, bs_data]
theorem map_at {L : List De.DV} {i : Nat} {x : De.DV} (h : L[i]? = some x) : (L.map (·.1))[i]? = some x.1 := by
 rw [List.getElem?_map, h]
 rfl
theorem asc_at {α : Type} {R : α → α → Prop} {l : List α} (hp : l.Pairwise R) {i j : Nat} {a b : α} (hi : l[i]? = some a) (hj : l[j]? = some b) (h : i < j) : R a b := by
 obtain ⟨h1, rfl⟩ := List.getElem?_eq_some_iff.1 hi
 obtain ⟨h2, rfl⟩ := List.getElem?_eq_some_iff.1 hj
 exact List.pairwise_iff_getElem.1 hp i j h1 h2 h
theorem find_congr {α : Type} {p q : α → Bool} : ∀ {l : List α}, (∀ x ∈ l, p x = q x) → l.find? p = l.find? q
 | [], _ => rfl
 | a :: l, h => by
  rw [List.find?_cons, List.find?_cons, h a (List.mem_cons_self ..), find_congr fun x hx => h x (List.mem_cons_of_mem _ hx)]
/-- What At finds: the device with that origin. -/
theorem atR_find {L : List De.DV} (hv : De.Valid sndA clA (L.map (·.1))) (o : ByteArray) (r : Nat) (hp : De.PlaceOf L o r) : De.atR L o r = L.find? fun x => decide (De.pth (De.org (L.map (·.1)) x.1) = o.data.toList) := by
 cases hpo : Nm.isPathB o.data.toList with
 | false =>
  have h1 : L.find? (fun x => decide (De.pth (De.org (L.map (·.1)) x.1) = o.data.toList)) = none := by
   rw [List.find?_eq_none]
   intro x hx e
   have e := of_decide_eq_true e
   have := Nm.path_pth (De.org_ne _ _) (org_names hv (List.mem_map.2 ⟨x, hx, rfl⟩))
   rw [e, hpo] at this
   cases this
  rw [h1]
  cases hx : L[r]? with
  | none =>
   unfold De.atR
   rw [hx]
   split <;> rfl
  | some x =>
   have hxm := List.mem_of_getElem? hx
   unfold De.atR
   rw [has_at hv hx, if_neg]
   intro e
   have e := of_decide_eq_true e
   have := Nm.path_pth (De.org_ne _ _) (org_names hv (List.mem_map.2 ⟨x, hxm, rfl⟩))
   rw [e, hpo] at this
   cases this
 | true =>
  obtain ⟨ys, ho, h0, hy⟩ := Nm.path_names hpo
  have hat : ∀ (i : Nat) x, L[i]? = some x → (i < De.placeL (L.map (·.1)) ys ↔ De.cmpN (De.org (L.map (·.1)) x.1) ys < 0) := fun i x hx => hv.place_lt ys (by rw [List.getElem?_map, hx]; rfl)
  have hr : r = De.placeL (L.map (·.1)) ys := by
   obtain ⟨h1, h2, h3⟩ := hp
   have hle := De.placeL_le (L.map (·.1)) ys
   rw [List.length_map] at hle
   rcases Nat.lt_trichotomy r (De.placeL (L.map (·.1)) ys) with g | g | g
   ·have hrl : r < L.length := by omega
    have h4 := h3 hrl
    unfold De.befB at h4
    obtain ⟨x, hx⟩ : ∃ x, L[r]? = some x := ⟨_, List.getElem?_eq_getElem hrl⟩
    rw [hx] at h4
    have h4 := of_decide_eq_true h4
    rw [ordA_path hv (List.mem_of_getElem? hx) ho h0 hy] at h4
    have := (hat r x hx).1 g
    omega
   ·exact g
   ·have hrl : r - 1 < L.length := by omega
    have h4 := h2 (by omega)
    unfold De.befB at h4
    obtain ⟨x, hx⟩ : ∃ x, L[r - 1]? = some x := ⟨_, List.getElem?_eq_getElem hrl⟩
    rw [hx] at h4
    have h4 := of_decide_eq_false h4
    rw [ordA_path hv (List.mem_of_getElem? hx) ho h0 hy] at h4
    have := (hat (r - 1) x hx).2 (by omega)
    omega
  subst hr
  have hpl := hv.place_at ys
  have hf : ∀ x : De.DV, x ∈ L → decide (De.pth (De.org (L.map (·.1)) x.1) = o.data.toList) = decide (De.org (L.map (·.1)) x.1 = ys) := fun x hx => by
   rw [ho]
   congr 1
   exact propext ⟨fun e => pth_names_inj (org_names hv (List.mem_map.2 ⟨x, hx, rfl⟩)) hy e, fun e => by rw [e]⟩
  have hmap : ((L.map (·.1)).find? fun e => decide (De.org (L.map (·.1)) e = ys)) = (L.find? fun x => decide (De.org (L.map (·.1)) x.1 = ys)).map (·.1) := by
   rw [List.find?_map]
   rfl
  have hcong : (L.find? fun x => decide (De.pth (De.org (L.map (·.1)) x.1) = o.data.toList)) = L.find? fun x => decide (De.org (L.map (·.1)) x.1 = ys) := find_congr hf
  rw [hcong]
  rw [hmap] at hpl
  cases hx : L[De.placeL (L.map (·.1)) ys]? with
  | none =>
   unfold De.atR
   rw [hx]
   rw [List.getElem?_map, hx] at hpl
   have : (L.find? fun x => decide (De.org (L.map (·.1)) x.1 = ys)) = none := by simpa using hpl
   rw [this]
   split <;> rfl
  | some x =>
   have hxm := List.mem_of_getElem? hx
   rw [List.getElem?_map, hx] at hpl
   unfold De.atR
   rw [has_at hv hx, hf x hxm, hx]
   by_cases e : De.org (L.map (·.1)) x.1 = ys
   ·rw [if_pos (by simpa using e)]
    cases hfd : L.find? fun x => decide (De.org (L.map (·.1)) x.1 = ys) with
    | none =>
     have := List.find?_eq_none.1 hfd x hxm
     simp [e] at this
    | some y =>
     have hy1 : De.org (L.map (·.1)) y.1 = ys := by simpa using List.find?_some hfd
     obtain ⟨j, hj⟩ := List.mem_iff_getElem?.1 (List.mem_of_find?_eq_some hfd)
     have hjn : ¬ j < De.placeL (L.map (·.1)) ys := fun g => by
      have := (hat j y hj).1 g
      rw [hy1, De.cmpN_self] at this
      omega
     rcases Nat.lt_or_ge (De.placeL (L.map (·.1)) ys) j with g | g
     ·have hx' := map_at hx
      have hj' := map_at hj
      have hp1 := asc_at hv.asc hx' hj' g
      rw [e, hy1, De.cmpN_self] at hp1
      omega
     ·have : j = De.placeL (L.map (·.1)) ys := by omega
      rw [this, hx] at hj
      exact hj
   ·rw [if_neg (by simpa using e)]
    simp only [Option.map_some, if_neg e] at hpl
    have : (L.find? fun x => decide (De.org (L.map (·.1)) x.1 = ys)) = none := by simpa using hpl
    rw [this]
end Go.Proofs.YtldcediiobfhiaaGreatDoor
