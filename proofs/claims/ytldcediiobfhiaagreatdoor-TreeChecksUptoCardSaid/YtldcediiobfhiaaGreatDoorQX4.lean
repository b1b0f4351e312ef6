/- At. The order of origins. The place of an origin in a valid tree. -/
import Derived.Test.YtldcediiobfhiaaGreatDoorQV2
import Derived.Test.YtldcediiobfhiaaGreatDoorQDeDL
import Derived.Test.YtldcediiobfhiaaGreatDoorQU4
import Derived.Test.YtldcediiobfhiaaGreatDoorQV8
namespace Go.Proofs.YtldcediiobfhiaaGreatDoor.De
open Go.RowKit Go.Maps
end Go.Proofs.YtldcediiobfhiaaGreatDoor.De
namespace Go.Proofs.YtldcediiobfhiaaGreatDoor.Nm
def Free (c : UInt8) (l : List UInt8) : Prop := ∀ b ∈ l, b ≠ c
theorem pieces_of_free (c : UInt8) : ∀ l, Free c l → pieces c l = [l]
 | [], _ => rfl
 | x :: r, h => by
  rw [pieces, if_neg (h x (List.mem_cons_self ..)), pieces_of_free c r fun b hb => h b (List.mem_cons_of_mem _ hb)]
theorem pieces_snoc (c : UInt8) : ∀ (a q : List UInt8), Free c q → pieces c (a ++ c :: q) = pieces c a ++ [q]
 | [], q, h => by simp [pieces, pieces_of_free c q h]
 | x :: a, q, h => by
  have ih := pieces_snoc c a q h
  rw [List.cons_append, pieces, pieces, ih]
  split
  ·rfl
  ·cases hp : pieces c a with
   | nil => exact absurd hp (pieces_ne c a)
   | cons p ps => rfl
/-- The pieces with c between them. -/
def joinP (c : UInt8) : List (List UInt8) → List UInt8
 | [] => []
 | p :: ps => p ++ ps.flatMap fun q => c :: q
theorem pieces_flat (c : UInt8) : ∀ (ps : List (List UInt8)) (a : List UInt8), (∀ p ∈ ps, Free c p) → pieces c (a ++ ps.flatMap fun q => c :: q) = pieces c a ++ ps
 | [], a, _ => by simp
 | p :: ps, a, h => by
  rw [List.flatMap_cons, ← List.append_assoc, pieces_flat c ps (a ++ c :: p) fun q hq => h q (List.mem_cons_of_mem _ hq), pieces_snoc c a p (h p (List.mem_cons_self ..)), List.append_assoc]
  rfl
theorem pieces_joinP (c : UInt8) (p : List UInt8) (ps : List (List UInt8)) (h : ∀ q ∈ p :: ps, Free c q) : pieces c (joinP c (p :: ps)) = p :: ps := by
 rw [joinP, pieces_flat c ps p fun q hq => h q (List.mem_cons_of_mem _ hq), pieces_of_free c p (h p (List.mem_cons_self ..))]
 rfl
theorem cmpL_append : ∀ (p s t : List UInt8), cmpL (p ++ s) (p ++ t) = cmpL s t
 | [], _, _ => rfl
 | c :: p, s, t => by rw [List.cons_append, List.cons_append, cmpL, if_pos rfl, cmpL_append p s t]
def Tail (s : List UInt8) : Prop := s = [] ∨ ∃ r, s = 47 :: r
theorem rank_pos {c : UInt8} (h : c ≠ 47) : rankI c = (c.toNat : Int) := by rw [rankI, if_neg h]
theorem rank_slash : rankI 47 = -1 := by unfold rankI; simp
theorem cmpL_names : ∀ (x y s t : List UInt8), Free 47 x → Free 47 y → Tail s → Tail t → x ≠ y → cmpL (x ++ s) (y ++ t) = Lib.compareBytes x y
 | [], [], _, _, _, _, _, _, h => absurd rfl h
 | [], d :: y, s, t, _, hy, hs, _, _ => by
  have hd := hy d (List.mem_cons_self ..)
  have e : Lib.compareBytes [] (d :: y) = -1 := rfl
  rw [e, List.nil_append, List.cons_append]
  rcases hs with rfl | ⟨r, rfl⟩
  ·rfl
  ·rw [cmpL, if_neg fun e => hd e.symm, rank_slash, rank_pos hd, Lib.compareInt, if_pos (by omega)]
 | c :: x, [], s, t, hx, _, _, ht, _ => by
  have hc := hx c (List.mem_cons_self ..)
  have e : Lib.compareBytes (c :: x) [] = 1 := rfl
  rw [e, List.nil_append, List.cons_append]
  rcases ht with rfl | ⟨r, rfl⟩
  ·rfl
  ·rw [cmpL, if_neg hc, rank_slash, rank_pos hc, Lib.compareInt, if_neg (by omega), if_pos (by omega)]
 | c :: x, d :: y, s, t, hx, hy, hs, ht, h => by
  have hc := hx c (List.mem_cons_self ..)
  have hd := hy d (List.mem_cons_self ..)
  rw [List.cons_append, List.cons_append, cmpL]
  by_cases e : c = d
  ·subst e
   rw [if_pos rfl, cmpL_names x y s t (fun b hb => hx b (List.mem_cons_of_mem _ hb)) (fun b hb => hy b (List.mem_cons_of_mem _ hb)) hs ht fun e => h (by rw [e])]
   rw [Lib.compareBytes]
   simp
  ·rw [if_neg e, rank_pos hc, rank_pos hd, Lib.compareBytes, Lib.compareInt]
   have hne : c.toNat ≠ d.toNat := fun h => e (UInt8.toNat_inj.1 h)
   by_cases h1 : c.toNat < d.toNat
   ·rw [if_pos (by omega), if_pos (UInt8.lt_iff_toNat_lt.2 h1)]
   ·rw [if_neg (by omega), if_pos (by omega), if_neg (fun h => h1 (UInt8.lt_iff_toNat_lt.1 h)), if_pos (UInt8.lt_iff_toNat_lt.2 (by omega))]
theorem tail_flat (ps : List (List UInt8)) : Tail (ps.flatMap fun q => 47 :: q) := by
 cases ps with
 | nil => exact .inl rfl
 | cons p ps => exact .inr ⟨p ++ ps.flatMap fun q => 47 :: q, by simp⟩
theorem cmpL_flat : ∀ (xs ys : List (List UInt8)), (∀ x ∈ xs, Free 47 x) → (∀ y ∈ ys, Free 47 y) → cmpL (xs.flatMap fun q => 47 :: q) (ys.flatMap fun q => 47 :: q) = De.cmpN xs ys
 | [], [], _, _ => rfl
 | [], y :: ys, _, _ => rfl
 | x :: xs, [], _, _ => rfl
 | x :: xs, y :: ys, hx, hy => by
  rw [List.flatMap_cons, List.flatMap_cons, List.cons_append, List.cons_append, cmpL, if_pos rfl, De.cmpN]
  by_cases e : x = y
  ·subst e
   rw [if_pos rfl, cmpL_append, cmpL_flat xs ys (fun q hq => hx q (List.mem_cons_of_mem _ hq)) fun q hq => hy q (List.mem_cons_of_mem _ hq)]
  ·rw [if_neg e]
   exact cmpL_names x y _ _ (hx x (List.mem_cons_self ..)) (hy y (List.mem_cons_self ..)) (tail_flat xs) (tail_flat ys) e
theorem joinP_flat (p : List UInt8) (ps : List (List UInt8)) : 47 :: joinP 47 (p :: ps) = (p :: ps).flatMap fun q => 47 :: q := by
 rw [joinP, List.flatMap_cons]
 rfl
theorem flat_pth (xs : List (List UInt8)) : (xs.flatMap fun q => 47 :: q) = De.pth xs := rfl
theorem free_name {l : List UInt8} (h : nameB NameSet l = true) : Free 47 l := fun b hb e => by
 subst e
 unfold nameB at h
 simp only [Bool.and_eq_true] at h
 have h2 := h.2
 unfold allIn at h2
 have := List.all_eq_true.1 h2 47 hb
 exact absurd this (by decide)
theorem path_pth {xs : List (List UInt8)} (h0 : xs ≠ []) (h : ∀ x ∈ xs, nameB NameSet x = true) : isPathB (De.pth xs) = true := by
 cases xs with
 | nil => exact absurd rfl h0
 | cons p ps =>
  rw [← flat_pth, ← joinP_flat, isPathB, pieces_joinP 47 p ps fun q hq => free_name (h q hq)]
  simpa using h
theorem cmpB_pth {xs ys : List (List UInt8)} (hx0 : xs ≠ []) (hy0 : ys ≠ []) (hx : ∀ x ∈ xs, nameB NameSet x = true) (hy : ∀ y ∈ ys, nameB NameSet y = true) : cmpB (De.pth xs) (De.pth ys) = (De.cmpN xs ys, 0) := by
 unfold cmpB
 rw [path_pth hx0 hx, path_pth hy0 hy, Bool.and_self, if_pos rfl, ← flat_pth, ← flat_pth, cmpL_flat xs ys (fun x h => free_name (hx x h)) fun y h => free_name (hy y h)]
end Go.Proofs.YtldcediiobfhiaaGreatDoor.Nm
namespace Go.Proofs.YtldcediiobfhiaaGreatDoor
open Go.RowKit
theorem snd_orig {a : De.ADev} (h : sndA a = true) : Nm.nameB Nm.NameSet a.orig.data.toList = true := by
 have hc : De.checkE (vDev a) a.ats = 0 := of_decide_eq_true h
 unfold De.checkE at hc
 split at hc
 ·cases hc
 split at hc
 ·cases hc
 ·rename_i h1 h2
  have h2 : De.textsB (vDev a) = true := by simpa using h2
  unfold De.textsB at h2
  simp only [Bool.and_eq_true] at h2
  exact h2.2.1
theorem org_names {l : List De.ADev} (hv : De.Valid sndA clA l) {d : De.ADev} (hd : d ∈ l) : ∀ s ∈ De.org l d, Nm.nameB Nm.NameSet s = true := fun s hs => by
 unfold De.org at hs
 rw [List.mem_reverse, List.mem_map] at hs
 obtain ⟨e, he, rfl⟩ := hs
 rcases List.mem_cons.1 he with rfl | he
 ·exact snd_orig (hv.sound _ hd)
 ·exact snd_orig (hv.sound _ (De.up_mem _ _ e he))
theorem trlA_org {L : List De.DV} (hv : De.Valid sndA clA (L.map (·.1))) {x : De.DV} (hx : x ∈ L) : De.trlA De.ADev.orig L x.1 = De.pth (De.org (L.map (·.1)) x.1) := by
 unfold De.trlA
 rw [ancL_fst hv.tidy, hv.up7 (hv.tidy.parent (List.mem_map.2 ⟨x, hx, rfl⟩))]
 exact De.trail_org _ _
theorem ordA_path {L : List De.DV} (hv : De.Valid sndA clA (L.map (·.1))) {x : De.DV} (hx : x ∈ L) {o : ByteArray} {ys : List (List UInt8)} (ho : o.data.toList = De.pth ys) (h0 : ys ≠ []) (hy : ∀ y ∈ ys, Nm.nameB Nm.NameSet y = true) : De.ordA L o x.1 = De.cmpN (De.org (L.map (·.1)) x.1) ys := by
 unfold De.ordA
 rw [trlA_org hv hx, ho, Nm.cmpB_pth (De.org_ne _ _) h0 (org_names hv (List.mem_map.2 ⟨x, hx, rfl⟩)) hy]
end Go.Proofs.YtldcediiobfhiaaGreatDoor
