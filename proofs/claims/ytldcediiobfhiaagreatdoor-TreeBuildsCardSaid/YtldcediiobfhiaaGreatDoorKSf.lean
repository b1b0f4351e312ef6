/- A subtree as a row of neighbours, and origins below an origin. -/
import Derived.Test.YtldcediiobfhiaaGreatDoorKSe
import Derived.Test.YtldcediiobfhiaaGreatDoorKX4
import Derived.Test.YtldcediiobfhiaaGreatDoorKNp
namespace Go.Proofs.YtldcediiobfhiaaGreatDoor
open Go.RowKit
theorem pth_app (a b : List (List UInt8)) : De.pth (a ++ b) = De.pth a ++ De.pth b := by
 rw [← Nm.flat_pth, ← Nm.flat_pth, ← Nm.flat_pth, List.flatMap_append]
/-- The path of names lies beneath another exactly if its names go on. -/
theorem ben_pth {xs ys : List (List UInt8)} (hx : ∀ s ∈ xs, Nm.nameB Nm.NameSet s = true) (hy : ∀ s ∈ ys, Nm.nameB Nm.NameSet s = true) : Nm.benB (De.pth xs) (De.pth ys) = true ↔ (xs <+: ys ∧ xs ≠ ys) := by
 rw [Nm.benB_iff]
 constructor
 ·rintro ⟨r, hr⟩
  have h1 : De.pth ys = De.pth (xs ++ Nm.pieces 47 r) := by rw [pth_app, hr, ← Nm.flat_pth (Nm.pieces 47 r), Nm.pieces_flat_self]
  have h2 : ys = xs ++ Nm.pieces 47 r := De.pth_inj (fun s hs => Nm.free_name (hy s hs)) (fun s hs => by
   rcases List.mem_append.1 hs with h | h
   ·exact Nm.free_name (hx s h)
   ·exact Nm.pieces_free 47 r s h) h1
  have hne : Nm.pieces 47 r ≠ [] := by
   intro e
   have := Nm.pieces_flat_self r
   rw [e] at this
   cases this
  refine ⟨⟨_, h2.symm⟩, fun e => hne ?_⟩
  rw [e] at h2
  have := congrArg List.length h2
  rw [List.length_append] at this
  exact List.eq_nil_of_length_eq_zero (by omega)
 ·rintro ⟨⟨zs, rfl⟩, hne⟩
  cases zs with
  | nil => exact absurd (List.append_nil xs).symm hne
  | cons z zs => exact ⟨z ++ De.pth zs, by rw [pth_app]; rfl⟩
theorem ben_bel {l : List De.ADev} (hv : De.Valid sndA clA l) {d e : De.ADev} (hd : d ∈ l) (he : e ∈ l) : (Nm.benB (De.pth (De.org l d)) (De.pth (De.org l e)) || e.idx == d.idx) = De.bel l e d.idx := by
 rw [Bool.eq_iff_iff, Bool.or_eq_true, ben_pth (org_names hv hd) (org_names hv he), hv.bel_iff hd e he, beq_iff_eq]
 constructor
 ·rintro (⟨h, _⟩ | h)
  ·exact h
  ·rw [De.uniq_mem hv.tidy he hd h]
   exact List.prefix_refl _
 ·intro h
  by_cases e2 : De.org l d = De.org l e
  ·exact .inr (congrArg De.ADev.idx (hv.org_inj he hd e2.symm))
  ·exact .inl ⟨h, e2⟩
theorem ben_self {l : List De.ADev} (hv : De.Valid sndA clA l) {d : De.ADev} (hd : d ∈ l) : Nm.benB (De.pth (De.org l d)) (De.pth (De.org l d)) = false := by
 rw [Bool.eq_false_iff]
 intro h
 exact ((ben_pth (org_names hv hd) (org_names hv hd)).1 h).2 rfl
/-- The subtree stands behind its device. -/
theorem sub_row {l : List De.ADev} (hv : De.Valid sndA clA l) {p : Nat} {d : De.ADev} (hd : l[p]? = some d) : l.filter (fun e => De.bel l e d.idx) = (l.drop p).take (l.filter fun e => De.bel l e d.idx).length := by
 have hp := (List.getElem?_eq_some_iff.1 hd).1
 have hdr : l.drop p = d :: l.drop (p + 1) := by
  rw [List.drop_eq_getElem_cons hp]
  congr 1
  exact (List.getElem?_eq_some_iff.1 hd).2
 have hself := De.bel_self hv.tidy (List.mem_of_getElem? hd)
 have h1 : l.filter (fun e => De.bel l e d.idx) = (l.drop p).takeWhile fun e => De.bel l e d.idx := by
  rw [hv.subtree hd, hdr, List.takeWhile_cons, hself, if_pos rfl]
 rw [h1]
 exact List.prefix_iff_eq_take.1 (List.takeWhile_prefix _)
theorem take_succ_filter {l : List De.ADev} {P : De.ADev → Bool} {i : Nat} {e : De.ADev} (h : l[i]? = some e) : ((l.take (i + 1)).filter P).length = ((l.take i).filter P).length + (if P e then 1 else 0) := by
 rw [List.take_add_one, h, List.filter_append, List.length_append]
 congr 1
 show ([e].filter P).length = _
 rw [List.filter_cons]
 cases P e <;> rfl
theorem got_at {L : List De.DV} {q : Int} {x : De.DV} (h : De.gotL L q = some x) : ∃ p : Nat, L[p]? = some x ∧ x.1.idx = q := by
 unfold De.gotL at h
 cases hp : De.lastI (L.map (·.1)) q with
 | none => rw [hp] at h; cases h
 | some p =>
  rw [hp] at h
  obtain ⟨d, hd, hdq⟩ := De.lastI_some hp
  rw [List.getElem?_map, Option.map_eq_some_iff] at hd
  obtain ⟨y, hy, rfl⟩ := hd
  have : L[p]? = some x := h
  rw [hy] at this
  cases this
  exact ⟨p, hy, hdq⟩
theorem got_none {L : List De.DV} {q : Int} (h : De.gotL L q = none) : De.lastI (L.map (·.1)) q = none := by
 unfold De.gotL at h
 cases hp : De.lastI (L.map (·.1)) q with
 | none => rfl
 | some p =>
  rw [hp] at h
  obtain ⟨d, hd, hdq⟩ := De.lastI_some hp
  rw [List.getElem?_map, Option.map_eq_some_iff] at hd
  obtain ⟨y, hy, rfl⟩ := hd
  have : L[p]? = none := h
  rw [hy] at this
  cases this
/-- The same, with the length said. -/
def LPn (A : List De.ADev) (W : World) (e : Ending) (w' : World) : Prop := ∃ a c L1, e = .returned (.slice a A.length c) ∧ Hid (L1.map (·.1) = A) ∧ Hid (De.DHas w' (.slice a A.length c) L1) ∧ Hid (Kp [] W w')
theorem lpn_of {A : List De.ADev} {W w' : World} {e : Ending} {u : Value} {L1 : List De.DV} (he : e = .returned u) (h1 : L1.map (·.1) = A) (h2 : De.DHas w' u L1) (h3 : Below W.heap.size W w') : LPn A W e w' := by
 obtain ⟨a, c, hu, -⟩ := h2.form
 subst hu
 have hn : L1.length = A.length := by rw [← h1, List.length_map]
 rw [hn] at he h2
 exact ⟨a, c, L1, he, Lib.hid h1, Lib.hid h2, Lib.hid (Kp.of_below h3)⟩
theorem trlO_at {L : List De.DV} (hv : De.Valid sndA clA (L.map (·.1))) {x : De.DV} (hx : x ∈ L) : De.trlO De.ADev.orig L x.1.idx = some (De.pth (De.org (L.map (·.1)) x.1)) := by
 have hm : x.1 ∈ L.map (·.1) := List.mem_map.2 ⟨x, hx, rfl⟩
 have hg := got_fnd hv.tidy x.1.idx
 obtain ⟨i, hi, hd⟩ := List.getElem_of_mem hm
 have hf := De.fnd_at hv.tidy.uniq (i := i) (d := x.1) (by rw [List.getElem?_eq_getElem hi, hd])
 rw [hf] at hg
 obtain ⟨y, hy, hyx⟩ := Option.map_eq_some_iff.1 hg
 have : De.trlO De.ADev.orig L x.1.idx = some (De.trlA De.ADev.orig L y.1) := by
  unfold De.trlO
  rw [hy]
  rfl
 rw [this, hyx, trlA_org hv hx]
theorem org_sz {L : List De.DV} (hv : De.Valid sndA clA (L.map (·.1))) (ho : ∀ x ∈ L, x.1.orig.size ≤ 300) (hn : L.length ≤ 100000) {x : De.DV} (hx : x ∈ L) : (De.pth (De.org (L.map (·.1)) x.1)).length ≤ 4611686018427387904 := by
 have h1 := trl_orig hv x.1.idx
 rw [trlO_at hv hx] at h1
 have h2 := pth_len _ (orgL_mem ho x.1.idx)
 have h3 := orgL_len L x.1.idx
 rw [h1] at h2
 have h4 : ((some (De.pth (De.org (L.map (·.1)) x.1))).getD []).length = (De.pth (De.org (L.map (·.1)) x.1)).length := rfl
 omega
theorem row_of {W : World} {va : Option Addr} {N vc p : Nat} {l : List De.DV} {d : De.DV} (h : De.DHas W (.slice va N vc) l) (hd : l[p]? = some d) : ∃ g o, va = some ⟨g, o, none⟩ ∧ l.length ≤ vc ∧ g < W.heap.size ∧ De.DRow W g o l := by
 obtain ⟨a, c, hv, hr⟩ := h.form
 injection hv with e1 e2 e3
 subst e1
 subst e3
 exact hr (fun e => by rw [e] at hd; simp at hd)
theorem org_path {l : List De.ADev} (hv : De.Valid sndA clA l) {d : De.ADev} (hd : d ∈ l) : Nm.isPathB (De.pth (De.org l d)) = true := Nm.path_pth (De.org_ne _ _) (org_names hv hd)
end Go.Proofs.YtldcediiobfhiaaGreatDoor
