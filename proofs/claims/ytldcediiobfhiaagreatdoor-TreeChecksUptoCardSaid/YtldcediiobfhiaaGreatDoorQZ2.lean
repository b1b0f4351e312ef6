/- Insert, where it says no error. Insert of the program and of the reference answer the same, on lists. Insert of the program into a valid tree. -/
import Derived.Test.YtldcediiobfhiaaGreatDoorQV6
import Derived.Test.YtldcediiobfhiaaGreatDoorQZ1
import Derived.Test.YtldcediiobfhiaaGreatDoorQU4
import Derived.Test.YtldcediiobfhiaaGreatDoorQSe
namespace Go.Proofs.YtldcediiobfhiaaGreatDoor.De
open Go.RowKit Go.Maps
theorem box_set1 {w : World} {g : Nat} {v : Value} (h : w.heap[g]? = some (.cells #[v] 29 (0, 0))) (u : Value) : (w.setCell ⟨g, 0, none⟩ u).heap[g]? = some (.cells #[u] 29 (0, 0)) := by
 show (w.heap.modify g _)[g]? = _
 rw [Array.getElem?_modify, if_pos rfl, h]
 rfl
theorem DIn.below {W W' : World} {B : Nat} {v : Value} {L : List DV} (h : DIn W B v L) (hb : Below W.heap.size W W') : DIn W' B v L :=
 ⟨(DOwn.keep (⟨h.row, h.ats⟩ : DOwn W B v L) hb).row, fun x hx => (h.ats x hx).below hb, h.ne⟩
end Go.Proofs.YtldcediiobfhiaaGreatDoor.De
namespace Go.Proofs.YtldcediiobfhiaaGreatDoor
open Go.RowKit
theorem last_fnd {l : List De.ADev} (ht : De.Tidy l) (n : Int) : (De.lastI l n).isSome = (De.fnd l n).isSome := by
 rw [De.lastI_fnd ht n]
 cases hp : De.lastI l n with
 | none => rfl
 | some p =>
  obtain ⟨a, ha, -⟩ := De.lastI_some hp
  show true = (l[p]?).isSome
  rw [ha]
  rfl
theorem snd_chk (d : De.Dev) (la : List De.Atr) : sndA (aOf d la) = decide (De.checkE d la = 0) := rfl
theorem adm_ins {l : List De.ADev} (ht : De.Tidy l) (d : De.Dev) (la : List De.Atr) : De.admT l d la = if sndA (aOf d la) = false then 41 else if (De.fnd l d.idx).isSome then 44 else if d.par ≠ 0 ∧ De.fnd l d.par = none then 42 else 0 := by
 unfold De.admT
 rw [last_fnd ht, last_fnd ht, snd_chk]
 by_cases h1 : De.checkE d la = 0
 ·rw [if_neg (fun h => h h1), if_neg (show ¬ (decide (De.checkE d la = 0) = false) by simp [h1])]
  cases h2 : (De.fnd l d.idx).isSome with
  | true => rfl
  | false =>
   rw [if_neg (show ¬ (false = true) by simp), if_neg (show ¬ (false = true) by simp)]
   cases h3 : De.fnd l d.par <;> simp
 ·rw [if_pos h1, if_pos (show decide (De.checkE d la = 0) = false by simp [h1])]
theorem any_congr2 {α : Type} {p q : α → Bool} : ∀ {l : List α}, (∀ x ∈ l, p x = q x) → l.any p = l.any q
 | [], _ => rfl
 | a :: l, h => by
  rw [List.any_cons, List.any_cons, h a (List.mem_cons_self ..), any_congr2 fun x hx => h x (List.mem_cons_of_mem _ hx)]
theorem org_names2 {l : List De.ADev} (hv : De.Valid sndA clA l) {d : De.ADev} (hs : sndA d = true) : ∀ s ∈ De.org l d, Nm.nameB Nm.NameSet s = true := fun s hs2 => by
 unfold De.org at hs2
 rw [List.mem_reverse, List.mem_map] at hs2
 obtain ⟨e, he, rfl⟩ := hs2
 rcases List.mem_cons.1 he with rfl | he
 ·exact snd_orig hs
 ·exact snd_orig (hv.sound _ (De.up_mem _ _ e he))
theorem trlA_new {L : List De.DV} (hv : De.Valid sndA clA (L.map (·.1))) {d : De.ADev} (hp : d.par = 0 ∨ ∃ p ∈ L.map (·.1), p.idx = d.par) : De.trlA De.ADev.orig L d = De.pth (De.org (L.map (·.1)) d) := by
 unfold De.trlA
 rw [ancL_fst hv.tidy, hv.up7 hp]
 exact De.trail_org _ _
/-- A device whose parent is known: its origin as a text. -/
theorem orgB_new {L : List De.DV} (hv : De.Valid sndA clA (L.map (·.1))) {d : De.ADev} (hp : d.par = 0 ∨ ∃ p ∈ L.map (·.1), p.idx = d.par) : (De.orgB L d).data.toList = De.pth (De.org (L.map (·.1)) d) := by
 rw [De.orgB_list, trlA_new hv hp]
theorem count_new {L : List De.DV} (hv : De.Valid sndA clA (L.map (·.1))) {d : De.ADev} (hs : sndA d = true) (hp : d.par = 0 ∨ ∃ p ∈ L.map (·.1), p.idx = d.par) : Lib.countByte (De.orgB L d).data.toList 47 = (De.org (L.map (·.1)) d).length := by
 rw [orgB_new hv hp]
 exact De.pth_count _ fun s hs2 => Nm.free_name (org_names2 hv hs s hs2)
theorem cls_any {L : List De.DV} (d : De.Dev) (la : List De.Atr) (hf : ∀ e ∈ L.map (·.1), e.idx ≠ d.idx) : De.clsB L d = (L.map (·.1)).any fun e => clA e (aOf d la) := by
 unfold De.clsB
 rw [List.any_map]
 refine any_congr2 fun x hx => ?_
 have h1 : (x.1.idx != d.idx) = true := by simpa using hf x.1 (List.mem_map.2 ⟨x, hx, rfl⟩)
 rw [h1, Bool.true_and]
 exact (clash_cl (aOf d la, d.av) (De.devOf x.1 x.2) x.1.ats).trans (clA_symm _ _)
end Go.Proofs.YtldcediiobfhiaaGreatDoor
namespace Go.Proofs.YtldcediiobfhiaaGreatDoor
open Go.RowKit
end Go.Proofs.YtldcediiobfhiaaGreatDoor
