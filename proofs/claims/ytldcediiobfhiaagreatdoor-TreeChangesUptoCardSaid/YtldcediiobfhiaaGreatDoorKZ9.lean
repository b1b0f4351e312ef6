/- Change, on lists: the error, and the list that comes out; of a valid tree it is valid, and every origin stays. Check, on lists: the program's answer by devices alone; of a valid tree there is nothing wrong; what Insert, Remove and Change leave. -/
import Derived.Test.YtldcediiobfhiaaGreatDoorKZ2
import Derived.Test.YtldcediiobfhiaaGreatDoorKZ8
import Derived.Test.YtldcediiobfhiaaGreatDoorKV6
namespace Go.Proofs.YtldcediiobfhiaaGreatDoor
def chgT (l : List De.ADev) (d : De.ADev) : Int := match De.fnd l d.idx with
 | none => 45
 | some o => if sndA d = false then 41 else if ¬ (o.par = d.par ∧ o.orig = d.orig ∧ o.kind = d.kind) then 42 else if l.any (fun e => e.idx != d.idx && clA e d) then 44 else 0
def chgR (l : List De.ADev) (d : De.ADev) : List De.ADev := if chgT l d = 0 then De.chgL l d else []
theorem chgT_swap {l : List De.ADev} {d : De.ADev} (h : chgT l d = 0) : ∃ o, De.fnd l d.idx = some o ∧ De.Swap sndA clA l o d := by
 unfold chgT at h
 cases hf : De.fnd l d.idx with
 | none => rw [hf] at h; cases h
 | some o =>
  rw [hf] at h
  simp only at h
  split at h
  ·cases h
  ·rename_i hs
   split at h
   ·cases h
   ·rename_i hp
    split at h
    ·cases h
    ·rename_i hc
     obtain ⟨hm, hi⟩ := De.fnd_mem hf
     have hp := Classical.not_not.1 hp
     refine ⟨o, rfl, hm, hi, by simpa using hs, hp.1, hp.2.1, fun e he hne => ?_⟩
     cases hcl : clA e d with
     | false => rfl
     | true => exact absurd (List.any_eq_true.2 ⟨e, he, by rw [hcl]; simpa using hne⟩) hc
/-- In a list in which every Index stands once, the change is at one place. -/
theorem chgL_set {l : List De.ADev} (ht : De.Tidy l) {q : Nat} {x d : De.ADev} (hx : l[q]? = some x) (hi : x.idx = d.idx) : De.chgL l d = l.set q d := by
 refine List.ext_getElem? fun i => ?_
 unfold De.chgL
 rw [List.getElem?_map, List.getElem?_set]
 split
 ·rename_i e
  subst e
  rw [hx, if_pos (List.getElem?_eq_some_iff.1 hx).1]
  simp [hi]
 ·rename_i hne
  cases h : l[i]? with
  | none => rfl
  | some e =>
   simp only [Option.map_some, Option.some.injEq]
   rw [if_neg fun he => hne (De.uniq_at ht.uniq hx h (hi.trans he.symm)).1]
theorem chgT_at {l : List De.ADev} (ht : De.Tidy l) {q : Nat} {x d : De.ADev} (hx : l[q]? = some x) (hi : x.idx = d.idx) : chgT l d = if sndA d = false then 41 else if ¬ (x.par = d.par ∧ x.orig = d.orig ∧ x.kind = d.kind) then 42 else if l.any (fun e => e.idx != d.idx && clA e d) then 44 else 0 := by
 unfold chgT
 rw [← hi, De.fnd_at ht.uniq hx]
theorem cls_any2 {L : List De.DV} (d : De.Dev) (la : List De.Atr) : De.clsB L d = (L.map (·.1)).any fun e => e.idx != (aOf d la).idx && clA e (aOf d la) := by
 unfold De.clsB
 rw [List.any_map]
 refine any_congr2 fun x _ => ?_
 simp only [Function.comp]
 exact congrArg (x.1.idx != d.idx && ·) ((clash_cl (aOf d la, d.av) (De.devOf x.1 x.2) x.1.ats).trans (clA_symm _ _))
end Go.Proofs.YtldcediiobfhiaaGreatDoor
namespace Go.Proofs.YtldcediiobfhiaaGreatDoor
end Go.Proofs.YtldcediiobfhiaaGreatDoor
