/- Change, on lists: the error, and the list that comes out; of a valid tree it is valid, and every origin stays. Check, on lists: the program's answer by devices alone; of a valid tree there is nothing wrong; what Insert, Remove and Change leave. -/
import Derived.Test.YtldcediiobfhiaaGreatDoorKZ2
import Derived.Test.YtldcediiobfhiaaGreatDoorKZ8
import Derived.Test.YtldcediiobfhiaaGreatDoorKV6
namespace Go.Proofs.YtldcediiobfhiaaGreatDoor
def chgT (l : List De.ADev) (d : De.ADev) : Int := match De.fnd l d.idx with
 | none => 45
 | some o => if sndA d = false then 41 else if ¬ (o.par = d.par ∧ o.orig = d.orig ∧ o.kind = d.kind) then 42 else if l.any (fun e => e.idx != d.idx && clA e d) then 44 else 0
def chgR (l : List De.ADev) (d : De.ADev) : List De.ADev := if chgT l d = 0 then De.chgL l d else []
theorem chgT_swap {l : List De.ADev} {d : De.ADev} (h : chgT l d = 0) : ∃ o, De.fnd l d.idx = some o ∧ De.Swap sndA clA l o d := by
 unfold chgT at h
 cases hf : De.fnd l d.idx with
 | none => rw [hf] at h; cases h
 | some o =>
  rw [hf] at h
  simp only at h
  split at h
  ·cases h
  ·rename_i hs
   split at h
   ·cases h
   ·rename_i hp
    split at h
    ·cases h
    ·rename_i hc
     obtain ⟨hm, hi⟩ := De.fnd_mem hf
     have hp := Classical.not_not.1 hp
     refine ⟨o, rfl, hm, hi, by simpa using hs, hp.1, hp.2.1, fun e he hne => ?_⟩
     cases hcl : clA e d with
     | false => rfl
     | true => exact absurd (List.any_eq_true.2 ⟨e, he, by rw [hcl]; simpa using hne⟩) hc
theorem chgT_valid {l : List De.ADev} {d : De.ADev} (hv : De.Valid sndA clA l) (h : chgT l d = 0) : De.Valid sndA clA (De.chgL l d) := by
 obtain ⟨o, -, hs⟩ := chgT_swap h
 exact hv.chg clA_symm hs
/-- In a list in which every Index stands once, the change is at one place. -/
theorem chgL_set {l : List De.ADev} (ht : De.Tidy l) {q : Nat} {x d : De.ADev} (hx : l[q]? = some x) (hi : x.idx = d.idx) : De.chgL l d = l.set q d := by
 refine List.ext_getElem? fun i => ?_
 unfold De.chgL
 rw [List.getElem?_map, List.getElem?_set]
 split
 ·rename_i e
  subst e
  rw [hx, if_pos (List.getElem?_eq_some_iff.1 hx).1]
  simp [hi]
 ·rename_i hne
  cases h : l[i]? with
  | none => rfl
  | some e =>
   simp only [Option.map_some, Option.some.injEq]
   rw [if_neg fun he => hne (De.uniq_at ht.uniq hx h (hi.trans he.symm)).1]
theorem chgT_at {l : List De.ADev} (ht : De.Tidy l) {q : Nat} {x d : De.ADev} (hx : l[q]? = some x) (hi : x.idx = d.idx) : chgT l d = if sndA d = false then 41 else if ¬ (x.par = d.par ∧ x.orig = d.orig ∧ x.kind = d.kind) then 42 else if l.any (fun e => e.idx != d.idx && clA e d) then 44 else 0 := by
 unfold chgT
 rw [← hi, De.fnd_at ht.uniq hx]
theorem cls_any2 {L : List De.DV} (d : De.Dev) (la : List De.Atr) : De.clsB L d = (L.map (·.1)).any fun e => e.idx != (aOf d la).idx && clA e (aOf d la) := by
 unfold De.clsB
 rw [List.any_map]
 refine any_congr2 fun x _ => ?_
 simp only [Function.comp]
 exact congrArg (x.1.idx != d.idx && ·) ((clash_cl (aOf d la, d.av) (De.devOf x.1 x.2) x.1.ats).trans (clA_symm _ _))
end Go.Proofs.YtldcediiobfhiaaGreatDoor
namespace Go.Proofs.YtldcediiobfhiaaGreatDoor
def chkN (p : List De.ADev) (d : De.ADev) : Int :=
 if sndA d = false then 41 else if (De.fnd p d.idx).isSome = true then 44 else if d.par ≠ 0 ∧ De.fnd p d.par = none then 42
 else if 7 < (De.org p d).length then 46 else if De.endsB p d = false then 43 else if p.any (fun e => clA e d) = true then 44 else 0
def chkLN : List De.ADev → List De.ADev → Int
 | _, [] => 0
 | p, d :: r => if chkN p d ≠ 0 then chkN p d else chkLN (p ++ [d]) r
def treeN (l : List De.ADev) : Int := if 256 < l.length then 40 else chkLN [] l
theorem chkN_zero {p : List De.ADev} {d : De.ADev} : chkN p d = 0 ↔ De.chkAt sndA clA p d = 0 := by
 unfold chkN De.chkAt
 by_cases h1 : sndA d = false
 ·rw [if_pos h1, if_pos h1]
 by_cases h2 : (De.fnd p d.idx).isSome = true
 ·rw [if_neg h1, if_neg h1, if_pos h2, if_pos h2]
  simp
 by_cases h3 : d.par ≠ 0 ∧ De.fnd p d.par = none
 ·rw [if_neg h1, if_neg h1, if_neg h2, if_neg h2, if_pos h3, if_pos h3]
 by_cases h4 : 7 < (De.org p d).length
 ·rw [if_neg h1, if_neg h1, if_neg h2, if_neg h2, if_neg h3, if_neg h3, if_pos h4, if_pos h4]
 by_cases h5 : De.endsB p d = false
 ·rw [if_neg h1, if_neg h1, if_neg h2, if_neg h2, if_neg h3, if_neg h3, if_neg h4, if_neg h4, if_pos h5, if_pos h5]
  simp
 rw [if_neg h1, if_neg h1, if_neg h2, if_neg h2, if_neg h3, if_neg h3, if_neg h4, if_neg h4, if_neg h5, if_neg h5]
 split <;> simp
theorem ends_eq {p : List De.DV} (hv : De.Valid sndA clA (p.map (·.1))) {d : De.ADev} (hs : sndA d = true) (hp : d.par = 0 ∨ ∃ e ∈ p.map (·.1), e.idx = d.par) : De.endsE p (De.orgB p d) = De.endsB (p.map (·.1)) d := by
 unfold De.endsE De.endsB
 rw [List.getLast?_map]
 cases hl : p.getLast? with
 | none => rfl
 | some x =>
  have hx : x ∈ p := List.mem_of_getLast? hl
  simp only [Option.map_some]
  rw [ordA_path hv hx (orgB_new hv hp) (De.org_ne _ _) (org_names2 hv hs)]
theorem next_eq {p : List De.DV} (hv : De.Valid sndA clA (p.map (·.1))) (d : De.Dev) (la : List De.Atr) : De.nextT p d la = chkN (p.map (·.1)) (aOf d la) := by
 unfold De.nextT chkN
 rw [adm_ins hv.tidy]
 cases h1 : sndA (aOf d la) with
 | false => rfl
 | true =>
  rw [if_neg (show ¬ (true = false) by simp), if_neg (show ¬ (true = false) by simp)]
  show (if (if (De.fnd (p.map (·.1)) d.idx).isSome = true then (44 : Int) else if d.par ≠ 0 ∧ De.fnd (p.map (·.1)) d.par = none then 42 else 0) ≠ 0 then _ else _) = (if (De.fnd (p.map (·.1)) d.idx).isSome = true then (44 : Int) else if d.par ≠ 0 ∧ De.fnd (p.map (·.1)) d.par = none then 42 else _)
  cases h2 : (De.fnd (p.map (·.1)) d.idx).isSome with
  | true => rfl
  | false =>
   rw [if_neg (show ¬ (false = true) by simp), if_neg (show ¬ (false = true) by simp)]
   by_cases h3 : d.par ≠ 0 ∧ De.fnd (p.map (·.1)) d.par = none
   ·rw [if_pos h3, if_pos h3]
    rfl
   ·rw [if_neg h3, if_neg h3, if_neg (by simp)]
    have hp : (aOf d la).par = 0 ∨ ∃ e ∈ p.map (·.1), e.idx = (aOf d la).par := De.par_of (d := aOf d la) h3
    have hf : ∀ e ∈ p.map (·.1), e.idx ≠ d.idx := De.fresh_of (by rw [h2]; simp)
    rw [count_new hv h1 hp, ends_eq hv h1 hp, cls_any d la hf]
theorem aof_dev (x : De.DV) : aOf (De.devOf x.1 x.2) x.1.ats = x.1 := rfl
theorem chkG_eq : ∀ (r p : List De.DV), De.Valid sndA clA (p.map (·.1)) → (p ++ r).length ≤ 256 → De.chkG p r = chkLN (p.map (·.1)) (r.map (·.1))
 | [], _, _, _ => rfl
 | x :: r, p, hv, hl => by
  rw [List.map_cons, De.chkG, chkLN, next_eq hv, aof_dev]
  by_cases h : chkN (p.map (·.1)) x.1 = 0
  ·rw [if_neg (by simp [h]), if_neg (by simp [h])]
   have hlen : p.length < 256 := by
    rw [List.length_append, List.length_cons] at hl
    omega
   have h1 := hv.snoc clA_symm (fun d h => snd_num h) (by rw [List.length_map]; exact hlen) (chkN_zero.1 h)
   have h2 := chkG_eq r (p ++ [x]) (by rw [List.map_append]; exact h1) (by rw [List.append_assoc]; exact hl)
   rw [h2, List.map_append]
   rfl
  ·rw [if_pos h, if_pos h]
theorem treeT_eq (l : List De.DV) : De.treeT l = treeN (l.map (·.1)) := by
 unfold De.treeT treeN
 rw [List.length_map]
 by_cases h : 256 < l.length
 ·rw [if_pos h, if_pos h]
 ·rw [if_neg h, if_neg h]
  exact chkG_eq l [] (.nil _ _) (by simpa using h)
theorem chkLN_zero : ∀ (r p : List De.ADev), chkLN p r = 0 ↔ De.chkL sndA clA p r = 0
 | [], _ => Iff.rfl
 | d :: r, p => by
  rw [chkLN, De.chkL]
  by_cases h : chkN p d = 0
  ·rw [if_neg (by simp [h]), if_pos (chkN_zero.1 h)]
   exact chkLN_zero r (p ++ [d])
  ·rw [if_pos h, if_neg (fun e => h (chkN_zero.2 e))]
   exact chkN_zero
theorem treeN_zero (l : List De.ADev) : treeN l = 0 ↔ De.Valid sndA clA l := by
 rw [← De.treeE_valid clA_symm (fun d h => snd_num h)]
 unfold treeN De.treeE
 by_cases h : 256 < l.length
 ·rw [if_pos h, if_pos h]
 ·rw [if_neg h, if_neg h]
  exact chkLN_zero l []
theorem treeT_valid {l : List De.DV} (hv : De.Valid sndA clA (l.map (·.1))) : De.treeT l = 0 := by
 rw [treeT_eq]
 exact (treeN_zero _).2 hv
/-- What stays in a tree keeps its origin. -/
structure StOk (A B : List De.ADev) : Prop where
 v : De.Valid sndA clA B
 o : ∀ a ∈ A, ∀ b ∈ B, b.idx = a.idx → De.org B b = De.org A a
theorem st_ins {A : List De.ADev} {d : De.ADev} (hv : De.Valid sndA clA A) (h : insT A d = 0) : StOk A (insR A d) := by
 unfold insR
 rw [if_pos h]
 have hf := insT_fits h
 have hv2 := insT_valid hv h
 refine ⟨hv2, fun a ha b hb he => ?_⟩
 obtain rfl : b = a := De.uniq_mem hv2.tidy hb (De.mem_insL.2 (.inr ha)) he
 exact hf.org_old hv.tidy ha
theorem st_rem {A : List De.ADev} (hv : De.Valid sndA clA A) (n : Int) : StOk A (De.remL A n) := by
 have hv2 := hv.rem n
 refine ⟨hv2, fun a ha b hb he => ?_⟩
 have hbA := (De.mem_remL.1 hb).1
 obtain rfl : b = a := De.uniq_mem hv.tidy hbA ha he
 exact De.part_org hv.tidy hv2.tidy (fun e he => (De.mem_remL.1 he).1) hb
theorem st_chg {A : List De.ADev} {d : De.ADev} (hv : De.Valid sndA clA A) (h : chgT A d = 0) : StOk A (chgR A d) := by
 unfold chgR
 rw [if_pos h]
 obtain ⟨o, -, hs⟩ := chgT_swap h
 refine ⟨chgT_valid hv h, fun a ha b hb he => ?_⟩
 obtain ⟨e, he2, rfl⟩ := List.mem_map.1 hb
 rw [De.chg_idx] at he
 obtain rfl : e = a := De.uniq_mem hv.tidy he2 ha he
 exact De.chg_org hv.tidy hs ha
theorem rem_list {L : List De.DV} {n : Int} (h : remE L n = 0) : (remR L n).map (·.1) = De.remL (L.map (·.1)) n := by
 unfold remR
 unfold remE at h
 split at h
 ·rename_i hs
  rw [if_pos hs]
  exact De.filter_fst L (fun x => !((De.ups (L.map (·.1)) x.idx).any fun a => a.idx == n))
 ·cases h
theorem chgR_mem {A : List De.ADev} {d e : De.ADev} (h : e ∈ chgR A d) : e = d ∨ e ∈ A := by
 unfold chgR at h
 split at h
 ·obtain ⟨a, ha, rfl⟩ := List.mem_map.1 h
  split
  ·exact .inl rfl
  ·exact .inr ha
 ·cases h
theorem insR_mem2 {A : List De.ADev} {d e : De.ADev} (h : e ∈ insR A d) : e = d ∨ e ∈ A := by
 unfold insR at h
 split at h
 ·exact De.mem_insL.1 h
 ·cases h
end Go.Proofs.YtldcediiobfhiaaGreatDoor
