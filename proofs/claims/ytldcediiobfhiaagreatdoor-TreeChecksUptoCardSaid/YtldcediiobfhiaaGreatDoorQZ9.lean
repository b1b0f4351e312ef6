/- Change, on lists: the error, and the list that comes out; of a valid tree it is valid, and every origin stays. Check, on lists: the program's answer by devices alone; of a valid tree there is nothing wrong; what Insert, Remove and Change leave. -/
import Derived.Test.YtldcediiobfhiaaGreatDoorQZ2
import Derived.Test.YtldcediiobfhiaaGreatDoorQZ8
import Derived.Test.YtldcediiobfhiaaGreatDoorQV6
namespace Go.Proofs.YtldcediiobfhiaaGreatDoor
end Go.Proofs.YtldcediiobfhiaaGreatDoor
namespace Go.Proofs.YtldcediiobfhiaaGreatDoor
def chkN (p : List De.ADev) (d : De.ADev) : Int :=
 if sndA d = false then 41 else if (De.fnd p d.idx).isSome = true then 44 else if d.par ≠ 0 ∧ De.fnd p d.par = none then 42
 else if 7 < (De.org p d).length then 46 else if De.endsB p d = false then 43 else if p.any (fun e => clA e d) = true then 44 else 0
def chkLN : List De.ADev → List De.ADev → Int
 | _, [] => 0
 | p, d :: r => if chkN p d ≠ 0 then chkN p d else chkLN (p ++ [d]) r
def treeN (l : List De.ADev) : Int := if 256 < l.length then 40 else chkLN [] l
theorem chkN_zero {p : List De.ADev} {d : De.ADev} : chkN p d = 0 ↔ De.chkAt sndA clA p d = 0 := by
 unfold chkN De.chkAt
 by_cases h1 : sndA d = false
 ·rw [if_pos h1, if_pos h1]
 by_cases h2 : (De.fnd p d.idx).isSome = true
 ·rw [if_neg h1, if_neg h1, if_pos h2, if_pos h2]
  simp
 by_cases h3 : d.par ≠ 0 ∧ De.fnd p d.par = none
 ·rw [if_neg h1, if_neg h1, if_neg h2, if_neg h2, if_pos h3, if_pos h3]
 by_cases h4 : 7 < (De.org p d).length
 ·rw [if_neg h1, if_neg h1, if_neg h2, if_neg h2, if_neg h3, if_neg h3, if_pos h4, if_pos h4]
 by_cases h5 : De.endsB p d = false
 ·rw [if_neg h1, if_neg h1, if_neg h2, if_neg h2, if_neg h3, if_neg h3, if_neg h4, if_neg h4, if_pos h5, if_pos h5]
  simp
 rw [if_neg h1, if_neg h1, if_neg h2, if_neg h2, if_neg h3, if_neg h3, if_neg h4, if_neg h4, if_neg h5, if_neg h5]
 split <;> simp
theorem ends_eq {p : List De.DV} (hv : De.Valid sndA clA (p.map (·.1))) {d : De.ADev} (hs : sndA d = true) (hp : d.par = 0 ∨ ∃ e ∈ p.map (·.1), e.idx = d.par) : De.endsE p (De.orgB p d) = De.endsB (p.map (·.1)) d := by
 unfold De.endsE De.endsB
 rw [List.getLast?_map]
 cases hl : p.getLast? with
 | none => rfl
 | some x =>
  have hx : x ∈ p := List.mem_of_getLast? hl
  simp only [Option.map_some]
  rw [ordA_path hv hx (orgB_new hv hp) (De.org_ne _ _) (org_names2 hv hs)]
theorem next_eq {p : List De.DV} (hv : De.Valid sndA clA (p.map (·.1))) (d : De.Dev) (la : List De.Atr) : De.nextT p d la = chkN (p.map (·.1)) (aOf d la) := by
 unfold De.nextT chkN
 rw [adm_ins hv.tidy]
 cases h1 : sndA (aOf d la) with
 | false => rfl
 | true =>
  rw [if_neg (show ¬ (true = false) by simp), if_neg (show ¬ (true = false) by simp)]
  show (if (if (De.fnd (p.map (·.1)) d.idx).isSome = true then (44 : Int) else if d.par ≠ 0 ∧ De.fnd (p.map (·.1)) d.par = none then 42 else 0) ≠ 0 then _ else _) = (if (De.fnd (p.map (·.1)) d.idx).isSome = true then (44 : Int) else if d.par ≠ 0 ∧ De.fnd (p.map (·.1)) d.par = none then 42 else _)
  cases h2 : (De.fnd (p.map (·.1)) d.idx).isSome with
  | true => rfl
  | false =>
   rw [if_neg (show ¬ (false = true) by simp), if_neg (show ¬ (false = true) by simp)]
   by_cases h3 : d.par ≠ 0 ∧ De.fnd (p.map (·.1)) d.par = none
   ·rw [if_pos h3, if_pos h3]
    rfl
   ·rw [if_neg h3, if_neg h3, if_neg (by simp)]
    have hp : (aOf d la).par = 0 ∨ ∃ e ∈ p.map (·.1), e.idx = (aOf d la).par := De.par_of (d := aOf d la) h3
    have hf : ∀ e ∈ p.map (·.1), e.idx ≠ d.idx := De.fresh_of (by rw [h2]; simp)
    rw [count_new hv h1 hp, ends_eq hv h1 hp, cls_any d la hf]
theorem aof_dev (x : De.DV) : aOf (De.devOf x.1 x.2) x.1.ats = x.1 := rfl
theorem chkG_eq : ∀ (r p : List De.DV), De.Valid sndA clA (p.map (·.1)) → (p ++ r).length ≤ 256 → De.chkG p r = chkLN (p.map (·.1)) (r.map (·.1))
 | [], _, _, _ => rfl
 | x :: r, p, hv, hl => by
  rw [List.map_cons, De.chkG, chkLN, next_eq hv, aof_dev]
  by_cases h : chkN (p.map (·.1)) x.1 = 0
  ·rw [if_neg (by simp [h]), if_neg (by simp [h])]
   have hlen : p.length < 256 := by
    rw [List.length_append, List.length_cons] at hl
    omega
   have h1 := hv.snoc clA_symm (fun d h => snd_num h) (by rw [List.length_map]; exact hlen) (chkN_zero.1 h)
   have h2 := chkG_eq r (p ++ [x]) (by rw [List.map_append]; exact h1) (by rw [List.append_assoc]; exact hl)
   rw [h2, List.map_append]
   rfl
  ·rw [if_pos h, if_pos h]
theorem treeT_eq (l : List De.DV) : De.treeT l = treeN (l.map (·.1)) := by
 unfold De.treeT treeN
 rw [List.length_map]
 by_cases h : 256 < l.length
 ·rw [if_pos h, if_pos h]
 ·rw [if_neg h, if_neg h]
  exact chkG_eq l [] (.nil _ _) (by simpa using h)
end Go.Proofs.YtldcediiobfhiaaGreatDoor
