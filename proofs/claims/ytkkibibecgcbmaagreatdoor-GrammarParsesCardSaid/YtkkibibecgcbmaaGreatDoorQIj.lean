/- Ij -/
import Derived.Test.YtkkibibecgcbmaaGreatDoorQIh
import Derived.Test.YtkkibibecgcbmaaGreatDoorQI
namespace Go.Proofs.YtkkibibecgcbmaaGreatDoor
open Go.RowKit
def lastP (l : List (List UInt8)) (s : List UInt8) : Nat → Int
 | 0 => 0
 | n + 1 => if 1 ≤ n ∧ l[n]? = some s then (n : Int) else lastP l s n
theorem lastP_one (l : List (List UInt8)) (s : List UInt8) : lastP l s 1 = 0 := by
 unfold lastP
 rw [if_neg (fun x => absurd x.1 (by decide))]
 rfl
theorem lastP_no {l : List (List UInt8)} {s : List UInt8} (h : s ∉ l) : ∀ n, lastP l s n = 0
 | 0 => rfl
 | n + 1 => by
  unfold lastP
  rw [if_neg (fun x => h (List.mem_of_getElem? x.2)), lastP_no h n]
theorem posI_no {l : List (List UInt8)} {s : List UInt8} (h : s ∉ l) : posI l s = -1 := by
 unfold posI
 rw [List.findIdx?_eq_none_iff.2 (fun x hx => by
  rw [beq_eq_false_iff_ne]
  rintro rfl
  exact h hx)]
def tR (x : Lx.Tok) : Tm := ⟨lastP keysG x.key 25, x.name, lastP opsG x.op 7, x.val⟩
theorem lastK_all : keysG.all (fun s => lastP keysG s 25 == posI keysG s) = true := by decide +kernel
theorem lastO_all : opsG.all (fun s => lastP opsG s 7 == posI opsG s) = true := by decide +kernel
theorem lastK (s : List UInt8) : lastP keysG s 25 = posI keysG s ∨ (lastP keysG s 25 = 0 ∧ posI keysG s = -1) := by
 by_cases h : s ∈ keysG
 ·left
  simpa using List.all_eq_true.1 lastK_all s h
 ·exact .inr ⟨lastP_no h _, posI_no h⟩
theorem lastO (s : List UInt8) : lastP opsG s 7 = posI opsG s ∨ (lastP opsG s 7 = 0 ∧ posI opsG s = -1) := by
 by_cases h : s ∈ opsG
 ·left
  simpa using List.all_eq_true.1 lastO_all s h
 ·exact .inr ⟨lastP_no h _, posI_no h⟩
theorem opT_pos (k : Int) : (opT k).contains 0 = false ∧ (opT k).contains (-1) = false := by
 unfold opT
 repeat' split
 all_goals exact ⟨by decide, by decide⟩
theorem termE_tR (x : Lx.Tok) : termE (tR x) = termE (termOf x) ∧ (termE (termOf x) = 0 → tR x = termOf x) ∧ ∀ c : Int, 1 ≤ c → (((tR x).key = c) ↔ ((termOf x).key = c)) := by
 have hk := lastK x.key
 have ho := lastO x.op
 unfold tR termOf
 obtain ⟨q1, q2⟩ := opT_pos (posI keysG x.key)
 generalize posI keysG x.key = pk at *
 generalize posI opsG x.op = po at *
 generalize lastP keysG x.key 25 = lk at *
 generalize lastP opsG x.op 7 = lo at *
 rcases hk with rfl | ⟨rfl, rfl⟩
 ·rcases ho with rfl | ⟨rfl, rfl⟩
  ·exact ⟨rfl, fun _ => rfl, fun _ _ => Iff.rfl⟩
  ·refine ⟨?_, ?_, fun _ _ => Iff.rfl⟩
   ·unfold termE
    simp only [q1, q2]
    repeat' split
    all_goals first | rfl | contradiction
   ·intro h
    exfalso
    have := (termE_zero h).2.2.1
    simp at this
 ·refine ⟨?_, ?_, fun c hc => ⟨fun h => by simp only at h; omega, fun h => by simp only at h; omega⟩⟩
  ·unfold termE
   rw [if_pos (.inl (by simp)), if_pos (.inl (by simp))]
  ·intro h
   exfalso
   have := (termE_zero h).1
   simp at this
theorem firstE_tR : ∀ l : List Lx.Tok, firstE (l.map tR) = firstE (l.map termOf)
 | [] => rfl
 | x :: l => by
  rw [List.map_cons, List.map_cons, firstE, firstE, (termE_tR x).1, firstE_tR l]
theorem cntK_tR (c : Int) (hc : 1 ≤ c) : ∀ l : List Lx.Tok, cntK (l.map tR) c = cntK (l.map termOf) c
 | [] => rfl
 | x :: l => by
  have ih := cntK_tR c hc l
  unfold cntK at ih ⊢
  rw [List.map_cons, List.map_cons, List.filter_cons, List.filter_cons]
  by_cases h : (termOf x).key = c
  ·have h2 := ((termE_tR x).2.2 c hc).2 h
   rw [if_pos (by simpa using h2), if_pos (by simpa using h)]
   simp only [List.length_cons]
   omega
  ·have h2 : ¬ (tR x).key = c := fun e => h (((termE_tR x).2.2 c hc).1 e)
   rw [if_neg (by simpa using h2), if_neg (by simpa using h)]
   exact ih
theorem checkE_tR (l : List Lx.Tok) : checkE (l.map tR) = checkE (l.map termOf) := by
 unfold checkE
 rw [firstE_tR, cntK_tR 23 (by decide), cntK_tR 24 (by decide), List.length_map, List.length_map]
 cases l <;> rfl
theorem map_tR {l : List Lx.Tok} (h : checkE (l.map termOf) = 0) : l.map tR = l.map termOf := by
 obtain ⟨_, h2⟩ := checkE_zero h
 exact List.map_congr_left fun x hx => (termE_tR x).2.1 (h2 _ (List.mem_map.2 ⟨x, hx, rfl⟩))
theorem lastP_yes {l : List (List UInt8)} {s : List UInt8} {k : Nat} (h1 : 1 ≤ k) (h : l[k]? = some s) : lastP l s (k + 1) = (k : Int) := by
 rw [lastP, if_pos ⟨h1, h⟩]
theorem lastP_skip {l : List (List UInt8)} {s : List UInt8} {k : Nat} (h : l[k]? ≠ some s) : lastP l s (k + 1) = lastP l s k := by
 rw [lastP, if_neg (fun x => h x.2)]
end Go.Proofs.YtkkibibecgcbmaaGreatDoor
