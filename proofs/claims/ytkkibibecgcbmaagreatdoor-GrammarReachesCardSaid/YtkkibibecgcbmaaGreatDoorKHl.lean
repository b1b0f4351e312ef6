/- GrammarReaches, the plain side. -/
import Derived.Test.YtkkibibecgcbmaaGreatDoorKHh
namespace Go.Proofs.YtkkibibecgcbmaaGreatDoor
open Go.RowKit

def toP (p : List UInt8 × Int × List Tm) : Option (List UInt8) := valO p.2.2 24
def labP (p : List UInt8 × Int × List Tm) : Option (List UInt8) := valO p.2.2 23
theorem staysR_pl (x : RV) (R : List RV) : staysR x R = match toP x.pl with | none => true | some t => (R.map RV.pl).any fun p => labP p == some t := by
  unfold staysR
  rw [show toP x.pl = x.to from rfl]
  cases x.to with
  | none => rfl
  | some t =>
    simp only [List.any_map]
    rfl
theorem linkL_map : ∀ {M K : List RV}, M.map RV.pl = K.map RV.pl → (linkL M).1.map RV.pl = (linkL K).1.map RV.pl ∧ (linkL M).2.map RV.pl = (linkL K).2.map RV.pl
  | [], [], _ => ⟨rfl, rfl⟩
  | [], _ :: _, h => by simp at h
  | _ :: _, [], h => by simp at h
  | x :: M, y :: K, h => by
    simp only [List.map_cons, List.cons.injEq] at h
    obtain ⟨i1, i2⟩ := linkL_map h.2
    have hs : staysR x (linkL M).1 = staysR y (linkL K).1 := by rw [staysR_pl, staysR_pl, h.1, i1]
    rw [linkL, linkL, hs]
    split
    · exact ⟨by simp [h.1, i1], i2⟩
    · exact ⟨i1, by simp [h.1, i2]⟩
/-- What stays stays whole when it is linked again. -/
theorem linkL_fix {L M : List RV} (h : M.map RV.pl = (linkL L).1.map RV.pl) : (linkL M).1.map RV.pl = M.map RV.pl ∧ (linkL M).2 = [] := by
  obtain ⟨h1, h2⟩ := linkL_map h
  rw [linkL_again] at h1 h2
  exact ⟨h1.trans h.symm, by simpa using h2⟩
theorem linkL_reach : ∀ (L : List RV) (i : Nat) (x : RV), (linkL L).1[i]? = some x → staysR x ((linkL L).1.drop (i + 1)) = true
  | [], i, x, h => by simp [linkL] at h
  | r :: L, i, x, h => by
    have ih := linkL_reach L
    rw [linkL] at h ⊢
    split at h
    · rename_i hs
      rw [if_pos hs]
      simp only at h ⊢
      cases i with
      | zero =>
        simp only [List.getElem?_cons_zero, Option.some.injEq] at h
        subst h
        simpa using hs
      | succ i => simpa using ih i x (by simpa using h)
    · rename_i hs
      rw [if_neg hs]
      exact ih i x h
/-- EACH JUMP THAT STAYS HAS ITS LABEL BEHIND IT. -/
theorem reach_of {L M : List RV} (h : M.map RV.pl = (linkL L).1.map RV.pl) {i : Nat} {x : RV} (hx : M[i]? = some x) : staysR x (M.drop (i + 1)) = true := by
  obtain ⟨y, hy, he⟩ : ∃ y, (linkL L).1[i]? = some y ∧ y.pl = x.pl := by
    have := congrArg (fun l => l[i]?) h
    simp only [List.getElem?_map, hx, Option.map_some] at this
    cases hy : (linkL L).1[i]? with
    | none =>
      rw [hy] at this
      simp at this
    | some y =>
      rw [hy] at this
      exact ⟨y, rfl, by simpa using this.symm⟩
  have := linkL_reach L i y hy
  rw [staysR_pl] at this ⊢
  rw [he, List.map_drop, ← h, ← List.map_drop] at this
  exact this
/-- How many rules jump nowhere. -/
def cntN (l : List RV) : Nat := (l.filter fun x => x.to.isNone).length
theorem cntN_cons (x : RV) (l : List RV) : cntN (x :: l) = (if x.to.isNone then 1 else 0) + cntN l := by
  unfold cntN
  rw [List.filter_cons]
  by_cases h : x.to.isNone = true
  · rw [if_pos h, if_pos h, List.length_cons]
    omega
  · rw [if_neg h, if_neg h]
    omega
theorem cntN_pl (l : List RV) : cntN l = ((l.map RV.pl).filter fun p => (toP p).isNone).length := by
  unfold cntN
  rw [List.filter_map, List.length_map]
  rfl
theorem cntN_link : ∀ l : List RV, cntN (linkL l).1 = cntN l
  | [] => rfl
  | r :: l => by
    have ih := cntN_link l
    rw [linkL, cntN_cons]
    split
    · rw [cntN_cons, ih]
    · rename_i hs
      cases ht : r.to with
      | none => exact absurd (by unfold staysR; rw [ht]) hs
      | some t => simpa using ih
theorem cntN_of {L M : List RV} (h : M.map RV.pl = (linkL L).1.map RV.pl) : cntN M = cntN L := by
  rw [cntN_pl M, h, ← cntN_pl, cntN_link]
theorem cntN_snoc {l : List RV} {i : Nat} {x : RV} (h : l[i]? = some x) : cntN (l.take (i + 1)) = cntN (l.take i) + (if x.to.isNone then 1 else 0) := by
  unfold cntN
  rw [List.take_add_one, h, List.filter_append, List.length_append]
  congr 1
  by_cases hx : x.to.isNone = true
  · simp [hx]
  · simp [hx]
theorem cntN_le (l : List RV) : cntN l ≤ l.length := List.length_filter_le _ _
end Go.Proofs.YtkkibibecgcbmaaGreatDoor
