/- What leftOut does, on lists: it goes backwards. -/
import Derived.Test.YtkkibibecgcbmaaGreatDoorKHh
namespace Go.Proofs.YtkkibibecgcbmaaGreatDoor
open Go.RowKit

theorem cntK_cons (t : Tm) (l : List Tm) (k : Int) : cntK (t :: l) k = (if t.key = k then 1 else 0) + cntK l k := by
  unfold cntK
  rw [List.filter_cons]
  by_cases h : t.key = k
  · simp [h]
    omega
  · simp [h]
theorem cntK_none {l : List Tm} {k : Int} (h : cntK l k = 0) : ∀ t ∈ l, t.key ≠ k := fun t ht he => by
  unfold cntK at h
  have := List.length_eq_zero_iff.1 h
  rw [List.filter_eq_nil_iff] at this
  exact this t ht (by simp [he])
/-- With at most one GOTO: does the rule jump to no label? -/
theorem lost_eq (f : List UInt8 → Bool) : ∀ {l : List Tm}, cntK l 24 ≤ 1 → l.any (lostP f) = match valO l 24 with | none => false | some v => !f v
  | [], _ => rfl
  | t :: l, h => by
    rw [cntK_cons] at h
    rw [List.any_cons]
    unfold valO
    rw [List.find?_cons]
    by_cases hk : t.key = 24
    · rw [if_pos hk] at h
      have hn := cntK_none (l := l) (k := 24) (by omega)
      have : l.any (lostP f) = false := by
        rw [List.any_eq_false]
        intro x hx
        have := hn x hx
        simp [lostP, this]
      rw [this]
      simp [hk, lostP]
    · rw [if_neg hk] at h
      have ih := lost_eq f (l := l) (by omega)
      unfold valO at ih
      have hkb : (t.key == 24) = false := by simpa using hk
      rw [ih]
      simp only [hkb, lostP, Bool.false_and, Bool.false_or]
/-- With at most one LABEL: is this its label? -/
theorem labl_eq (s : List UInt8) : ∀ {l : List Tm}, cntK l 23 ≤ 1 → (l.any fun t => t.key == 23 && t.val == s) = (valO l 23 == some s)
  | [], _ => rfl
  | t :: l, h => by
    rw [cntK_cons] at h
    rw [List.any_cons]
    unfold valO
    rw [List.find?_cons]
    by_cases hk : t.key = 23
    · rw [if_pos hk] at h
      have hn := cntK_none (l := l) (k := 23) (by omega)
      have : (l.any fun t => t.key == 23 && t.val == s) = false := by
        rw [List.any_eq_false]
        intro x hx
        have := hn x hx
        simp [this]
      rw [this]
      simp [hk]
    · rw [if_neg hk] at h
      have ih := labl_eq s (l := l) (by omega)
      unfold valO at ih
      have hkb : (t.key == 23) = false := by simpa using hk
      rw [ih]
      simp only [hkb, Bool.false_and, Bool.false_or]
/-- The labels of a list of rules. -/
def labF (R : List RV) (s : List UInt8) : Bool := R.any fun q => q.lab == some s
theorem lost_stays {x : RV} (h : TermsOk x.l) (R : List RV) : x.l.any (lostP (labF R)) = !staysR x R := by
  rw [lost_eq _ (by have := h.2.2.2; omega)]
  unfold staysR RV.to
  cases valO x.l 24 <;> rfl
/-- One rule of leftOut: the labels so far, and what is left out so far. -/
def stepO (S : (List UInt8 → Bool) × List Bool) (p : Nat × RV) : (List UInt8 → Bool) × List Bool :=
  if p.2.l.any (lostP S.1) then (S.1, S.2.set p.1 true) else (fun s => (p.2.l.any fun t => t.key == 23 && t.val == s) || S.1 s, S.2.set p.1 false)
/-- The rules with their places, from the last to place k. -/
def backL (L : List RV) : Nat → List (Nat × RV)
  | 0 => []
  | j + 1 => backL L j ++ (match L[L.length - 1 - j]? with | some x => [(L.length - 1 - j, x)] | none => [])
theorem back_fold {L : List RV} (hL : ∀ x ∈ L, TermsOk x.l) : ∀ j, j ≤ L.length → (backL L j).foldl stepO (fun _ => false, List.replicate L.length false) = (labF (linkL (L.drop (L.length - j))).1, List.replicate (L.length - j) false ++ outL (L.drop (L.length - j)))
  | 0, _ => by
    rw [Nat.sub_zero, List.drop_length]
    simp only [backL, List.foldl_nil, outL, List.append_nil]
    rfl
  | j + 1, hj => by
    have ih := back_fold hL j (by omega)
    have hi : L.length - 1 - j < L.length := by omega
    have e1 : L.length - j = (L.length - 1 - j) + 1 := by omega
    have e2 : L.length - (j + 1) = L.length - 1 - j := by omega
    obtain ⟨x, hx⟩ : ∃ x, L[L.length - 1 - j]? = some x := ⟨_, List.getElem?_eq_getElem hi⟩
    rw [backL, hx]
    simp only
    rw [List.foldl_append, ih, e2]
    generalize L.length - 1 - j = i at *
    have hd : L.drop i = x :: L.drop (L.length - j) := by
      rw [e1]
      obtain ⟨h1, h2⟩ := List.getElem?_eq_some_iff.1 hx
      rw [List.drop_eq_getElem_cons h1, h2]
    have ht := hL x (List.mem_of_getElem? hx)
    rw [hd]
    generalize L.drop (L.length - j) = R at *
    simp only [List.foldl_cons, List.foldl_nil]
    have hset : ∀ b, (List.replicate (L.length - j) false ++ outL R).set i b = List.replicate i false ++ b :: outL R := fun b => by
      rw [e1, List.replicate_succ', List.append_assoc]
      rw [List.set_append]
      simp
    unfold stepO
    simp only
    rw [lost_stays ht, hset, hset, linkL, outL]
    cases hs : staysR x (linkL R).1
    · simp
    · simp only [Bool.not_true, Bool.false_eq_true, if_false, if_true]
      refine Prod.ext ?_ rfl
      funext s
      show _ = labF (x :: (linkL R).1) s
      unfold labF
      rw [List.any_cons]
      have := labl_eq s (l := x.l) (by have := ht.2.2.2; omega)
      simp only [this]
      rfl
/-- WHAT leftOut LEAVES BEHIND IT. -/
theorem back_all {L : List RV} (hL : ∀ x ∈ L, TermsOk x.l) : ((backL L L.length).foldl stepO (fun _ => false, List.replicate L.length false)).2 = outL L := by
  rw [back_fold hL L.length (Nat.le_refl _), Nat.sub_self, List.drop_zero]
  rfl
end Go.Proofs.YtkkibibecgcbmaaGreatDoor
