/- The reference's set, on lists of bytes: its place in a pattern, member by member; rows of 128 truth values. -/
import Derived.Test.YteiphphihclnfaaDoorGlRA
namespace Go.Proofs.YteiphphihclnfaaDoor.Gl
open Go.RowKit

/-- The members up to the first "]", added to those of S. -/
def memR (S : UInt8 → Bool) (r : List UInt8) : Option (UInt8 → Bool) := if r.contains 93 then memB S (r.take (r.idxOf 93)) else none

theorem memR_nil (S : UInt8 → Bool) : memR S [] = none := rfl
theorem memR_end (S : UInt8 → Bool) (t : List UInt8) : memR S (93 :: t) = some S := by
  unfold memR
  rw [if_pos (by simp), List.idxOf_cons_self]
  rfl
theorem contains_cons_ne {a : UInt8} (h : a ≠ 93) (t : List UInt8) : (a :: t).contains 93 = t.contains 93 := by
  rw [Bool.eq_iff_iff]
  simp [Ne.symm h]
theorem idx_cons_ne {a : UInt8} (h : a ≠ 93) (t : List UInt8) : (a :: t).idxOf 93 = t.idxOf 93 + 1 := by
  rw [List.idxOf_cons, beq_eq_false_iff_ne.2 h]
  rfl

theorem memR_one (S : UInt8 → Bool) {a : UInt8} (ha : a ≠ 93) (t : List UInt8) (h : ¬ (2 ≤ t.length ∧ t[0]? = some 45 ∧ t[1]? ≠ some 93)) : memR S (a :: t) = memR (fun x => S x || rangeB a a x) t := by
  unfold memR
  rw [contains_cons_ne ha, idx_cons_ne ha, List.take_succ_cons]
  split
  · rename_i hc
    have hi : t.idxOf 93 < t.length := List.idxOf_lt_length_iff.2 (by simpa using hc)
    apply memB_single
    rcases Nat.lt_or_ge (t.idxOf 93) 2 with h2 | h2
    · left
      rw [List.length_take]
      omega
    · right
      intro h0
      rw [List.getElem?_take, if_pos (by omega)] at h0
      refine h ⟨by omega, h0, fun h1 => ?_⟩
      match t, h0, h1, h2, hi with
      | [], h0, _, _, _ => simp at h0
      | [_], _, h1, _, _ => simp at h1
      | b :: c :: u, h0, h1, h2, _ =>
        simp only [List.getElem?_cons_zero, List.getElem?_cons_succ, Option.some.injEq] at h0 h1
        subst h0
        subst h1
        rw [idx_cons_ne (by decide), List.idxOf_cons_self] at h2
        omega
  · rfl

theorem memR_range (S : UInt8 → Bool) {a c : UInt8} (ha : a ≠ 93) (hc : c ≠ 93) (t : List UInt8) : memR S (a :: 45 :: c :: t) = if c.toNat < a.toNat then none else memR (fun x => S x || rangeB a c x) t := by
  unfold memR
  rw [contains_cons_ne ha, contains_cons_ne (by decide), contains_cons_ne hc, idx_cons_ne ha, idx_cons_ne (by decide), idx_cons_ne hc, List.take_succ_cons, List.take_succ_cons, List.take_succ_cons, memB_range]
  split
  · rfl
  · split <;> rfl

/-- The set that begins a text, and the place of its "]". -/
def setR (r : List UInt8) : Option ((UInt8 → Bool) × Nat) := if r.contains 93 then (setB (r.take (r.idxOf 93))).map fun S => (S, r.idxOf 93) else none

theorem setR_not (r : List UInt8) : setR (33 :: r) = if r[0]? = some 93 then none else (memR (fun _ => false) r).map fun S => (fun x => isText x && !S x, r.idxOf 93 + 1) := by
  unfold setR memR
  rw [contains_cons_ne (by decide), idx_cons_ne (by decide), List.take_succ_cons]
  cases r with
  | nil => simp
  | cons b t =>
    simp only [List.getElem?_cons_zero, Option.some.injEq]
    by_cases hb : b = 93
    · subst hb
      simp [setB]
    · rw [if_neg hb]
      split
      · rename_i hc
        have : (b :: t).take ((b :: t).idxOf 93) ≠ [] := by
          rw [idx_cons_ne hb, List.take_succ_cons]
          simp
        unfold setB
        simp only [if_true]
        rw [if_neg this]
        cases memB (fun _ => false) ((b :: t).take ((b :: t).idxOf 93)) <;> simp
      · simp

theorem setR_plain {c : UInt8} (hc : c ≠ 33) (r : List UInt8) : setR (c :: r) = if c = 93 then none else (memR (fun _ => false) (c :: r)).map fun S => (S, (c :: r).idxOf 93) := by
  unfold setR memR
  by_cases hb : c = 93
  · subst hb
    simp [setB]
  · rw [if_neg hb]
    split
    · rw [idx_cons_ne hb, List.take_succ_cons]
      unfold setB
      simp only [hc, if_false]
    · simp

def boolRow (S : UInt8 → Bool) : Array Value := ((List.range 128).map fun c => Value.bool (S (UInt8.ofNat c))).toArray
theorem boolRow_size (S : UInt8 → Bool) : (boolRow S).size = 128 := by simp [boolRow]
theorem boolRow_get (S : UInt8 → Bool) (c : Nat) (h : c < 128) : (boolRow S)[c]? = some (.bool (S (UInt8.ofNat c))) := by
  simp [boolRow, h]
theorem boolRow_set (S : UInt8 → Bool) (c : Nat) (h : c < 128) : (boolRow S).setIfInBounds c (.bool true) = boolRow (fun x => S x || x == UInt8.ofNat c) := by
  apply Array.ext_getElem?
  intro i
  rw [Array.getElem?_setIfInBounds]
  by_cases hi : i < 128
  · rw [boolRow_get (fun x => S x || x == UInt8.ofNat c) i hi]
    by_cases hc : c = i
    · subst hc
      rw [if_pos rfl, if_pos (by rw [boolRow_size]; exact h)]
      simp
    · rw [if_neg hc, boolRow_get _ i hi]
      have : (UInt8.ofNat i == UInt8.ofNat c) = false := by
        rw [beq_eq_false_iff_ne]
        intro e
        have := congrArg UInt8.toNat e
        simp at this
        omega
      rw [this, Bool.or_false]
  · have hn : ∀ T : UInt8 → Bool, (boolRow T)[i]? = none := fun T => Array.getElem?_eq_none (by rw [boolRow_size]; omega)
    rw [hn, if_neg (by omega), hn]
end Go.Proofs.YteiphphihclnfaaDoor.Gl
