/- Attributes on lists: the order of names, what Get, Set, Sorted and Changed say of a list. -/
import Derived.Test.YthblgkjmjfhkdaaRows
import Derived.Lib.Walk
import Derived.Lib.Strings
import Derived.Lib.Bytealg
namespace Go.Proofs.Ythblgkjmjfhkdaa.De

abbrev Atr := ByteArray × ByteArray

/-- The order of names. -/
def lt (a b : ByteArray) : Bool := Op.bytesLess a.toList b.toList

theorem bl_irrefl : ∀ a : List UInt8, Op.bytesLess a a = false
  | [] => rfl
  | c :: a => by
    rw [Op.bytesLess, bl_irrefl a]
    simp
theorem bl_trans : ∀ a b c : List UInt8, Op.bytesLess a b = true → Op.bytesLess b c = true → Op.bytesLess a c = true
  | _, [], _, h, _ => by cases ‹List UInt8› <;> simp [Op.bytesLess] at h
  | _, _ :: _, [], _, h => by simp [Op.bytesLess] at h
  | [], _ :: _, _ :: _, _, _ => rfl
  | x :: a, y :: b, z :: c, h, k => by
    simp only [Op.bytesLess, Bool.or_eq_true, decide_eq_true_eq, Bool.and_eq_true, beq_iff_eq, UInt8.lt_iff_toNat_lt] at h k ⊢
    rcases h with h | ⟨h, h'⟩ <;> rcases k with k | ⟨k, k'⟩
    · left; omega
    · left; rw [← k]; exact h
    · left; rw [h]; exact k
    · right; exact ⟨h.trans k, bl_trans a b c h' k'⟩
theorem bl_tri : ∀ a b : List UInt8, Op.bytesLess a b = false → Op.bytesLess b a = false → a = b
  | [], [], _, _ => rfl
  | [], _ :: _, h, _ => by simp [Op.bytesLess] at h
  | _ :: _, [], _, h => by simp [Op.bytesLess] at h
  | x :: a, y :: b, h, k => by
    simp only [Op.bytesLess, Bool.or_eq_false_iff, decide_eq_false_iff_not, Bool.and_eq_false_iff, beq_eq_false_iff_ne, UInt8.lt_iff_toNat_lt] at h k
    have e : x = y := UInt8.toNat_inj.1 (by omega)
    subst e
    rcases h.2 with h2 | h2
    · exact absurd rfl h2
    · rcases k.2 with k2 | k2
      · exact absurd rfl k2
      · rw [bl_tri a b h2 k2]

theorem data_inj {a b : ByteArray} (h : a.toList = b.toList) : a = b := by
  rw [Lib.toList_data, Lib.toList_data] at h
  exact ByteArray.ext (Array.toList_inj.1 h)
theorem lt_irrefl (a : ByteArray) : lt a a = false := bl_irrefl _
theorem lt_trans {a b c : ByteArray} (h : lt a b = true) (k : lt b c = true) : lt a c = true := bl_trans _ _ _ h k
theorem lt_tri {a b : ByteArray} (h : lt a b = false) (k : lt b a = false) : a = b := data_inj (bl_tri _ _ h k)
theorem lt_ne {a b : ByteArray} (h : lt a b = true) : a ≠ b := fun e => by
  subst e
  rw [lt_irrefl] at h
  exact Bool.noConfusion h
theorem lt_asymm {a b : ByteArray} (h : lt a b = true) : lt b a = false := by
  cases k : lt b a with
  | false => rfl
  | true =>
    have := lt_trans h k
    rw [lt_irrefl] at this
    exact Bool.noConfusion this

def Srt (l : List Atr) : Prop := l.Pairwise fun x y => lt x.1 y.1 = true

/-- What Get says of any list. -/
def getP (n : ByteArray) : List Atr → Option ByteArray
  | [] => none
  | x :: l => if x.1 = n then some x.2 else getP n l

theorem getP_mem {n v : ByteArray} : ∀ {l : List Atr}, getP n l = some v → (n, v) ∈ l
  | [], h => by simp [getP] at h
  | x :: l, h => by
    rw [getP] at h
    split at h
    · rename_i e
      have : x = (n, v) := Prod.ext e (Option.some.inj h)
      rw [this]
      exact List.mem_cons_self ..
    · exact List.mem_cons_of_mem _ (getP_mem h)

def one (n v : ByteArray) : List Atr := if v = ⟨#[]⟩ then [] else [(n, v)]

/-- What Set returns of a list that ascends. -/
def setP (n v : ByteArray) (l : List Atr) : List Atr := l.filter (fun x => lt x.1 n) ++ (one n v ++ l.filter fun x => lt n x.1)

theorem srt_one (n v : ByteArray) : Srt (one n v) := by
  unfold one Srt
  split
  · exact .nil
  · simp
theorem mem_one {n v : ByteArray} {x : Atr} (h : x ∈ one n v) : x = (n, v) := by
  unfold one at h
  split at h
  · cases h
  · simpa using h
theorem srt_setP {l : List Atr} (n v : ByteArray) (h : Srt l) : Srt (setP n v l) := by
  unfold setP Srt
  rw [List.pairwise_append, List.pairwise_append]
  refine ⟨h.filter _, ⟨srt_one n v, h.filter _, fun x hx y hy => ?_⟩, fun x hx y hy => ?_⟩
  · rw [mem_one hx]
    exact (List.mem_filter.1 hy).2
  · have h1 := (List.mem_filter.1 hx).2
    rcases List.mem_append.1 hy with hy | hy
    · rw [mem_one hy]
      exact h1
    · exact lt_trans h1 (List.mem_filter.1 hy).2
theorem setP_length (n v : ByteArray) (l : List Atr) : (setP n v l).length ≤ l.length + 1 := by
  unfold setP
  rw [List.length_append, List.length_append]
  have h1 : (one n v).length ≤ 1 := by unfold one; split <;> simp
  have h2 : ∀ m : List Atr, (m.filter fun x => lt x.1 n).length + (m.filter fun x => lt n x.1).length ≤ m.length := fun m => by
    induction m with
    | nil => simp
    | cons x m ih =>
      rw [List.filter_cons, List.filter_cons, List.length_cons]
      cases h1 : lt x.1 n with
      | true =>
        rw [lt_asymm h1]
        simp only [if_true, if_false, List.length_cons, Bool.false_eq_true]
        omega
      | false =>
        cases h2 : lt n x.1 <;> simp only [if_true, if_false, List.length_cons, Bool.false_eq_true] <;> omega
  have := h2 l
  omega

/-- The reference's Set: 'done' and the rest of the list. -/
def rset (n v : ByteArray) : Bool → List Atr → List Atr
  | d, [] => if d then [] else [(n, v)]
  | d, x :: l =>
    let k := !d && !lt x.1 n
    (if k then [(n, v)] else []) ++ ((if x.1 = n then [] else [x]) ++ rset n v (d || k) l)

theorem rset_done (n v : ByteArray) : ∀ {l : List Atr}, Srt l → rset n v true l = l.filter (fun x => lt x.1 n) ++ l.filter fun x => lt n x.1
  | [], _ => rfl
  | x :: l, h => by
    have h' := List.pairwise_cons.1 h
    rw [rset]
    simp only [Bool.not_true, Bool.false_and, Bool.or_false, Bool.false_eq_true, if_false, List.nil_append]
    rw [rset_done n v h'.2, List.filter_cons, List.filter_cons]
    cases h1 : lt x.1 n with
    | true =>
      rw [if_neg (lt_ne h1), lt_asymm h1]
      rfl
    | false =>
      have e1 : ∀ (hx : n = x.1 ∨ lt n x.1 = true), l.filter (fun x => lt x.1 n) = [] := fun hx => List.filter_eq_nil_iff.2 fun y hy => by
        rcases hx with hx | hx
        · rw [hx, lt_asymm (h'.1 y hy)]; simp
        · rw [lt_asymm (lt_trans hx (h'.1 y hy))]; simp
      cases h2 : lt n x.1 with
      | true =>
        rw [if_neg (lt_ne h2).symm, e1 (.inr h2)]
        rfl
      | false =>
        rw [if_pos (lt_tri h1 h2)]
        rfl
theorem rset_eq (n v : ByteArray) : ∀ {l : List Atr}, Srt l → rset n v (decide (v = ⟨#[]⟩)) l = setP n v l := by
  intro l h
  by_cases hv : v = ⟨#[]⟩
  · rw [decide_eq_true hv, rset_done n v h]
    unfold setP one
    rw [if_pos hv]
    rfl
  · rw [decide_eq_false hv]
    induction l with
    | nil =>
      unfold setP one
      rw [if_neg hv]
      rfl
    | cons x l ih =>
      have h' := List.pairwise_cons.1 h
      rw [rset]
      simp only [Bool.not_false, Bool.true_and, Bool.false_or]
      cases h1 : lt x.1 n with
      | true =>
        rw [Bool.not_true, ih h'.2, if_neg (lt_ne h1)]
        unfold setP
        rw [List.filter_cons, List.filter_cons, h1, lt_asymm h1]
        simp
      | false =>
        rw [Bool.not_false, rset_done n v h'.2]
        unfold setP one
        rw [if_neg hv]
        have e1 : ∀ (hx : n = x.1 ∨ lt n x.1 = true), l.filter (fun x => lt x.1 n) = [] := fun hx => List.filter_eq_nil_iff.2 fun y hy => by
          rcases hx with hx | hx
          · rw [hx, lt_asymm (h'.1 y hy)]; simp
          · rw [lt_asymm (lt_trans hx (h'.1 y hy))]; simp
        cases h2 : lt n x.1 with
        | true =>
          rw [if_neg (lt_ne h2).symm, e1 (.inr h2), List.filter_cons, List.filter_cons, h1, h2, e1 (.inr h2)]
          rfl
        | false =>
          have e := lt_tri h1 h2
          rw [if_pos e, e1 (.inl e.symm), List.filter_cons, List.filter_cons, h1, h2, e1 (.inl e.symm)]
          rfl

end Go.Proofs.Ythblgkjmjfhkdaa.De
