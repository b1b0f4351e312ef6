/- Attributes on lists: the order of names, what Get, Set, Sorted and Changed say of a list. -/
import Derived.Test.YthdnbcgomepgaaaDoorRows
import Derived.Lib.Walk
import Derived.Lib.Strings
import Derived.Lib.Bytealg
namespace Go.Proofs.YthdnbcgomepgaaaDoor

abbrev Atr := ByteArray × ByteArray

/-- The order of names. -/
def lt (a b : ByteArray) : Bool := Op.bytesLess a.toList b.toList

theorem bl_irrefl : ∀ a : List UInt8, Op.bytesLess a a = false
  | [] => rfl
  | c :: a => by
    rw [Op.bytesLess, bl_irrefl a]
    simp
theorem bl_trans : ∀ a b c : List UInt8, Op.bytesLess a b = true → Op.bytesLess b c = true → Op.bytesLess a c = true
  | _, [], _, h, _ => by cases ‹List UInt8› <;> simp [Op.bytesLess] at h
  | _, _ :: _, [], _, h => by simp [Op.bytesLess] at h
  | [], _ :: _, _ :: _, _, _ => rfl
  | x :: a, y :: b, z :: c, h, k => by
    simp only [Op.bytesLess, Bool.or_eq_true, decide_eq_true_eq, Bool.and_eq_true, beq_iff_eq, UInt8.lt_iff_toNat_lt] at h k ⊢
    rcases h with h | ⟨h, h'⟩ <;> rcases k with k | ⟨k, k'⟩
    · left; omega
    · left; rw [← k]; exact h
    · left; rw [h]; exact k
    · right; exact ⟨h.trans k, bl_trans a b c h' k'⟩
theorem bl_tri : ∀ a b : List UInt8, Op.bytesLess a b = false → Op.bytesLess b a = false → a = b
  | [], [], _, _ => rfl
  | [], _ :: _, h, _ => by simp [Op.bytesLess] at h
  | _ :: _, [], _, h => by simp [Op.bytesLess] at h
  | x :: a, y :: b, h, k => by
    simp only [Op.bytesLess, Bool.or_eq_false_iff, decide_eq_false_iff_not, Bool.and_eq_false_iff, beq_eq_false_iff_ne, UInt8.lt_iff_toNat_lt] at h k
    have e : x = y := UInt8.toNat_inj.1 (by omega)
    subst e
    rcases h.2 with h2 | h2
    · exact absurd rfl h2
    · rcases k.2 with k2 | k2
      · exact absurd rfl k2
      · rw [bl_tri a b h2 k2]

theorem data_inj {a b : ByteArray} (h : a.toList = b.toList) : a = b := by
  rw [Lib.toList_data, Lib.toList_data] at h
  exact ByteArray.ext (Array.toList_inj.1 h)
theorem lt_irrefl (a : ByteArray) : lt a a = false := bl_irrefl _
theorem lt_trans {a b c : ByteArray} (h : lt a b = true) (k : lt b c = true) : lt a c = true := bl_trans _ _ _ h k
theorem lt_tri {a b : ByteArray} (h : lt a b = false) (k : lt b a = false) : a = b := data_inj (bl_tri _ _ h k)
theorem lt_ne {a b : ByteArray} (h : lt a b = true) : a ≠ b := fun e => by
  subst e
  rw [lt_irrefl] at h
  exact Bool.noConfusion h
theorem lt_asymm {a b : ByteArray} (h : lt a b = true) : lt b a = false := by
  cases k : lt b a with
  | false => rfl
  | true =>
    have := lt_trans h k
    rw [lt_irrefl] at this
    exact Bool.noConfusion this

/-- How strings.Compare tells them apart. -/
theorem cmp_lt : ∀ a b : List UInt8, Lib.compareBytes a b < 0 ↔ Op.bytesLess a b = true
  | [], [] => by simp [Lib.compareBytes, Op.bytesLess]
  | [], _ :: _ => by simp [Lib.compareBytes, Op.bytesLess]
  | _ :: _, [] => by simp [Lib.compareBytes, Op.bytesLess]
  | x :: a, y :: b => by
    rw [Lib.compareBytes, Op.bytesLess]
    by_cases h : x < y
    · simp [h]
    · by_cases k : y < x
      · have : x ≠ y := fun e => by subst e; exact h k
        simp [h, k, this]
      · have : x = y := UInt8.toNat_inj.1 (by rw [UInt8.lt_iff_toNat_lt] at h k; omega)
        subst this
        simp [h, cmp_lt a b]
theorem cmp_eq : ∀ a b : List UInt8, Lib.compareBytes a b = 0 ↔ a = b
  | [], [] => by simp [Lib.compareBytes]
  | [], _ :: _ => by simp [Lib.compareBytes]
  | _ :: _, [] => by simp [Lib.compareBytes]
  | x :: a, y :: b => by
    rw [Lib.compareBytes]
    by_cases h : x < y
    · have : x ≠ y := fun e => by subst e; exact absurd h (by rw [UInt8.lt_iff_toNat_lt]; omega)
      simp [h, this]
    · by_cases k : y < x
      · have : x ≠ y := fun e => by subst e; exact h k
        simp [h, k, this]
      · have : x = y := UInt8.toNat_inj.1 (by rw [UInt8.lt_iff_toNat_lt] at h k; omega)
        subst this
        simp [h, cmp_eq a b]

def Srt (l : List Atr) : Prop := l.Pairwise fun x y => lt x.1 y.1 = true

/-- What Get says of any list. -/
def getP (n : ByteArray) : List Atr → Option ByteArray
  | [] => none
  | x :: l => if x.1 = n then some x.2 else getP n l

theorem getP_none {n : ByteArray} : ∀ {l : List Atr}, (∀ x ∈ l, x.1 ≠ n) → getP n l = none
  | [], _ => rfl
  | x :: l, h => by
    rw [getP, if_neg (h x (List.mem_cons_self ..))]
    exact getP_none fun y hy => h y (List.mem_cons_of_mem _ hy)
theorem getP_append {n : ByteArray} : ∀ (a b : List Atr), getP n (a ++ b) = (getP n a).or (getP n b)
  | [], b => by rw [List.nil_append, getP, Option.none_or]
  | x :: a, b => by
    rw [List.cons_append, getP, getP]
    split
    · rfl
    · exact getP_append a b
theorem getP_mem {n v : ByteArray} : ∀ {l : List Atr}, getP n l = some v → (n, v) ∈ l
  | [], h => by simp [getP] at h
  | x :: l, h => by
    rw [getP] at h
    split at h
    · rename_i e
      have : x = (n, v) := Prod.ext e (Option.some.inj h)
      rw [this]
      exact List.mem_cons_self ..
    · exact List.mem_cons_of_mem _ (getP_mem h)

theorem srt_ext : ∀ {l m : List Atr}, Srt l → Srt m → (∀ n, getP n l = getP n m) → l = m
  | [], [], _, _, _ => rfl
  | [], y :: m, _, _, h => by have := h y.1; rw [getP, getP, if_pos rfl] at this; cases this
  | x :: l, [], _, _, h => by have := h x.1; rw [getP, getP, if_pos rfl] at this; cases this
  | x :: l, y :: m, hl, hm, h => by
    have hl' := List.pairwise_cons.1 hl
    have hm' := List.pairwise_cons.1 hm
    have e : x.1 = y.1 := by
      cases h1 : lt x.1 y.1 with
      | true =>
        have := h x.1
        rw [getP, if_pos rfl, getP, if_neg (lt_ne h1).symm, getP_none fun z hz => (lt_ne (lt_trans h1 (hm'.1 z hz))).symm] at this
        cases this
      | false =>
        cases h2 : lt y.1 x.1 with
        | true =>
          have := h y.1
          rw [getP, if_neg (lt_ne h2).symm, getP_none (fun z hz => (lt_ne (lt_trans h2 (hl'.1 z hz))).symm), getP, if_pos rfl] at this
          cases this
        | false => exact lt_tri h1 h2
    have e2 : x.2 = y.2 := by
      have := h x.1
      rw [getP, if_pos rfl, getP, if_pos e.symm] at this
      exact Option.some.inj this
    have : l = m := srt_ext hl'.2 hm'.2 fun n => by
      by_cases hn : x.1 = n
      · subst hn
        rw [getP_none fun z hz => (lt_ne (hl'.1 z hz)).symm, getP_none fun z hz => ?_]
        rw [e]
        exact (lt_ne (hm'.1 z hz)).symm
      · have := h n
        rwa [getP, if_neg hn, getP, if_neg (by rw [← e]; exact hn)] at this
    rw [this, Prod.ext e e2]

def one (n v : ByteArray) : List Atr := if v = ⟨#[]⟩ then [] else [(n, v)]

/-- What Set returns of a list that ascends. -/
def setP (n v : ByteArray) (l : List Atr) : List Atr := l.filter (fun x => lt x.1 n) ++ (one n v ++ l.filter fun x => lt n x.1)

theorem srt_one (n v : ByteArray) : Srt (one n v) := by
  unfold one Srt
  split
  · exact .nil
  · simp
theorem mem_one {n v : ByteArray} {x : Atr} (h : x ∈ one n v) : x = (n, v) := by
  unfold one at h
  split at h
  · cases h
  · simpa using h
theorem srt_setP {l : List Atr} (n v : ByteArray) (h : Srt l) : Srt (setP n v l) := by
  unfold setP Srt
  rw [List.pairwise_append, List.pairwise_append]
  refine ⟨h.filter _, ⟨srt_one n v, h.filter _, fun x hx y hy => ?_⟩, fun x hx y hy => ?_⟩
  · rw [mem_one hx]
    exact (List.mem_filter.1 hy).2
  · have h1 := (List.mem_filter.1 hx).2
    rcases List.mem_append.1 hy with hy | hy
    · rw [mem_one hy]
      exact h1
    · exact lt_trans h1 (List.mem_filter.1 hy).2
theorem setP_length (n v : ByteArray) (l : List Atr) : (setP n v l).length ≤ l.length + 1 := by
  unfold setP
  rw [List.length_append, List.length_append]
  have h1 : (one n v).length ≤ 1 := by unfold one; split <;> simp
  have h2 : ∀ m : List Atr, (m.filter fun x => lt x.1 n).length + (m.filter fun x => lt n x.1).length ≤ m.length := fun m => by
    induction m with
    | nil => simp
    | cons x m ih =>
      rw [List.filter_cons, List.filter_cons, List.length_cons]
      cases h1 : lt x.1 n with
      | true =>
        rw [lt_asymm h1]
        simp only [if_true, if_false, List.length_cons, Bool.false_eq_true]
        omega
      | false =>
        cases h2 : lt n x.1 <;> simp only [if_true, if_false, List.length_cons, Bool.false_eq_true] <;> omega
  have := h2 l
  omega

/-- A list that ascends, around a name. -/
theorem srt_split (n : ByteArray) : ∀ {l : List Atr}, Srt l → ∃ M, l = l.filter (fun x => lt x.1 n) ++ (M ++ l.filter fun x => lt n x.1) ∧ (M = [] ∨ ∃ y, M = [(n, y)])
  | [], _ => ⟨[], rfl, .inl rfl⟩
  | x :: l, h => by
    have h' := List.pairwise_cons.1 h
    cases h1 : lt x.1 n with
    | true =>
      obtain ⟨M, hM, k⟩ := srt_split n h'.2
      refine ⟨M, ?_, k⟩
      rw [List.filter_cons, List.filter_cons, h1, lt_asymm h1]
      simp only [if_true, if_false, Bool.false_eq_true, List.cons_append]
      rw [← hM]
    | false =>
      cases h2 : lt n x.1 with
      | true =>
        refine ⟨[], ?_, .inl rfl⟩
        have e1 : l.filter (fun x => lt x.1 n) = [] := List.filter_eq_nil_iff.2 fun y hy => by rw [lt_asymm (lt_trans h2 (h'.1 y hy))]; simp
        have e2 : l.filter (fun x => lt n x.1) = l := List.filter_eq_self.2 fun y hy => lt_trans h2 (h'.1 y hy)
        rw [List.filter_cons, List.filter_cons, h1, h2, e1, e2]
        rfl
      | false =>
        have e := lt_tri h1 h2
        refine ⟨[x], ?_, .inr ⟨x.2, by rw [← e]⟩⟩
        have e1 : l.filter (fun x => lt x.1 n) = [] := List.filter_eq_nil_iff.2 fun y hy => by rw [← e, lt_asymm (h'.1 y hy)]; simp
        have e2 : l.filter (fun x => lt n x.1) = l := List.filter_eq_self.2 fun y hy => by rw [← e]; exact h'.1 y hy
        rw [List.filter_cons, List.filter_cons, h1, h2, e1, e2]
        rfl

theorem getP_filter_lt {n m : ByteArray} (l : List Atr) (h : lt m n = true) : getP m (l.filter fun x => lt x.1 n) = getP m l := by
  induction l with
  | nil => rfl
  | cons x l ih =>
    rw [List.filter_cons]
    by_cases e : x.1 = m
    · rw [if_pos (by rw [e]; exact h), getP, getP, if_pos e, if_pos e]
    · split
      · rw [getP, getP, if_neg e, if_neg e, ih]
      · rw [getP, if_neg e, ih]
theorem getP_filter_gt {n m : ByteArray} (l : List Atr) (h : lt n m = true) : getP m (l.filter fun x => lt n x.1) = getP m l := by
  induction l with
  | nil => rfl
  | cons x l ih =>
    rw [List.filter_cons]
    by_cases e : x.1 = m
    · rw [if_pos (by rw [e]; exact h), getP, getP, if_pos e, if_pos e]
    · split
      · rw [getP, getP, if_neg e, if_neg e, ih]
      · rw [getP, if_neg e, ih]

theorem get_set_same (n v : ByteArray) (l : List Atr) : getP n (setP n v l) = if v = ⟨#[]⟩ then none else some v := by
  unfold setP
  rw [getP_append, getP_none fun x hx => lt_ne (List.mem_filter.1 hx).2, getP_append, getP_none (l := l.filter fun x => lt n x.1) fun x hx => (lt_ne (List.mem_filter.1 hx).2).symm]
  unfold one
  split
  · rfl
  · simp [getP]
theorem get_set_other (n v : ByteArray) (l : List Atr) {m : ByteArray} (h : m ≠ n) : getP m (setP n v l) = getP m l := by
  have hone : getP m (one n v) = none := getP_none fun x hx => by rw [mem_one hx]; exact h.symm
  unfold setP
  rw [getP_append, getP_append, hone, Option.none_or]
  cases h1 : lt m n with
  | true =>
    rw [getP_filter_lt l h1, getP_none (l := l.filter fun x => lt n x.1) fun x hx e => ?_, Option.or_none]
    have := (List.mem_filter.1 hx).2
    rw [e, lt_asymm h1] at this
    exact Bool.noConfusion this
  | false =>
    have h2 : lt n m = true := by
      cases k : lt n m with
      | true => rfl
      | false => exact absurd (lt_tri h1 k) h
    rw [getP_filter_gt l h2, getP_none (l := l.filter fun x => lt x.1 n) fun x hx e => ?_, Option.none_or]
    have := (List.mem_filter.1 hx).2
    rw [e, h1] at this
    exact Bool.noConfusion this

theorem set_set_comm {a b : ByteArray} (h : a ≠ b) (x y : ByteArray) {l : List Atr} (hl : Srt l) : setP b y (setP a x l) = setP a x (setP b y l) :=
  srt_ext (srt_setP _ _ (srt_setP _ _ hl)) (srt_setP _ _ (srt_setP _ _ hl)) fun n => by
    by_cases ha : n = a
    · subst ha
      rw [get_set_other _ _ _ h, get_set_same, get_set_same]
    · by_cases hb : n = b
      · subst hb
        rw [get_set_same, get_set_other _ _ _ (Ne.symm h), get_set_same]
      · rw [get_set_other _ _ _ hb, get_set_other _ _ _ ha, get_set_other _ _ _ ha, get_set_other _ _ _ hb]
theorem set_set_same (a x : ByteArray) {l : List Atr} (hl : Srt l) : setP a x (setP a x l) = setP a x l :=
  srt_ext (srt_setP _ _ (srt_setP _ _ hl)) (srt_setP _ _ hl) fun n => by
    by_cases ha : n = a
    · subst ha
      rw [get_set_same, get_set_same]
    · rw [get_set_other _ _ _ ha]

/-- The reference's Set: 'done' and the rest of the list. -/
def rset (n v : ByteArray) : Bool → List Atr → List Atr
  | d, [] => if d then [] else [(n, v)]
  | d, x :: l =>
    let k := !d && !lt x.1 n
    (if k then [(n, v)] else []) ++ ((if x.1 = n then [] else [x]) ++ rset n v (d || k) l)

theorem rset_done (n v : ByteArray) : ∀ {l : List Atr}, Srt l → rset n v true l = l.filter (fun x => lt x.1 n) ++ l.filter fun x => lt n x.1
  | [], _ => rfl
  | x :: l, h => by
    have h' := List.pairwise_cons.1 h
    rw [rset]
    simp only [Bool.not_true, Bool.false_and, Bool.or_false, Bool.false_eq_true, if_false, List.nil_append]
    rw [rset_done n v h'.2, List.filter_cons, List.filter_cons]
    cases h1 : lt x.1 n with
    | true =>
      rw [if_neg (lt_ne h1), lt_asymm h1]
      rfl
    | false =>
      have e1 : ∀ (hx : n = x.1 ∨ lt n x.1 = true), l.filter (fun x => lt x.1 n) = [] := fun hx => List.filter_eq_nil_iff.2 fun y hy => by
        rcases hx with hx | hx
        · rw [hx, lt_asymm (h'.1 y hy)]; simp
        · rw [lt_asymm (lt_trans hx (h'.1 y hy))]; simp
      cases h2 : lt n x.1 with
      | true =>
        rw [if_neg (lt_ne h2).symm, e1 (.inr h2)]
        rfl
      | false =>
        rw [if_pos (lt_tri h1 h2)]
        rfl
theorem rset_eq (n v : ByteArray) : ∀ {l : List Atr}, Srt l → rset n v (decide (v = ⟨#[]⟩)) l = setP n v l := by
  intro l h
  by_cases hv : v = ⟨#[]⟩
  · rw [decide_eq_true hv, rset_done n v h]
    unfold setP one
    rw [if_pos hv]
    rfl
  · rw [decide_eq_false hv]
    induction l with
    | nil =>
      unfold setP one
      rw [if_neg hv]
      rfl
    | cons x l ih =>
      have h' := List.pairwise_cons.1 h
      rw [rset]
      simp only [Bool.not_false, Bool.true_and, Bool.false_or]
      cases h1 : lt x.1 n with
      | true =>
        rw [Bool.not_true, ih h'.2, if_neg (lt_ne h1)]
        unfold setP
        rw [List.filter_cons, List.filter_cons, h1, lt_asymm h1]
        simp
      | false =>
        rw [Bool.not_false, rset_done n v h'.2]
        unfold setP one
        rw [if_neg hv]
        have e1 : ∀ (hx : n = x.1 ∨ lt n x.1 = true), l.filter (fun x => lt x.1 n) = [] := fun hx => List.filter_eq_nil_iff.2 fun y hy => by
          rcases hx with hx | hx
          · rw [hx, lt_asymm (h'.1 y hy)]; simp
          · rw [lt_asymm (lt_trans hx (h'.1 y hy))]; simp
        cases h2 : lt n x.1 with
        | true =>
          rw [if_neg (lt_ne h2).symm, e1 (.inr h2), List.filter_cons, List.filter_cons, h1, h2, e1 (.inr h2)]
          rfl
        | false =>
          have e := lt_tri h1 h2
          rw [if_pos e, e1 (.inl e.symm), List.filter_cons, List.filter_cons, h1, h2, e1 (.inl e.symm)]
          rfl

/-- Whether a list ascends. -/
def srtB : List Atr → Bool
  | x :: y :: l => lt x.1 y.1 && srtB (y :: l)
  | _ => true
theorem srtB_of : ∀ {l : List Atr}, Srt l → srtB l = true
  | [], _ => rfl
  | [_], _ => rfl
  | x :: y :: l, h => by
    have h' := List.pairwise_cons.1 h
    rw [srtB, srtB_of h'.2, h'.1 y (List.mem_cons_self ..)]
    rfl
theorem srtB_true : ∀ {l : List Atr}, (∀ i x y, l[i]? = some x → l[i + 1]? = some y → lt x.1 y.1 = true) → srtB l = true
  | [], _ => rfl
  | [_], _ => rfl
  | x :: y :: l, h => by
    rw [srtB, h 0 x y rfl rfl, srtB_true fun i u v hu hv => h (i + 1) u v (by simpa using hu) (by simpa using hv)]
    rfl
theorem srtB_false : ∀ {l : List Atr} {i : Nat} {x y : Atr}, l[i]? = some x → l[i + 1]? = some y → lt x.1 y.1 = false → srtB l = false
  | [], i, x, y, hx, _, _ => by simp at hx
  | [_], i, x, y, _, hy, _ => by simp at hy
  | a :: b :: l, 0, x, y, hx, hy, h => by
    simp only [List.getElem?_cons_zero, List.getElem?_cons_succ, Option.some.injEq] at hx hy
    subst hx
    subst hy
    rw [srtB, h]
    rfl
  | a :: b :: l, i + 1, x, y, hx, hy, h => by
    rw [srtB, srtB_false (l := b :: l) (i := i) (x := x) (y := y) (by simpa using hx) (by simpa using hy) h, Bool.and_false]

end Go.Proofs.YthdnbcgomepgaaaDoor
