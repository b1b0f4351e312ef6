/- The names in which two lists differ: plain facts. -/
import Derived.Test.YthdnbcgomepgaaaDoorP1
namespace Go.Proofs.YthdnbcgomepgaaaDoor

abbrev Names := List ByteArray
def getV (n : ByteArray) (l : List Atr) : ByteArray := (getP n l).getD ⟨#[]⟩
/-- The names in which two lists differ, in their order. -/
def IsCh (a b : List Atr) (ns : Names) : Prop := ns.Pairwise (fun x y => lt x y = true) ∧ ∀ n, n ∈ ns ↔ getV n a ≠ getV n b

theorem names_ext : ∀ {l m : Names}, l.Pairwise (fun x y => lt x y = true) → m.Pairwise (fun x y => lt x y = true) → (∀ n, n ∈ l ↔ n ∈ m) → l = m
  | [], [], _, _, _ => rfl
  | [], y :: m, _, _, h => absurd ((h y).2 (List.mem_cons_self ..)) (by simp)
  | x :: l, [], _, _, h => absurd ((h x).1 (List.mem_cons_self ..)) (by simp)
  | x :: l, y :: m, hl, hm, h => by
    have hl' := List.pairwise_cons.1 hl
    have hm' := List.pairwise_cons.1 hm
    have e : x = y := by
      rcases List.mem_cons.1 ((h x).1 (List.mem_cons_self ..)) with h1 | h1
      · exact h1
      · rcases List.mem_cons.1 ((h y).2 (List.mem_cons_self ..)) with h2 | h2
        · exact h2.symm
        · have := lt_trans (hl'.1 y h2) (hm'.1 x h1)
          rw [lt_irrefl] at this
          exact Bool.noConfusion this
    subst e
    rw [names_ext hl'.2 hm'.2 fun n => ?_]
    constructor
    · intro hn
      rcases List.mem_cons.1 ((h n).1 (List.mem_cons_of_mem _ hn)) with h1 | h1
      · rw [h1] at hn
        exact absurd rfl (lt_ne (hl'.1 _ hn))
      · exact h1
    · intro hn
      rcases List.mem_cons.1 ((h n).2 (List.mem_cons_of_mem _ hn)) with h1 | h1
      · rw [h1] at hn
        exact absurd rfl (lt_ne (hm'.1 _ hn))
      · exact h1
theorem isCh_unique {a b : List Atr} {l m : Names} (hl : IsCh a b l) (hm : IsCh a b m) : l = m := names_ext hl.1 hm.1 fun n => (hl.2 n).trans (hm.2 n).symm

def firstN : List Atr → List Atr → ByteArray
  | [], [] => ⟨#[]⟩
  | x :: _, [] => x.1
  | [], y :: _ => y.1
  | x :: _, y :: _ => if lt x.1 y.1 then x.1 else y.1
def takeV (n : ByteArray) : List Atr → ByteArray
  | [] => ⟨#[]⟩
  | x :: _ => if x.1 = n then x.2 else ⟨#[]⟩
def takeR (n : ByteArray) : List Atr → List Atr
  | [] => []
  | x :: l => if x.1 = n then l else x :: l

theorem firstN_cc (x y : Atr) (a b : List Atr) : firstN (x :: a) (y :: b) = if lt x.1 y.1 then x.1 else y.1 := rfl
theorem firstN_cn (x : Atr) (a : List Atr) : firstN (x :: a) [] = x.1 := rfl
theorem firstN_nc (y : Atr) (b : List Atr) : firstN [] (y :: b) = y.1 := rfl
theorem takeV_cons (n : ByteArray) (x : Atr) (l : List Atr) : takeV n (x :: l) = if x.1 = n then x.2 else ⟨#[]⟩ := rfl
theorem takeR_cons (n : ByteArray) (x : Atr) (l : List Atr) : takeR n (x :: l) = if x.1 = n then l else x :: l := rfl

/-- n stands before all names of a list, or at its beginning. -/
def Before (n : ByteArray) (l : List Atr) : Prop := ∀ x ∈ l, x.1 = n ∨ lt n x.1 = true

theorem before_head {x : Atr} {l : List Atr} (h : Srt (x :: l)) : Before x.1 (x :: l) := fun y hy => by
  rcases List.mem_cons.1 hy with rfl | hy
  · exact .inl rfl
  · exact .inr ((List.pairwise_cons.1 h).1 y hy)
theorem before_lt {n m : ByteArray} {l : List Atr} (h : Before n l) (hm : lt m n = true) : Before m l := fun y hy => by
  rcases h y hy with h1 | h1
  · rw [h1]
    exact .inr hm
  · exact .inr (lt_trans hm h1)
theorem first_before {a b : List Atr} (ha : Srt a) (hb : Srt b) (hne : a ≠ [] ∨ b ≠ []) : Before (firstN a b) a ∧ Before (firstN a b) b := by
  match a, b, ha, hb with
  | [], [], _, _ => simp at hne
  | x :: a, [], ha, _ => exact ⟨before_head ha, fun y hy => absurd hy (by simp)⟩
  | [], y :: b, _, hb => exact ⟨fun x hx => absurd hx (by simp), before_head hb⟩
  | x :: a, y :: b, ha, hb =>
    rw [firstN_cc]
    cases h1 : lt x.1 y.1 with
    | true => exact ⟨before_head ha, before_lt (before_head hb) h1⟩
    | false =>
      refine ⟨?_, before_head hb⟩
      cases h2 : lt y.1 x.1 with
      | true => exact before_lt (before_head ha) h2
      | false =>
        have e := lt_tri h1 h2
        have := before_head ha
        rw [e] at this
        exact this
theorem first_mem {a b : List Atr} (hne : a ≠ [] ∨ b ≠ []) : (∃ x ∈ a, x.1 = firstN a b) ∨ ∃ x ∈ b, x.1 = firstN a b := by
  match a, b with
  | [], [] => simp at hne
  | x :: a, [] => exact .inl ⟨x, List.mem_cons_self .., rfl⟩
  | [], y :: b => exact .inr ⟨y, List.mem_cons_self .., rfl⟩
  | x :: a, y :: b =>
    rw [firstN_cc]
    cases h1 : lt x.1 y.1 with
    | true => exact .inl ⟨x, List.mem_cons_self .., rfl⟩
    | false => exact .inr ⟨y, List.mem_cons_self .., rfl⟩

theorem take_sub {n : ByteArray} {l : List Atr} : ∀ x ∈ takeR n l, x ∈ l := fun x hx => by
  match l with
  | [] => exact hx
  | y :: l =>
    rw [takeR_cons] at hx
    split at hx
    · exact List.mem_cons_of_mem _ hx
    · exact hx
theorem take_srt {n : ByteArray} {l : List Atr} (h : Srt l) : Srt (takeR n l) := by
  match l, h with
  | [], h => exact h
  | y :: l, h =>
    rw [takeR_cons]
    split
    · exact (List.pairwise_cons.1 h).2
    · exact h
theorem take_behind {n : ByteArray} {l : List Atr} (h : Srt l) (hb : Before n l) : ∀ x ∈ takeR n l, lt n x.1 = true := fun x hx => by
  match l, h, hb with
  | [], _, _ => cases hx
  | y :: l, h, hb =>
    have h' := List.pairwise_cons.1 h
    rw [takeR_cons] at hx
    split at hx
    · rename_i e
      rw [← e]
      exact h'.1 x hx
    · rename_i e
      have hy : lt n y.1 = true := by
        rcases hb y (List.mem_cons_self ..) with h1 | h1
        · exact absurd h1 e
        · exact h1
      rcases List.mem_cons.1 hx with rfl | hx
      · exact hy
      · exact lt_trans hy (h'.1 x hx)
theorem getV_none {n : ByteArray} {l : List Atr} (h : ∀ x ∈ l, x.1 ≠ n) : getV n l = ⟨#[]⟩ := by
  unfold getV
  rw [getP_none h]
  rfl
theorem take_get {n : ByteArray} {l : List Atr} (h : Srt l) (hb : Before n l) : getV n l = takeV n l := by
  match l, h, hb with
  | [], _, _ => rfl
  | y :: l, h, hb =>
    rw [takeV_cons]
    unfold getV
    rw [getP]
    split
    · rfl
    · rename_i e
      have hy : lt n y.1 = true := by
        rcases hb y (List.mem_cons_self ..) with h1 | h1
        · exact absurd h1 e
        · exact h1
      exact getV_none fun x hx => (lt_ne (lt_trans hy ((List.pairwise_cons.1 h).1 x hx))).symm
theorem take_other {n m : ByteArray} {l : List Atr} (hm : m ≠ n) : getV m (takeR n l) = getV m l := by
  match l with
  | [] => rfl
  | y :: l =>
    rw [takeR_cons]
    split
    · rename_i e
      unfold getV
      rw [getP, if_neg (by rw [e]; exact hm.symm)]
    · rfl

/-- Half way through two lists: what was found, and what is left. -/
structure Half (a b : List Atr) (a' b' : List Atr) (acc : Names) : Prop where
  sa : Srt a'
  sb : Srt b'
  so : acc.Pairwise (fun x y => lt x y = true)
  la : ∀ m ∈ acc, ∀ x ∈ a', lt m x.1 = true
  lb : ∀ m ∈ acc, ∀ x ∈ b', lt m x.1 = true
  ch : ∀ n, (n ∈ acc ∨ getV n a' ≠ getV n b') ↔ getV n a ≠ getV n b

theorem half_start {a b : List Atr} (ha : Srt a) (hb : Srt b) : Half a b a b [] :=
  ⟨ha, hb, .nil, fun m h => (by cases h), fun m h => (by cases h), fun n => by simp⟩
theorem half_end {a b : List Atr} {acc : Names} (h : Half a b [] [] acc) : IsCh a b acc := ⟨h.so, fun n => by
  have := h.ch n
  rw [← this]
  simp⟩
def chStep (a' b' : List Atr) : Names := if takeV (firstN a' b') a' = takeV (firstN a' b') b' then [] else [firstN a' b']
theorem half_step {a b a' b' : List Atr} {acc : Names} (h : Half a b a' b' acc) (hne : a' ≠ [] ∨ b' ≠ []) :
    Half a b (takeR (firstN a' b') a') (takeR (firstN a' b') b') (acc ++ chStep a' b') := by
  obtain ⟨ba, bb⟩ := first_before h.sa h.sb hne
  have hmem := first_mem hne
  unfold chStep
  generalize firstN a' b' = n at *
  have hta := take_behind h.sa ba
  have htb := take_behind h.sb bb
  have hmn : ∀ m ∈ acc, lt m n = true := fun m hm => by
    rcases hmem with ⟨x, hx, rfl⟩ | ⟨x, hx, rfl⟩
    · exact h.la m hm x hx
    · exact h.lb m hm x hx
  have hin : ∀ m, m ∈ (if takeV n a' = takeV n b' then ([] : Names) else [n]) ↔ m = n ∧ takeV n a' ≠ takeV n b' := fun m => by
    split <;> simp [*]
  refine ⟨take_srt h.sa, take_srt h.sb, ?_, fun m hm x hx => ?_, fun m hm x hx => ?_, fun m => ?_⟩
  · rw [List.pairwise_append]
    refine ⟨h.so, by split <;> simp, fun x hx y hy => ?_⟩
    rw [((hin y).1 hy).1]
    exact hmn x hx
  · rcases List.mem_append.1 hm with hm | hm
    · exact h.la m hm x (take_sub x hx)
    · rw [((hin m).1 hm).1]
      exact hta x hx
  · rcases List.mem_append.1 hm with hm | hm
    · exact h.lb m hm x (take_sub x hx)
    · rw [((hin m).1 hm).1]
      exact htb x hx
  · rw [← h.ch m, List.mem_append, hin]
    by_cases e : m = n
    · subst e
      rw [take_get h.sa ba, take_get h.sb bb, getV_none fun x hx => (lt_ne (hta x hx)).symm, getV_none fun x hx => (lt_ne (htb x hx)).symm]
      simp
    · rw [take_other e, take_other e]
      simp [e]
theorem take_len {a b : List Atr} (hne : a ≠ [] ∨ b ≠ []) : (takeR (firstN a b) a).length + (takeR (firstN a b) b).length < a.length + b.length := by
  have hle : ∀ (n : ByteArray) (l : List Atr), (takeR n l).length ≤ l.length := fun n l => by
    match l with
    | [] => exact Nat.le_refl _
    | x :: l =>
      rw [takeR_cons]
      split <;> simp
  match a, b with
  | [], [] => simp at hne
  | x :: a, [] =>
    rw [firstN_cn, takeR_cons]
    simp [takeR]
  | [], y :: b =>
    rw [firstN_nc, takeR_cons]
    simp [takeR]
  | x :: a, y :: b =>
    rw [firstN_cc]
    cases h1 : lt x.1 y.1 with
    | true =>
      have := hle x.1 (y :: b)
      simp only [if_true]
      rw [takeR_cons x.1 x a, if_pos rfl]
      simp only [List.length_cons] at this ⊢
      omega
    | false =>
      have := hle y.1 (x :: a)
      simp only [Bool.false_eq_true, if_false]
      rw [takeR_cons y.1 y b, if_pos rfl]
      simp only [List.length_cons] at this ⊢
      omega

/-- What the reference gathers: a's names and b's. -/
def allP (a : List Atr) (v : ByteArray) : List Atr → List Atr
  | [] => a
  | y :: b => allP (setP y.1 v a) v b
theorem allP_srt {v : ByteArray} : ∀ (b : List Atr) {a : List Atr}, Srt a → Srt (allP a v b)
  | [], _, h => h
  | _ :: b, _, h => allP_srt b (srt_setP _ _ h)
theorem allP_len {v : ByteArray} : ∀ (b a : List Atr), (allP a v b).length ≤ a.length + b.length
  | [], a => by simp [allP]
  | y :: b, a => by
    have := allP_len (v := v) b (setP y.1 v a)
    have := setP_length y.1 v a
    rw [allP]
    simp only [List.length_cons]
    omega
theorem mem_getP {n : ByteArray} : ∀ {l : List Atr}, (getP n l).isSome = true ↔ ∃ x ∈ l, x.1 = n
  | [] => by simp [getP]
  | x :: l => by
    rw [getP]
    split
    · rename_i e
      simp [e]
    · rename_i e
      rw [mem_getP]
      simp [e]
theorem allP_has {v : ByteArray} (hv : v ≠ ⟨#[]⟩) : ∀ (b a : List Atr) (n : ByteArray), (getP n a).isSome = true ∨ (getP n b).isSome = true → (getP n (allP a v b)).isSome = true
  | [], a, n, h => by
    rcases h with h | h
    · exact h
    · simp [getP] at h
  | y :: b, a, n, h => by
    rw [allP]
    apply allP_has hv b
    by_cases e : y.1 = n
    · subst e
      rw [get_set_same, if_neg hv]
      exact .inl rfl
    · rw [get_set_other _ _ _ (fun h => e h.symm)]
      rcases h with h | h
      · exact .inl h
      · rw [getP, if_neg e] at h
        exact .inr h
theorem allP_drop (v : ByteArray) (a : List Atr) : ∀ (b : List Atr) (i : Nat) (y : Atr), b[i]? = some y → allP a v (b.take (i + 1)) = setP y.1 v (allP a v (b.take i)) := by
  intro b i y h
  induction b generalizing a i with
  | nil => simp at h
  | cons x b ih =>
    cases i with
    | zero =>
      simp at h
      subst h
      simp [allP]
    | succ i =>
      rw [List.take_succ_cons, List.take_succ_cons, allP, allP]
      exact ih _ i (by simpa using h)

/-- The names of a list at which two lists differ. -/
def pick (a b : List Atr) (all : List Atr) : Names := (all.filter fun x => !decide (getV x.1 a = getV x.1 b)).map (·.1)
theorem pick_isCh {a b all : List Atr} (hs : Srt all) (hm : ∀ n, (getP n a).isSome = true ∨ (getP n b).isSome = true → (getP n all).isSome = true) : IsCh a b (pick a b all) := by
  refine ⟨?_, fun n => ?_⟩
  · unfold pick
    rw [List.pairwise_map]
    exact hs.filter _
  · unfold pick
    rw [List.mem_map]
    constructor
    · rintro ⟨x, hx, rfl⟩
      simpa using (List.mem_filter.1 hx).2
    · intro h
      have : (getP n a).isSome = true ∨ (getP n b).isSome = true := by
        cases ha : getP n a with
        | some _ => exact .inl rfl
        | none =>
          cases hb : getP n b with
          | some _ => exact .inr rfl
          | none =>
            unfold getV at h
            rw [ha, hb] at h
            exact absurd rfl h
      obtain ⟨x, hx, hn⟩ := mem_getP.1 (hm n this)
      exact ⟨x, List.mem_filter.2 ⟨hx, by rw [hn]; simpa using h⟩, hn⟩
theorem pick_step (a b all : List Atr) (i : Nat) (x : Atr) (h : all[i]? = some x) : pick a b (all.take (i + 1)) = pick a b (all.take i) ++ if getV x.1 a = getV x.1 b then [] else [x.1] := by
  unfold pick
  rw [List.take_add_one, h, List.filter_append, List.map_append]
  congr 1
  simp only [Option.toList, List.filter_cons, List.filter_nil]
  split
  · rename_i h1
    have h2 : getV x.1 a ≠ getV x.1 b := by simpa using h1
    rw [if_neg h2]
    rfl
  · rename_i h1
    have h2 : getV x.1 a = getV x.1 b := by simpa using h1
    rw [if_pos h2]
    rfl

/-- The first list, when the first i names are set to the second list's values. -/
def curP (a b : List Atr) : Names → List Atr
  | [] => a
  | n :: ns => curP (setP n (getV n b) a) b ns
theorem curP_srt {b : List Atr} : ∀ (ns : Names) {a : List Atr}, Srt a → Srt (curP a b ns)
  | [], _, h => h
  | _ :: ns, _, h => curP_srt ns (srt_setP _ _ h)
theorem curP_len {b : List Atr} : ∀ (ns : Names) (a : List Atr), (curP a b ns).length ≤ a.length + ns.length
  | [], a => by simp [curP]
  | n :: ns, a => by
    have := curP_len (b := b) ns (setP n (getV n b) a)
    have := setP_length n (getV n b) a
    rw [curP]
    simp only [List.length_cons]
    omega
theorem curP_snoc {b : List Atr} (n : ByteArray) : ∀ (ns : Names) (a : List Atr), curP a b (ns ++ [n]) = setP n (getV n b) (curP a b ns)
  | [], _ => rfl
  | _ :: ns, _ => curP_snoc n ns _
def full (l : List Atr) : Prop := ∀ x ∈ l, x.2 ≠ ⟨#[]⟩
theorem getP_of_full {n : ByteArray} {l : List Atr} (h : full l) : getP n l = if getV n l = ⟨#[]⟩ then none else some (getV n l) := by
  unfold getV
  cases hg : getP n l with
  | none => rfl
  | some v =>
    have := h _ (getP_mem hg)
    simp only [Option.getD_some]
    rw [if_neg this]
theorem curP_out {b : List Atr} : ∀ (ns : Names) (a : List Atr) (m : ByteArray), m ∉ ns → getP m (curP a b ns) = getP m a
  | [], _, _, _ => rfl
  | n :: ns, a, m, h => by
    rw [curP, curP_out ns _ _ fun hm => h (List.mem_cons_of_mem _ hm), get_set_other _ _ _ fun e => h (by rw [e]; exact List.mem_cons_self ..)]
theorem curP_in {b : List Atr} (hb : full b) : ∀ (ns : Names) (a : List Atr) (m : ByteArray), m ∈ ns → getP m (curP a b ns) = getP m b
  | [], _, _, h => by cases h
  | n :: ns, a, m, h => by
    rw [curP]
    by_cases h1 : m ∈ ns
    · exact curP_in hb ns _ m h1
    · have e : m = n := by
        rcases List.mem_cons.1 h with e | h2
        · exact e
        · exact absurd h2 h1
      subst e
      rw [curP_out ns _ _ h1, get_set_same, ← getP_of_full hb]
/-- Setting the names in which the lists differ turns the first one into the second one. -/
theorem curP_end {a b : List Atr} {ns : Names} (ha : Srt a) (hb : Srt b) (fa : full a) (fb : full b) (h : IsCh a b ns) : curP a b ns = b :=
  srt_ext (curP_srt ns ha) hb fun m => by
    by_cases hm : m ∈ ns
    · exact curP_in fb ns a m hm
    · rw [curP_out ns a m hm]
      have : getV m a = getV m b := by
        have := mt (h.2 m).2 hm
        simpa using this
      rw [getP_of_full fa, getP_of_full fb, this]
theorem isCh_self {a : List Atr} {ns : Names} (h : IsCh a a ns) : ns = [] := by
  cases ns with
  | nil => rfl
  | cons n ns => exact absurd rfl ((h.2 n).1 (List.mem_cons_self ..))
theorem pick_len (a b all : List Atr) : (pick a b all).length ≤ all.length := by
  unfold pick
  rw [List.length_map]
  exact List.length_filter_le ..
end Go.Proofs.YthdnbcgomepgaaaDoor
