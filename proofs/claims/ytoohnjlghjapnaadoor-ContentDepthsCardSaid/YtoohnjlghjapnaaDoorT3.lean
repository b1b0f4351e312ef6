/- Contents as trees: depth, text and walk by structure; equality. Plain facts: no memory, no seat. -/
import Derived.Test.YtoohnjlghjapnaaDoorT2
namespace Go.Proofs.YtoohnjlghjapnaaDoor

mutual
def Con.dep : Con → Nat
  | .mk k _ _ _ _ _ l => if k = 0 then 0 else depL l + 1
def depL : List Con → Nat
  | [] => 0
  | c :: l => max c.dep (depL l)
end
mutual
def Con.walk : Con → List Con
  | .mk k i lab s t e l => .mk k i lab s t e l :: walkL l
def walkL : List Con → List Con
  | [] => []
  | c :: l => c.walk ++ walkL l
end
mutual
def Con.txt : Con → List UInt8
  | .mk k i lab s t e l => if k = 0 then [] else if k = 1 then headT (.mk k i lab s t e []) else headT (.mk k i lab s t e []) ++ 40 :: (joinC (txtL l) ++ [41])
def txtL : List Con → List (List UInt8)
  | [] => []
  | c :: l => c.txt :: txtL l
end
mutual
def sameC : Con → Con → Bool
  | .mk k i lab s t e l, .mk k' i' lab' s' t' e' l' => k == k' && i == i' && lab == lab' && s == s' && t == t' && e == e' && sameL l l'
def sameL : List Con → List Con → Bool
  | [], [] => true
  | [], _ :: _ => false
  | _ :: _, [] => false
  | a :: l, b :: m => sameC a b && sameL l m
end
mutual
theorem sameC_iff : ∀ a b : Con, sameC a b = true ↔ a = b
  | .mk k i lab s t e l, .mk k' i' lab' s' t' e' l' => by
    have ih := sameL_iff l l'
    simp only [sameC, Bool.and_eq_true, beq_iff_eq, ih, Con.mk.injEq, and_assoc]
theorem sameL_iff : ∀ l m : List Con, sameL l m = true ↔ l = m
  | [], [] => by simp [sameL]
  | [], _ :: _ => by simp [sameL]
  | _ :: _, [] => by simp [sameL]
  | a :: l, b :: m => by
    have h1 := sameC_iff a b
    have h2 := sameL_iff l m
    simp only [sameL, Bool.and_eq_true, h1, h2, List.cons.injEq]
end

theorem depL_mem : ∀ {l : List Con} {x : Con}, x ∈ l → x.dep ≤ depL l
  | [], _, h => by cases h
  | c :: l, x, h => by
    unfold depL
    rcases List.mem_cons.1 h with rfl | h
    · exact Nat.le_max_left _ _
    · exact Nat.le_trans (depL_mem h) (Nat.le_max_right _ _)
theorem depL_le : ∀ {l : List Con} {d : Nat}, (∀ x ∈ l, x.dep ≤ d) → depL l ≤ d
  | [], _, _ => by simp [depL]
  | c :: l, d, h => by
    unfold depL
    exact Nat.max_le.2 ⟨h c (by simp), depL_le fun x hx => h x (by simp [hx])⟩
theorem dep_eq (c : Con) : c.dep = if c.kind = 0 then 0 else depL c.inner + 1 := by
  obtain ⟨k, i, lab, s, t, e, l⟩ := c
  simp only [Con.dep, Con.kind, Con.inner]
  rfl
theorem dep_inner {c x : Con} (hk : c.kind ≠ 0) (hx : x ∈ c.inner) : x.dep < c.dep := by
  rw [dep_eq c, if_neg hk]
  exact Nat.lt_succ_of_le (depL_mem hx)
/-- A content that is valid with some depth has at most this depth, and is valid with every greater one. -/
theorem valN_dep : ∀ (d : Nat) (c : Con), valN d c = true → c.dep ≤ d
  | 0, c, h => by
    unfold valN at h
    split at h
    · rename_i hk
      rw [dep_eq, if_pos hk]
      exact Nat.le_refl _
    · cases h
  | d + 1, c, h => by
    unfold valN at h
    split at h
    · rename_i hk
      rw [dep_eq, if_pos hk]
      exact Nat.zero_le _
    · rename_i hk
      simp only [Bool.and_eq_true] at h
      rw [dep_eq, if_neg hk]
      exact Nat.succ_le_succ (depL_le fun x hx => valN_dep d x (List.all_eq_true.1 h.2 x hx))
theorem valN_up : ∀ (d e : Nat) (c : Con), valN d c = true → c.dep ≤ e → valN e c = true
  | 0, e, c, h, he => by
    unfold valN at h
    split at h
    · rename_i hk
      cases e <;> simp only [valN, if_pos hk, h]
    · cases h
  | d + 1, e, c, h, he => by
    unfold valN at h
    split at h
    · rename_i hk
      cases e <;> simp only [valN, if_pos hk, h]
    · rename_i hk
      simp only [Bool.and_eq_true] at h
      rw [dep_eq, if_neg hk] at he
      match e, he with
      | e + 1, he =>
        simp only [valN, if_neg hk, Bool.and_eq_true]
        exact ⟨h.1, List.all_eq_true.2 fun x hx => valN_up d e x (List.all_eq_true.1 h.2 x hx) (Nat.le_trans (depL_mem hx) (by omega))⟩
theorem headT_inner (k : Int) (i lab : List UInt8) (s t e : Int) (l m : List Con) : headT (.mk k i lab s t e l) = headT (.mk k i lab s t e m) := rfl
theorem txtL_map : ∀ l : List Con, txtL l = l.map Con.txt
  | [] => rfl
  | c :: l => by rw [txtL, txtL_map l, List.map_cons]
theorem txt_eq (c : Con) : c.txt = if c.kind = 0 then [] else if c.kind = 1 then headT c else headT c ++ 40 :: (joinC (c.inner.map Con.txt) ++ [41]) := by
  obtain ⟨k, i, lab, s, t, e, l⟩ := c
  simp only [Con.txt, Con.kind, Con.inner, txtL_map, headT_inner k i lab s t e l []]
  rfl
/-- The text by steps is the text. -/
theorem txtN_txt : ∀ (d : Nat) (c : Con), c.dep ≤ d → txtN d c = c.txt
  | 0, c, h => by
    rw [txt_eq]
    rw [dep_eq] at h
    by_cases hk : c.kind = 0
    · rw [if_pos hk]
      rfl
    · rw [if_neg hk] at h
      omega
  | d + 1, c, h => by
    rw [txt_eq]
    by_cases hk : c.kind = 0
    · simp only [txtN, if_pos hk]
    · rw [dep_eq, if_neg hk] at h
      have : c.inner.map (txtN d) = c.inner.map Con.txt := List.map_congr_left fun x hx => txtN_txt d x (Nat.le_trans (depL_mem hx) (by omega))
      simp only [txtN, if_neg hk, this]
/-- A VALID CONTENT's TEXT IS READ AS THIS CONTENT, AND NOTHING IS LEFT. -/
theorem read_txt {d : Nat} {c : Con} (h : valN d c = true) : readN d c.txt = some (c, []) := by
  have := readN_txt d c [] h (.inl rfl)
  rwa [List.append_nil, txtN_txt d c (valN_dep d c h)] at this
/-- A text is that of at most one valid content. -/
theorem txt_inj {d : Nat} {a b : Con} (ha : valN d a = true) (hb : valN d b = true) (h : a.txt = b.txt) : a = b := by
  have h1 := read_txt ha
  rw [h, read_txt hb] at h1
  exact (Prod.mk.inj (Option.some.inj h1)).1.symm
/-- Parsing as the chapter has it: what is read is asked again. -/
def parseN (d : Nat) (s : List UInt8) : Option Con :=
  match readN d s with
  | some (c, []) => if valN d c && c.txt == s then some c else none
  | _ => none
theorem parseN_iff {d : Nat} {s : List UInt8} {c : Con} : parseN d s = some c ↔ valN d c = true ∧ c.txt = s := by
  constructor
  · intro h
    unfold parseN at h
    split at h
    · split at h
      · rename_i hc
        cases h
        simp only [Bool.and_eq_true, beq_iff_eq] at hc
        exact hc
      · cases h
    · cases h
  · rintro ⟨h1, rfl⟩
    unfold parseN
    rw [read_txt h1]
    simp [h1]
theorem walkL_flat : ∀ l : List Con, walkL l = l.flatMap Con.walk
  | [] => rfl
  | c :: l => by rw [walkL, walkL_flat l, List.flatMap_cons]
theorem walk_eq (c : Con) : c.walk = c :: c.inner.flatMap Con.walk := by
  obtain ⟨k, i, lab, s, t, e, l⟩ := c
  simp only [Con.walk, Con.inner, walkL_flat]
end Go.Proofs.YtoohnjlghjapnaaDoor
