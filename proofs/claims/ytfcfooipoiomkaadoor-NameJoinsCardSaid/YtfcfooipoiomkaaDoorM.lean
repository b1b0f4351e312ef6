/- Plain facts on pieces, links and cleaned texts. -/
import Derived.Test.YtfcfooipoiomkaaDoorI
namespace Go.Proofs.YtfcfooipoiomkaaDoor

def Free (c : UInt8) (l : List UInt8) : Prop := ∀ b ∈ l, b ≠ c

theorem pieces_free (c : UInt8) : ∀ l, ∀ p ∈ pieces c l, Free c p
  | [], p, h => by simp [pieces] at h; subst h; intro b hb; cases hb
  | x :: r, p, h => by
    have ih := pieces_free c r
    unfold pieces at h
    split at h
    · simp only [List.mem_cons] at h
      rcases h with rfl | h
      · intro b hb; cases hb
      · exact ih p h
    · rename_i hx
      split at h
      · rename_i hq; exact absurd hq (pieces_ne c r)
      · rename_i q qs hq
        rw [hq] at ih
        simp only [List.mem_cons] at h
        rcases h with rfl | h
        · intro b hb
          rcases List.mem_cons.1 hb with rfl | hb
          · exact hx
          · exact ih q (List.mem_cons_self ..) b hb
        · exact ih p (List.mem_cons_of_mem _ h)

theorem pieces_of_free (c : UInt8) : ∀ l, Free c l → pieces c l = [l]
  | [], _ => rfl
  | x :: r, h => by
    rw [pieces, if_neg (h x (List.mem_cons_self ..)), pieces_of_free c r fun b hb => h b (List.mem_cons_of_mem _ hb)]

theorem pieces_snoc (c : UInt8) : ∀ (a q : List UInt8), Free c q → pieces c (a ++ c :: q) = pieces c a ++ [q]
  | [], q, h => by simp [pieces, pieces_of_free c q h]
  | x :: a, q, h => by
    have ih := pieces_snoc c a q h
    rw [List.cons_append, pieces, pieces, ih]
    split
    · rfl
    · cases hp : pieces c a with
      | nil => exact absurd hp (pieces_ne c a)
      | cons p ps => rfl

/-- The pieces with c between them. -/
def joinP (c : UInt8) : List (List UInt8) → List UInt8
  | [] => []
  | p :: ps => p ++ ps.flatMap fun q => c :: q

theorem joinP_pieces (c : UInt8) : ∀ l, joinP c (pieces c l) = l
  | [] => rfl
  | x :: r => by
    have ih := joinP_pieces c r
    rw [pieces]
    cases hp : pieces c r with
    | nil => exact absurd hp (pieces_ne c r)
    | cons p ps =>
      rw [hp] at ih
      split
      · rename_i hx
        subst hx
        simp [joinP] at ih ⊢
        exact ih
      · simp [joinP] at ih ⊢
        exact ih

theorem pieces_flat (c : UInt8) : ∀ (ps : List (List UInt8)) (a : List UInt8), (∀ p ∈ ps, Free c p) → pieces c (a ++ ps.flatMap fun q => c :: q) = pieces c a ++ ps
  | [], a, _ => by simp
  | p :: ps, a, h => by
    rw [List.flatMap_cons, ← List.append_assoc, pieces_flat c ps (a ++ c :: p) fun q hq => h q (List.mem_cons_of_mem _ hq), pieces_snoc c a p (h p (List.mem_cons_self ..)), List.append_assoc]
    rfl
theorem pieces_joinP (c : UInt8) (p : List UInt8) (ps : List (List UInt8)) (h : ∀ q ∈ p :: ps, Free c q) : pieces c (joinP c (p :: ps)) = p :: ps := by
  rw [joinP, pieces_flat c ps p fun q hq => h q (List.mem_cons_of_mem _ hq), pieces_of_free c p (h p (List.mem_cons_self ..))]
  rfl

theorem clean1_mem (b : UInt8) : LinkSet.contains (clean1 LinkSet b) = true := by
  unfold clean1
  split
  · assumption
  · decide
theorem clean1_id {b : UInt8} (h : LinkSet.contains b = true) : clean1 LinkSet b = b := by rw [clean1, if_pos h]
theorem clean1_eq46 {b : UInt8} (h : clean1 LinkSet b = 46) : b = 46 := by
  unfold clean1 at h
  split at h
  · exact h
  · cases h
theorem mapclean_id : ∀ {l : List UInt8}, allIn LinkSet l = true → l.map (clean1 LinkSet) = l
  | [], _ => rfl
  | b :: r, h => by
    unfold allIn at h
    rw [List.all_cons, Bool.and_eq_true] at h
    rw [List.map_cons, clean1_id h.1, mapclean_id h.2]
theorem allIn_mapclean : ∀ l : List UInt8, allIn LinkSet (l.map (clean1 LinkSet)) = true
  | [] => rfl
  | b :: r => by
    have := allIn_mapclean r
    unfold allIn at this ⊢
    rw [List.map_cons, List.all_cons, clean1_mem, this]
    rfl
theorem free_of_allIn {l : List UInt8} (h : allIn LinkSet l = true) : Free 47 l := by
  intro b hb e
  subst e
  unfold allIn at h
  have := List.all_eq_true.1 h 47 hb
  revert this
  decide
theorem dots_mapclean {p : List UInt8} (h1 : p ≠ [46]) (h2 : p ≠ [46, 46]) : isDotsB (p.map (clean1 LinkSet)) = false := by
  unfold isDotsB
  rw [Bool.or_eq_false_iff]
  refine ⟨beq_eq_false_iff_ne.2 fun e => h1 ?_, beq_eq_false_iff_ne.2 fun e => h2 ?_⟩
  · cases p with
    | nil => cases e
    | cons x r =>
      cases r with
      | nil => simp at e; rw [clean1_eq46 e]
      | cons y r => simp at e
  · cases p with
    | nil => cases e
    | cons x r =>
      cases r with
      | nil => simp at e
      | cons y r =>
        cases r with
        | nil => simp at e; rw [clean1_eq46 e.1, clean1_eq46 e.2]
        | cons z r => simp at e
theorem linkPart_mapclean {p : List UInt8} (h0 : p ≠ []) (h1 : p ≠ [46]) (h2 : p ≠ [46, 46]) : linkPart (p.map (clean1 LinkSet)) = true := by
  unfold linkPart
  rw [dots_mapclean h1 h2, allIn_mapclean]
  cases p with
  | nil => exact absurd rfl h0
  | cons x r => rfl

theorem stepC_else' {acc p : List UInt8} (h0 : p ≠ []) (h1 : p ≠ [46]) (h2 : p ≠ [46, 46]) :
    stepC acc p = if ((if acc = [] then [] else acc ++ [47]) ++ p.map (clean1 LinkSet)).length ≤ 256 then some ((if acc = [] then [] else acc ++ [47]) ++ p.map (clean1 LinkSet)) else none := by
  unfold stepC
  rw [if_neg (by simp [h0, h1]), if_neg h2]

/-- What a step leaves is a link name, or nothing. -/
theorem stepC_link {acc p a : List UInt8} (_hp : Free 47 p) (hacc : acc = [] ∨ linkB acc = true) (h : stepC acc p = some a) : a = [] ∨ linkB a = true := by
  by_cases h0 : p = []
  · rw [h0] at h
    cases h; exact hacc
  by_cases h1 : p = [46]
  · rw [h1] at h
    cases h; exact hacc
  by_cases h2 : p = [46, 46]
  · rw [h2] at h
    cases h
  rw [stepC_else' h0 h1 h2] at h
  have hpart := linkPart_mapclean h0 h1 h2
  by_cases hlen : ((if acc = [] then [] else acc ++ [47]) ++ p.map (clean1 LinkSet)).length ≤ 256
  · rw [if_pos hlen] at h
    have ha := Option.some.inj h
    subst ha
    refine .inr ?_
    unfold linkB
    rw [decide_eq_true hlen, Bool.true_and]
    by_cases he : acc = []
    · rw [if_pos he, List.nil_append, pieces_of_free 47 _ (free_of_allIn (allIn_mapclean p))]
      simp [hpart]
    · rw [if_neg he, List.append_assoc, List.singleton_append, pieces_snoc 47 _ _ (free_of_allIn (allIn_mapclean p)), List.all_append]
      have hl := hacc.resolve_left he
      unfold linkB at hl
      rw [Bool.and_eq_true] at hl
      rw [hl.2]
      simp [hpart]
  · rw [if_neg hlen] at h
    cases h

theorem foldC_link : ∀ (ps : List (List UInt8)) (acc a : List UInt8), (∀ p ∈ ps, Free 47 p) → (acc = [] ∨ linkB acc = true) → foldC ps acc = some a → a = [] ∨ linkB a = true
  | [], acc, a, _, hacc, h => by cases h; exact hacc
  | p :: ps, acc, a, hf, hacc, h => by
    rw [foldC] at h
    cases hs : stepC acc p with
    | none => rw [hs] at h; cases h
    | some b =>
      rw [hs] at h
      exact foldC_link ps b a (fun q hq => hf q (List.mem_cons_of_mem _ hq)) (stepC_link (hf p (List.mem_cons_self ..)) hacc hs) h

theorem clean_link {l : List UInt8} (h : (cleanB l).2 = true) : linkB (cleanB l).1 = true := by
  unfold cleanB at h ⊢
  cases hf : foldC (pieces 47 l) [] with
  | none => rw [hf] at h; cases h
  | some a =>
    rw [hf] at h
    have ha : 0 < a.length := by simpa using h
    exact (foldC_link _ _ _ (pieces_free 47 l) (.inl rfl) hf).resolve_left fun e => by rw [e] at ha; cases ha

/-- Good parts are put behind one another as they are. -/
theorem stepC_good {acc p : List UInt8} (hp : linkPart p = true) (hlen : ((if acc = [] then [] else acc ++ [47]) ++ p).length ≤ 256) : stepC acc p = some ((if acc = [] then [] else acc ++ [47]) ++ p) := by
  unfold linkPart at hp
  simp only [Bool.and_eq_true, Bool.not_eq_true'] at hp
  obtain ⟨⟨h0, h1⟩, h2⟩ := hp
  unfold isDotsB at h1
  rw [Bool.or_eq_false_iff] at h1
  have n0 : p ≠ [] := fun e => by rw [e] at h0; cases h0
  have n1 : p ≠ [46] := fun e => by rw [e] at h1; cases h1.1
  have n2 : p ≠ [46, 46] := fun e => by rw [e] at h1; cases h1.2
  rw [stepC_else' n0 n1 n2, mapclean_id h2, if_pos hlen]
theorem foldC_good : ∀ (ps : List (List UInt8)) (acc : List UInt8), acc ≠ [] → (∀ p ∈ ps, linkPart p = true) → (acc ++ ps.flatMap fun q => 47 :: q).length ≤ 256 → foldC ps acc = some (acc ++ ps.flatMap fun q => 47 :: q)
  | [], acc, _, _, _ => by simp [foldC]
  | p :: ps, acc, ha, hg, hl => by
    rw [List.flatMap_cons] at hl ⊢
    have hl' : (acc ++ [47] ++ p).length ≤ 256 := by simp at hl ⊢; omega
    have hs := stepC_good (acc := acc) (hg p (List.mem_cons_self ..)) (by rw [if_neg ha]; exact hl')
    rw [if_neg ha] at hs
    have e : acc ++ ((47 :: p) ++ ps.flatMap fun q => 47 :: q) = (acc ++ [47] ++ p) ++ ps.flatMap fun q => 47 :: q := by simp
    rw [e] at hl ⊢
    rw [foldC, hs]
    exact foldC_good ps _ (by simp) (fun q hq => hg q (List.mem_cons_of_mem _ hq)) hl
theorem clean_of_link {l : List UInt8} (h : linkB l = true) : cleanB l = (l, true) := by
  unfold linkB at h
  rw [Bool.and_eq_true] at h
  have hlen : l.length ≤ 256 := of_decide_eq_true h.1
  have hj := joinP_pieces 47 l
  have hg := List.all_eq_true.1 h.2
  have hf : foldC (pieces 47 l) [] = some l ∧ l ≠ [] := by
    cases hp : pieces 47 l with
    | nil => exact absurd hp (pieces_ne 47 l)
    | cons p ps =>
      rw [hp] at hj hg
      rw [joinP] at hj
      have hpp := hg p (List.mem_cons_self ..)
      have hpl : p.length ≤ l.length := by rw [← hj]; simp
      have hs := stepC_good (acc := []) hpp (by simp; omega)
      rw [if_pos rfl, List.nil_append] at hs
      have hpe : p ≠ [] := fun e => by subst e; cases hpp
      rw [foldC, hs]
      refine ⟨?_, fun e => hpe (by rw [e] at hj; exact (List.append_eq_nil_iff.1 hj).1)⟩
      show foldC ps p = some l
      rw [foldC_good ps p hpe (fun q hq => hg q (List.mem_cons_of_mem _ hq)) (by rw [hj]; exact hlen), hj]
  unfold cleanB
  rw [hf.1]
  simp only [Prod.mk.injEq, true_and, decide_eq_true_eq]
  exact List.length_pos_iff.2 hf.2
end Go.Proofs.YtfcfooipoiomkaaDoor
