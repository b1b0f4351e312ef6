/- The reference's Format on lists: its conditions are those of the program. -/
import Derived.Test.YtfpkppgecmbglaaGreatDoorZB
namespace Go.Proofs.YtfpkppgecmbglaaGreatDoor

def c10 (x : Gp) (pt : Bool) : Bool := x.text.isEmpty || (!(x.text.all prCh) || (pt || (decide (x.word ≠ 0) || x.more)))
def c13 (x : Gp) : Bool := decide (x.kind < 2) || decide (11 < x.kind)
def c15 (x : Gp) : Bool := (decide (x.kind = 7) && !nmB x.text) || (decide (x.kind = 8) && !kyB x.text)
def c17 (x : Gp) : Bool := decide (x.kind ≠ 7) && (decide (x.kind ≠ 8) && !x.text.isEmpty)
def c19 (x : Gp) : Bool := (decide (x.kind ≠ 9) && (decide (x.word ≠ 0) || x.more)) || (decide (x.word < 0) || (decide (99 < x.word) || (decide (x.word = 0) && x.more)))
def c21 (x : Gp) (nx : List UInt8) : Bool := decide (x.kind = 9) && (decide (x.word = 0) && (nx.head? == some 123))
/-- What the reference says of a piece: pt: a text stands ahead of it; nx: the text behind it. -/
def goodR (x : Gp) (pt : Bool) (nx : List UInt8) : Bool := if x.kind = 1 then !c10 x pt else !(c13 x || (c15 x || (c17 x || (c19 x || (c21 x nx || (decide (x.kind = 11) && azHead nx))))))
theorem ok_text {x : Gp} (h : x.kind = 1) : okG x = !c10 x false := by
  obtain ⟨k, t, n, m⟩ := x
  simp only at h
  subst h
  unfold okG c10
  simp only
  rw [if_neg (by decide)]
  by_cases hn : n ≠ 0 ∨ m = true
  · rw [if_pos hn]
    rcases hn with h | h
    · simp [h]
    · simp [h]
  · rw [if_neg hn, if_pos trivial]
    have h1 : n = 0 := by
      rcases Int.lt_trichotomy n 0 with e | e | e
      · exact absurd (.inl (by omega)) hn
      · exact e
      · exact absurd (.inl (by omega)) hn
    have h2 : m = false := by cases m with | false => rfl | true => exact absurd (.inr rfl) hn
    subst h1 h2
    cases t.isEmpty <;> cases t.all prCh <;> rfl
theorem ok_other {x : Gp} (h : x.kind ≠ 1) : okG x = !(c13 x || (c15 x || (c17 x || c19 x))) := by
  obtain ⟨k, t, n, m⟩ := x
  simp only at h
  unfold okG c13 c15 c17 c19
  simp only
  by_cases h9 : k = 9
  · subst h9
    rw [if_pos rfl]
    generalize t.isEmpty = te
    rw [Bool.eq_iff_iff]
    cases te <;> cases m <;> simp <;> omega
  · rw [if_neg h9]
    by_cases hn : n ≠ 0 ∨ m = true
    · rw [if_pos hn]
      rcases hn with e | e
      · simp [h9, e]
      · simp [h9, e]
    · rw [if_neg hn, if_neg h]
      have h1 : n = 0 := by
        rcases Int.lt_trichotomy n 0 with e | e | e
        · exact absurd (.inl (by omega)) hn
        · exact e
        · exact absurd (.inl (by omega)) hn
      have h2 : m = false := by cases m with | false => rfl | true => exact absurd (.inr rfl) hn
      subst h1 h2
      by_cases h7 : k = 7
      · subst h7; simp
      · rw [if_neg h7]
        by_cases h8 : k = 8
        · subst h8; simp
        · rw [if_neg h8]
          generalize t.isEmpty = te
          rw [Bool.eq_iff_iff]
          cases te <;> simp [h7, h8, h9] <;> omega
def prevT (l : List Gp) (i : Nat) : Bool := match i with
  | 0 => false
  | j + 1 => match l[j]? with
    | none => false
    | some y => decide (y.kind = 1)
def nextG (l : List Gp) (i : Nat) : List UInt8 := match l[i + 1]? with
  | none => []
  | some y => if y.kind = 1 then y.text else []
theorem sm_head {x : Gp} (h : x.kind = 1) : smG x = azHead x.text := by unfold smG; rw [h]; rfl
theorem good_of_adj {l : List Gp} (h : ∀ j, j < l.length → adjB l j = true) {i : Nat} {x : Gp} (hx : l[i]? = some x) : goodR x (prevT l i) (nextG l i) = true := by
  have hi : i < l.length := (List.getElem?_eq_some_iff.1 hx).1
  have hok := adj_ok hx (h i hi)
  unfold goodR
  by_cases hk : x.kind = 1
  · rw [if_pos hk]
    have hp : prevT l i = false := by
      cases i with
      | zero => rfl
      | succ j =>
        obtain ⟨y, hy⟩ : ∃ y, l[j]? = some y := ⟨_, List.getElem?_eq_getElem (by omega)⟩
        have ha := h (j + 1) hi
        rw [adj_at hx hy, Bool.and_eq_true] at ha
        unfold prevT
        simp only [hy]
        rw [decide_eq_false_iff_not]
        intro hy1
        have := ha.2
        unfold precG at this
        rw [if_neg (by rw [hk]; simp), if_pos hy1] at this
        cases this
    rw [hp, ← ok_text hk]
    exact hok
  · rw [if_neg hk]
    have h4 := ok_other hk
    rw [hok] at h4
    have hn : c21 x (nextG l i) = false ∧ (decide (x.kind = 11) && azHead (nextG l i)) = false := by
      unfold nextG
      cases hy : l[i + 1]? with
      | none => simp [c21, azHead]
      | some y =>
        simp only
        have hi1 : i + 1 < l.length := (List.getElem?_eq_some_iff.1 hy).1
        have ha := h (i + 1) hi1
        rw [adj_at hy hx, Bool.and_eq_true] at ha
        by_cases hy1 : y.kind = 1
        · rw [if_pos hy1]
          have hp := ha.2
          unfold precG at hp
          rw [if_neg (by rw [hy1]; simp), if_neg hk] at hp
          refine ⟨?_, ?_⟩
          · unfold c21
            by_cases h9 : x.kind = 9
            · rw [if_neg (by rw [h9]; decide), if_pos h9] at hp
              rw [decide_eq_true h9, Bool.true_and]
              by_cases h0 : x.word = 0
              · rw [h0] at hp ⊢
                simpa using hp
              · rw [decide_eq_false h0]; rfl
            · rw [decide_eq_false h9]; rfl
          · by_cases h11 : x.kind = 11
            · rw [if_pos h11, sm_head hy1] at hp
              rw [decide_eq_true h11, Bool.true_and]
              simpa using hp
            · rw [decide_eq_false h11]; rfl
        · rw [if_neg hy1]
          simp [c21, azHead]
    rw [hn.1, hn.2]
    simpa using h4.symm
theorem good_ok {l : List Gp} {i : Nat} {x : Gp} (h : goodR x (prevT l i) (nextG l i) = true) : okG x = true := by
  unfold goodR at h
  by_cases hk : x.kind = 1
  · rw [if_pos hk] at h
    rw [ok_text hk]
    unfold c10 at h ⊢
    simp only [Bool.not_eq_true', Bool.or_eq_false_iff] at h ⊢
    exact ⟨h.1, h.2.1, trivial, h.2.2.2⟩
  · rw [if_neg hk] at h
    rw [ok_other hk]
    simp only [Bool.not_eq_true', Bool.or_eq_false_iff] at h ⊢
    exact ⟨h.1, h.2.1, h.2.2.1, h.2.2.2.1⟩
theorem adj_of_good {l : List Gp} (h : ∀ i x, l[i]? = some x → goodR x (prevT l i) (nextG l i) = true) : ∀ j, j < l.length → adjB l j = true := fun j hj => by
  obtain ⟨x, hx⟩ : ∃ x, l[j]? = some x := ⟨_, List.getElem?_eq_getElem hj⟩
  have hok := good_ok (h j x hx)
  cases j with
  | zero => rw [adj_zero hx, hok]
  | succ i =>
    obtain ⟨y, hy⟩ : ∃ y, l[i]? = some y := ⟨_, List.getElem?_eq_getElem (by omega)⟩
    rw [adj_at hx hy, hok, Bool.true_and]
    unfold precG
    by_cases hk : x.kind = 1
    · rw [if_neg (by rw [hk]; simp)]
      have hyok := good_ok (h i y hy)
      have hgx := h (i + 1) x hx
      have hgy := h i y hy
      have hnx : nextG l i = x.text := by unfold nextG; rw [hx]; simp only; rw [if_pos hk]
      rw [hnx] at hgy
      unfold goodR at hgx hgy
      rw [if_pos hk] at hgx
      have hpv : y.kind ≠ 1 := by
        intro e
        unfold c10 prevT at hgx
        simp only [hy, e, decide_true, Bool.true_or, Bool.or_true, Bool.not_true] at hgx
        cases hgx
      rw [if_neg hpv] at hgy ⊢
      simp only [Bool.not_eq_true', Bool.or_eq_false_iff] at hgy
      obtain ⟨-, -, -, h19, h21, h11⟩ := hgy
      by_cases e11 : y.kind = 11
      · rw [if_pos e11, sm_head hk]
        rw [e11] at h11
        simpa using h11
      · rw [if_neg e11]
        by_cases e9 : y.kind = 9
        · rw [if_pos e9]
          unfold c21 c19 at *
          rw [e9] at h21
          simp only [decide_true, Bool.true_and, Bool.and_eq_false_iff, decide_eq_false_iff_not, Bool.or_eq_false_iff] at h21 h19
          rcases h21 with e | e
          · rw [decide_eq_true (by omega), Bool.true_or]
          · rw [bne, e]; simp
        · rw [if_neg e9]
    · rw [if_pos hk]
theorem fmtP_len {p : Pc} (nx : List UInt8) (h : p.kind ≠ 1 → Well nmB kyB p) : p.text.length ≤ (fmtP p nx).length := by
  unfold fmtP
  by_cases e : p.kind = 1
  · rw [if_pos e]; exact escL_len _
  · rw [if_neg e]
    by_cases e78 : p.kind = 7 ∨ p.kind = 8
    · have ht : tailOf p = 123 :: (p.text ++ [125]) := by unfold tailOf; rw [if_pos e78]
      rw [ht, if_neg (by simp)]
      simp only [List.length_cons, List.length_append]
      omega
    · rw [(h e).t0 (fun e7 => e78 (.inl e7)) (fun e8 => e78 (.inr e8))]
      simp
theorem fmtR_all : ∀ (l : List Pc) (acc : List UInt8), (∀ p ∈ l, Right p) → adjG l → acc.length ≤ 256 → fmtR (l.map Pc.g) acc = if 256 < (acc ++ fmtAll l).length then ([], 91) else (acc ++ fmtAll l, 0)
  | [], acc, _, _, hl => by
    rw [fmtAll, List.append_nil, if_neg (by omega)]
    rfl
  | p :: l, acc, hr, ha, hl => by
    have hp := hr p (List.mem_cons_self ..)
    have e : fmtR ((p :: l).map Pc.g) acc = if 256 < p.text.length then ([], 91) else if 256 < (acc ++ wrX (pcOf p.g) (smN (l.map Pc.g))).length then ([], 91) else fmtR (l.map Pc.g) (acc ++ wrX (pcOf p.g) (smN (l.map Pc.g))) := rfl
    rw [e, pcOf_g, wrX_eq hp ha.1, fmtAll]
    have h1 := fmtP_len (nextT l) hp.2
    by_cases h2 : 256 < p.text.length
    · rw [if_pos h2, if_pos (by simp only [List.length_append]; omega)]
    · rw [if_neg h2]
      by_cases h3 : 256 < (acc ++ fmtP p (nextT l)).length
      · rw [if_pos h3, if_pos (by simp only [List.length_append] at h3 ⊢; omega)]
      · rw [if_neg h3, fmtR_all l _ (fun q hq => hr q (List.mem_cons_of_mem _ hq)) ha.2 (by omega), List.append_assoc]
theorem formatE_ok {l : List Gp} (h : ∀ j, j < l.length → adjB l j = true) : formatE l = if 256 < (fmtAll (l.map pcOf)).length then ([], 91) else (fmtAll (l.map pcOf), 0) := by
  obtain ⟨ps, rfl, hR, hA⟩ := ok_list l h
  have e : (ps.map Pc.g).map pcOf = ps := by
    rw [List.map_map]
    refine (List.map_congr_left fun p _ => ?_).trans (List.map_id ps)
    exact pcOf_g p
  unfold formatE
  rw [if_pos ((okAll_iff _).2 h), e, fmtR_all ps [] hR hA (by simp), List.nil_append]
theorem formatE_bad {l : List Gp} {i : Nat} {x : Gp} (hx : l[i]? = some x) (h : goodR x (prevT l i) (nextG l i) = false) : formatE l = ([], 90) := by
  unfold formatE
  rw [if_neg]
  intro ho
  rw [good_of_adj ((okAll_iff l).1 ho) hx] at h
  cases h
theorem next_eq {l : List Gp} {i : Nat} : nextT ((l.map pcOf).drop (i + 1)) = nextG l i := by
  unfold nextG
  cases hy : l[i + 1]? with
  | none =>
    have hl : l.length ≤ i + 1 := List.getElem?_eq_none_iff.1 hy
    rw [List.drop_eq_nil_of_le (by rw [List.length_map]; exact hl)]
    rfl
  | some y =>
    have hl : i + 1 < l.length := (List.getElem?_eq_some_iff.1 hy).1
    rw [List.getElem?_eq_getElem hl] at hy
    rw [← List.map_drop, List.drop_eq_getElem_cons hl, Option.some.inj hy, List.map_cons]
    show (if (pcOf y).kind = 1 then (pcOf y).text else []) = if y.kind = 1 then y.text else []
    have e : ((pcOf y).kind = 1) ↔ y.kind = 1 := by show y.kind.toNat = 1 ↔ y.kind = 1; omega
    by_cases h : y.kind = 1
    · rw [if_pos (e.2 h), if_pos h]; rfl
    · rw [if_neg (fun h2 => h (e.1 h2)), if_neg h]
theorem fmt_drop {l : List Gp} {i : Nat} {x : Gp} (hx : l[i]? = some x) : fmtAll ((l.map pcOf).drop i) = fmtP (pcOf x) (nextG l i) ++ fmtAll ((l.map pcOf).drop (i + 1)) := by
  have hl : i < l.length := (List.getElem?_eq_some_iff.1 hx).1
  have hl2 : i < (l.map pcOf).length := by rw [List.length_map]; exact hl
  rw [List.getElem?_eq_getElem hl] at hx
  rw [List.drop_eq_getElem_cons hl2, fmtAll, next_eq, List.getElem_map, Option.some.inj hx]
end Go.Proofs.YtfpkppgecmbglaaGreatDoor
