/- What is written, on lists: the walk's formula is the plain one; right pieces that may stand so are fine. -/
import Derived.Test.YtfpkppgecmbglaaGreatDoorZ
namespace Go.Proofs.YtfpkppgecmbglaaGreatDoor

theorem wr_eq (p : Pc) (small : Bool) (h : p.kind ≠ 1 → Well nmB kyB p) (hs : small = true → p.kind ≠ 11) :
    (if p.kind = 1 then escL p.text else if p.kind = 7 ∨ p.kind = 8 then longS p.kind ++ 123 :: (p.text ++ [125]) else if p.more = true then longS p.kind ++ 123 :: (Lib.itoa p.word ++ [43, 125]) else if 0 < p.word then longS p.kind ++ 123 :: (Lib.itoa p.word ++ [125]) else if small = true then shortS p.kind else longS p.kind) = wrG p small := by
  obtain ⟨k, t, n, m⟩ := p
  simp only at h hs ⊢
  unfold wrG
  simp only
  by_cases h1 : k = 1
  · rw [if_pos h1, if_pos h1]
  have hw := h h1
  have hl : longS k = 36 :: wordOf k := by unfold longS; rw [if_neg h1]
  rw [if_neg h1, if_neg h1, hl]
  by_cases h78 : k = 7 ∨ k = 8
  · rw [if_pos h78]
    have ht : tailOf ⟨k, t, n, m⟩ = 123 :: (t ++ [125]) := by unfold tailOf; simp only; rw [if_pos h78]
    rw [ht, if_neg (by simp)]
    rfl
  rw [if_neg h78]
  have ht0 : tailOf ⟨k, t, n, m⟩ = if k = 9 ∧ 0 < n then 123 :: ((if m then decN n ++ [43] else decN n) ++ [125]) else [] := by unfold tailOf; simp only; rw [if_neg h78]
  by_cases h9 : k = 9 ∧ 0 < n
  · have hit : Lib.itoa (n : Int) = decN n := by
      have h99 := (hw.w9 h9.1).1
      obtain ⟨n', rfl⟩ : ∃ n', n = n' + 1 := ⟨n - 1, by omega⟩
      exact (itoa_dec n' (by simp at h99; omega)).1
    rw [if_pos h9] at ht0
    rw [hit]
    cases m with
    | true =>
      rw [if_pos rfl, ht0]
      simp
    | false =>
      rw [if_neg (by simp), if_pos h9.2, ht0]
      simp
  · rw [if_neg h9] at ht0
    have hm : m = false ∧ n = 0 := by
      by_cases hk : k = 9
      · have hn : n = 0 := by
          rcases Nat.eq_zero_or_pos n with e | e
          · exact e
          · exact absurd ⟨hk, e⟩ h9
        exact ⟨(hw.w9 hk).2 hn, hn⟩
      · exact ⟨(hw.w0 hk).2, (hw.w0 hk).1⟩
    obtain ⟨rfl, rfl⟩ := hm
    rw [ht0]
    cases small with
    | true =>
      have h11 := hs rfl
      simp [shortS, h1, h11]
    | false => simp
/-- A right piece, from what isPiece says. -/
theorem ok_pc {x : Gp} (h : okG x = true) : ∃ p : Pc, x = p.g ∧ 1 ≤ p.kind ∧ p.kind ≤ 11 ∧ p.word ≤ 99 ∧ (p.kind = 1 → p.text ≠ [] ∧ p.text.all prCh = true ∧ p.word = 0 ∧ p.more = false) ∧ (p.kind ≠ 1 → Well nmB kyB p) := by
  obtain ⟨k, t, n, m⟩ := x
  unfold okG at h
  simp only at h
  by_cases h9 : k = 9
  · rw [if_pos h9] at h
    simp only [Bool.and_eq_true, decide_eq_true_eq, Bool.or_eq_true, Bool.not_eq_true', List.isEmpty_iff] at h
    obtain ⟨ht, h0, h99, hm⟩ := h
    subst h9 ht
    refine ⟨⟨9, [], n.toNat, m⟩, by simp [Pc.g]; omega, by simp, by simp, by simp; omega, fun e => absurd e (by simp), fun _ => ⟨by simp, by simp, fun e => absurd e (by simp), fun e => absurd e (by simp), fun _ _ => rfl, fun _ => ⟨by simp; omega, fun e => ?_⟩, fun e => absurd rfl e⟩⟩
    rcases hm with hm | hm
    · simp at e; omega
    · exact hm
  rw [if_neg h9] at h
  by_cases hn : n ≠ 0 ∨ m = true
  · rw [if_pos hn] at h; cases h
  rw [if_neg hn] at h
  have hn0 : n = 0 := by
    rcases Int.lt_trichotomy n 0 with e | e | e
    · exact absurd (.inl (by omega)) hn
    · exact e
    · exact absurd (.inl (by omega)) hn
  have hm0 : m = false := by cases m with | false => rfl | true => exact absurd (.inr rfl) hn
  subst hn0 hm0
  clear hn
  by_cases h1 : k = 1
  · rw [if_pos h1] at h
    subst h1
    simp only [Bool.and_eq_true, Bool.not_eq_true', List.isEmpty_eq_false_iff] at h
    exact ⟨⟨1, t, 0, false⟩, rfl, by simp, by simp, by simp, fun _ => ⟨h.1, h.2, rfl, rfl⟩, fun e => absurd rfl e⟩
  rw [if_neg h1] at h
  by_cases h7 : k = 7
  · rw [if_pos h7] at h
    subst h7
    exact ⟨⟨7, t, 0, false⟩, rfl, by simp, by simp, by simp, fun e => absurd e (by simp), fun _ => ⟨by simp, by simp, fun _ => h, fun e => absurd e (by simp), fun e => absurd rfl e, fun e => absurd e (by simp), fun _ => ⟨rfl, rfl⟩⟩⟩
  rw [if_neg h7] at h
  by_cases h8 : k = 8
  · rw [if_pos h8] at h
    subst h8
    exact ⟨⟨8, t, 0, false⟩, rfl, by simp, by simp, by simp, fun e => absurd e (by simp), fun _ => ⟨by simp, by simp, fun e => absurd e (by simp), fun _ => h, fun _ e => absurd rfl e, fun e => absurd e (by simp), fun _ => ⟨rfl, rfl⟩⟩⟩
  rw [if_neg h8] at h
  simp only [Bool.and_eq_true, decide_eq_true_eq, List.isEmpty_iff] at h
  obtain ⟨h2, h3, ht⟩ := h
  subst ht
  obtain ⟨j, rfl⟩ : ∃ j : Nat, k = j := ⟨k.toNat, by omega⟩
  exact ⟨⟨j, [], 0, false⟩, rfl, by show 1 ≤ j; omega, by show j ≤ 11; omega, by show 0 ≤ 99; omega, fun e => absurd (show (j : Int) = 1 by have : j = 1 := e; omega) h1, fun _ => ⟨by show 2 ≤ j; omega, by show j ≤ 11; omega, fun e => absurd (show (j : Int) = 7 by have : j = 7 := e; omega) h7, fun e => absurd (show (j : Int) = 8 by have : j = 8 := e; omega) h8, fun _ _ => rfl, fun e => absurd (show (j : Int) = 9 by have : j = 9 := e; omega) h9, fun _ => ⟨rfl, rfl⟩⟩⟩
/-- Every two neighbours may stand so. -/
def adjG : List Pc → Prop
  | [] => True
  | p :: l => (∀ q m, l = q :: m → precG p.g q.g = true) ∧ adjG l
theorem fine_of : ∀ l : List Pc, (∀ p ∈ l, (p.kind = 1 → p.text ≠ [] ∧ p.word = 0 ∧ p.more = false) ∧ (p.kind ≠ 1 → Well nmB kyB p)) → adjG l → FineL nmB kyB l
  | [], _, _ => trivial
  | p :: l, ho, ha => by
    have ih := fine_of l (fun q hq => ho q (List.mem_cons_of_mem _ hq)) ha.2
    have hp := ho p (List.mem_cons_self ..)
    have hnx : ∀ q m, l = q :: m → q.kind = 1 → p.kind ≠ 1 ∧ (p.kind = 11 → azHead q.text = false) ∧ (p.kind = 9 → p.word = 0 → q.text.head? ≠ some 123) := fun q m hl hq => by
      have h := ha.1 q m hl
      unfold precG at h
      have hq' : ¬ (q.g.kind ≠ 1) := by show ¬ ((q.kind : Int) ≠ 1); rw [hq]; simp
      rw [if_neg hq'] at h
      have e1 : p.g.kind = (p.kind : Int) := rfl
      refine ⟨fun e => ?_, fun e => ?_, fun e e0 => ?_⟩
      · rw [if_pos (by rw [e1, e]; rfl)] at h; cases h
      · rw [if_neg (by rw [e1, e]; decide), if_pos (by rw [e1, e]; rfl)] at h
        unfold smG at h
        rw [show q.g.kind = (q.kind : Int) from rfl, hq, show q.g.text = q.text from rfl] at h
        simpa using h
      · rw [if_neg (by rw [e1, e]; decide), if_neg (by rw [e1, e]; decide), if_pos (by rw [e1, e]; rfl)] at h
        rw [show p.g.word = (p.word : Int) from rfl, e0, show q.g.text = q.text from rfl] at h
        simpa using h
    refine ⟨fun h1 => ⟨(hp.1 h1).1, (hp.1 h1).2.1, (hp.1 h1).2.2, fun q m hl hq => (hnx q m hl hq).1 h1⟩, fun h1 => ⟨hp.2 h1, fun h9 h0 => ?_, fun h11 => ?_⟩, ih⟩
    · cases l with
      | nil => simp [nextT]
      | cons q m =>
        rw [show nextT (q :: m) = if q.kind = 1 then q.text else [] from rfl]
        by_cases hq : q.kind = 1
        · rw [if_pos hq]; exact (hnx q m rfl hq).2.2 h9 h0
        · rw [if_neg hq]; simp
    · cases l with
      | nil => rfl
      | cons q m =>
        rw [show nextT (q :: m) = if q.kind = 1 then q.text else [] from rfl]
        by_cases hq : q.kind = 1
        · rw [if_pos hq]; exact (hnx q m rfl hq).2.1 h11
        · rw [if_neg hq]; rfl
end Go.Proofs.YtfpkppgecmbglaaGreatDoor
