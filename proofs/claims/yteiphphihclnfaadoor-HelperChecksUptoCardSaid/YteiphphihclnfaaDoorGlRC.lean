/- The reference's way of matching, on lists: sets of places in an alternative, byte by byte. -/
import Derived.Test.YteiphphihclnfaaDoorGlRB
namespace Go.Proofs.YteiphphihclnfaaDoor.Gl
open Go.RowKit

/-- Some place of A matches the rest of the text. -/
def Reach (l : List El) (A : Nat → Bool) (s : List UInt8) : Prop := ∃ i, i ≤ l.length ∧ A i = true ∧ mB (l.drop i) s = true
/-- A star may be left at any time. -/
def ClosedA (l : List El) (A : Nat → Bool) : Prop := ∀ i, starAt l i = true → A i = true → A (i + 1) = true
def nextA (l : List El) (A : Nat → Bool) (c : UInt8) (i : Nat) : Bool := (A i && starAt l i) || (match i with
  | 0 => false
  | j + 1 => A j && (match l[j]? with | some e => !e.star && e.set c | none => false))

theorem star_skip {l : List El} {i : Nat} {s : List UInt8} (h : starAt l i = true) (hm : mB (l.drop (i + 1)) s = true) : mB (l.drop i) s = true := by
  obtain ⟨e, he, hs⟩ := starAt_iff.1 h
  rw [drop_at he]
  exact (mB_star_cases hs).2 (Or.inl hm)

theorem reach_places {l : List El} {A A' : Nat → Bool} (h1 : ∀ i, A i = true → A' i = true) (h2 : ∀ i, i ≤ l.length → A' i = true → ∃ j, j ≤ i ∧ A j = true ∧ ∀ m, j ≤ m → m < i → starAt l m = true) (s : List UInt8) : Reach l A' s ↔ Reach l A s := by
  constructor
  · rintro ⟨i, hi, ha, hm⟩
    obtain ⟨j, hj, hA, hstar⟩ := h2 i hi ha
    refine ⟨j, by omega, hA, ?_⟩
    obtain ⟨d, rfl⟩ : ∃ d, i = j + d := ⟨i - j, by omega⟩
    clear ha hj
    induction d with
    | zero => exact hm
    | succ d ih => exact ih (by omega) (star_skip (hstar (j + d) (by omega) (by omega)) hm) (fun m hm1 hm2 => hstar m hm1 (by omega))
  · rintro ⟨i, hi, ha, hm⟩
    exact ⟨i, hi, h1 i ha, hm⟩

theorem reach_step {l : List El} {A : Nat → Bool} (hc : ClosedA l A) (hok : ∀ e ∈ l, e.ok) {c : UInt8} (ht : isText c = true) (t : List UInt8) : Reach l A (c :: t) ↔ Reach l (nextA l A c) t := by
  constructor
  · rintro ⟨i, hi, ha, hm⟩
    obtain ⟨d, hd⟩ : ∃ d, l.length - i = d := ⟨_, rfl⟩
    induction d generalizing i with
    | zero =>
      rw [List.drop_of_length_le (by omega)] at hm
      simp [mB] at hm
    | succ d ih =>
      have hlt : i < l.length := by omega
      have he : l[i]? = some l[i] := List.getElem?_eq_getElem hlt
      generalize l[i] = e at he
      have hm' := hm
      rw [drop_at he] at hm'
      cases hs : e.star with
      | true =>
        have hst : starAt l i = true := starAt_iff.2 ⟨e, he, hs⟩
        rcases (mB_star_cases hs).1 hm' with h | ⟨x, u, hx, hset, h⟩
        · exact ih (i + 1) (by omega) (hc i hst ha) h (by omega)
        · cases hx
          refine ⟨i, hi, ?_, by rw [drop_at he]; exact h⟩
          unfold nextA
          rw [ha, hst]
          rfl
      | false =>
        obtain ⟨x, u, hx, hset, h⟩ := (mB_one e _ _ hs).1 hm'
        cases hx
        refine ⟨i + 1, by omega, ?_, h⟩
        unfold nextA
        simp only [he, ha, hs, hset]
        simp
  · rintro ⟨i, hi, ha, hm⟩
    unfold nextA at ha
    rw [Bool.or_eq_true, Bool.and_eq_true] at ha
    rcases ha with ⟨ha, hst⟩ | ha
    · obtain ⟨e, he, hs⟩ := starAt_iff.1 hst
      refine ⟨i, hi, ha, ?_⟩
      rw [drop_at he] at hm ⊢
      exact (mB_star_cases hs).2 (Or.inr ⟨c, t, rfl, (hok e (List.mem_of_getElem? he)).2 hs c ht, hm⟩)
    · cases i with
      | zero => simp at ha
      | succ j =>
        have he : l[j]? = some (l[j]'(by omega)) := List.getElem?_eq_getElem (by omega)
        generalize l[j]'(by omega) = e at he
        simp only [he, Bool.and_eq_true, Bool.not_eq_true'] at ha
        refine ⟨j, by omega, ha.1, ?_⟩
        rw [drop_at he]
        exact (mB_one e _ _ ha.2.1).2 ⟨c, t, rfl, ha.2.2, hm⟩

theorem reach_end {l : List El} {A : Nat → Bool} (hc : ClosedA l A) : Reach l A [] ↔ A l.length = true := by
  constructor
  · rintro ⟨i, hi, ha, hm⟩
    obtain ⟨d, hd⟩ : ∃ d, l.length - i = d := ⟨_, rfl⟩
    induction d generalizing i with
    | zero =>
      have : i = l.length := by omega
      rw [← this]; exact ha
    | succ d ih =>
      have hlt : i < l.length := by omega
      have he : l[i]? = some l[i] := List.getElem?_eq_getElem hlt
      generalize l[i] = e at he
      rw [drop_at he] at hm
      cases hs : e.star with
      | true =>
        have hst : starAt l i = true := starAt_iff.2 ⟨e, he, hs⟩
        rcases (mB_star_cases hs).1 hm with h | ⟨x, u, hx, _⟩
        · exact ih (i + 1) (by omega) (hc i hst ha) h (by omega)
        · simp at hx
      | false =>
        obtain ⟨x, u, hx, _⟩ := (mB_one e _ _ hs).1 hm
        simp at hx
  · intro h
    exact ⟨l.length, Nat.le_refl _, h, by rw [List.drop_length]; rfl⟩

theorem reach_start (l : List El) (s : List UInt8) : Reach l (fun i => decide (i = 0)) s ↔ mB l s = true := by
  constructor
  · rintro ⟨i, _, ha, hm⟩
    have : i = 0 := by simpa using ha
    subst this
    exact hm
  · intro h
    exact ⟨0, Nat.zero_le _, rfl, h⟩

/-- One pass of 'places', up to n. -/
def placesA (l : List El) (A : Nat → Bool) : Nat → Nat → Bool
  | 0 => A
  | n + 1 => fun i => if i = n + 1 then placesA l A n (n + 1) || (placesA l A n n && starAt l n) else placesA l A n i

theorem placesA_succ (l : List El) (A : Nat → Bool) (n i : Nat) : placesA l A (n + 1) i = if i = n + 1 then placesA l A n (n + 1) || (placesA l A n n && starAt l n) else placesA l A n i := rfl
theorem placesA_high (l : List El) (A : Nat → Bool) : ∀ n i, n < i → placesA l A n i = A i
  | 0, _, _ => rfl
  | n + 1, i, h => by
    rw [placesA_succ, if_neg (by omega)]
    exact placesA_high l A n i (by omega)
theorem placesA_sub (l : List El) (A : Nat → Bool) : ∀ n i, A i = true → placesA l A n i = true
  | 0, _, h => h
  | n + 1, i, h => by
    rw [placesA_succ]
    split
    · rename_i hi
      rw [← hi, placesA_sub l A n i h]
      rfl
    · exact placesA_sub l A n i h
theorem placesA_from (l : List El) (A : Nat → Bool) : ∀ n i, placesA l A n i = true → ∃ j, j ≤ i ∧ A j = true ∧ ∀ m, j ≤ m → m < i → starAt l m = true
  | 0, i, h => ⟨i, Nat.le_refl _, h, fun m h1 h2 => by omega⟩
  | n + 1, i, h => by
    rw [placesA_succ] at h
    split at h
    · rename_i hi
      rw [Bool.or_eq_true, Bool.and_eq_true] at h
      rcases h with h | ⟨h, hs⟩
      · rw [hi]
        exact placesA_from l A n (n + 1) h
      · obtain ⟨j, hj, ha, hm⟩ := placesA_from l A n n h
        refine ⟨j, by omega, ha, fun m h1 h2 => ?_⟩
        rcases Nat.lt_or_ge m n with h3 | h3
        · exact hm m h1 h3
        · have : m = n := by omega
          rw [this]; exact hs
    · exact placesA_from l A n i h
theorem placesA_low (l : List El) (A : Nat → Bool) : ∀ n k i, i ≤ n → placesA l A (n + k) i = placesA l A n i
  | _, 0, _, _ => rfl
  | n, k + 1, i, h => by
    show placesA l A (n + k + 1) i = _
    rw [placesA_succ, if_neg (by omega)]
    exact placesA_low l A n k i h
theorem placesA_closed (l : List El) (A : Nat → Bool) : ClosedA l (placesA l A l.length) := by
  intro i hs ha
  have hi : i < l.length := starAt_lt hs
  obtain ⟨k, hk⟩ : ∃ k, l.length = i + 1 + k := ⟨l.length - (i + 1), by omega⟩
  rw [hk] at ha ⊢
  rw [placesA_low l A (i + 1) k (i + 1) (Nat.le_refl _)]
  rw [placesA_low l A (i + 1) k i (by omega), placesA_succ, if_neg (by omega)] at ha
  rw [placesA_succ, if_pos rfl, ha, hs, Bool.and_true, Bool.or_true]
theorem reach_placesA (l : List El) (A : Nat → Bool) (s : List UInt8) : Reach l (placesA l A l.length) s ↔ Reach l A s :=
  reach_places (placesA_sub l A _) (fun i _ h => placesA_from l A _ i h) s

/-- The places behind a text. -/
def runA (l : List El) : (Nat → Bool) → List UInt8 → (Nat → Bool)
  | A, [] => A
  | A, c :: t => runA l (placesA l (nextA l A c) l.length) t

theorem runA_match {l : List El} (hok : ∀ e ∈ l, e.ok) : ∀ (s : List UInt8) (A : Nat → Bool), ClosedA l A → s.all isText = true → (runA l A s l.length = true ↔ Reach l A s)
  | [], A, hc, _ => (reach_end hc).symm
  | c :: t, A, hc, hs => by
    rw [List.all_cons, Bool.and_eq_true] at hs
    rw [runA, runA_match hok t _ (placesA_closed l _) hs.2, reach_placesA, reach_step hc hok hs.1]

/-- What 'one' computes is what an alternative matches. -/
theorem one_match {l : List El} (hok : ∀ e ∈ l, e.ok) (s : List UInt8) (hs : s.all isText = true) : runA l (placesA l (fun i => decide (i = 0)) l.length) s l.length = mB l s := by
  rw [Bool.eq_iff_iff, runA_match hok s _ (placesA_closed l _) hs, reach_placesA, reach_start]
end Go.Proofs.YteiphphihclnfaaDoor.Gl
