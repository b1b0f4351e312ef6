/- Arguments that are lists of events: what lies in memory. -/
import Derived.Test.YtikjbhjdpamceaaFrame
import Derived.Test.YtikjbhjdpamceaaF
import Derived.Deep.Slices
import Derived.Deep.Fields
import Derived.ChangeSame
namespace Go.Proofs.Ytikjbhjdpamceaa
open Go.ChangeShapes Go.WideShapes Go.ChangeAt Go.RowKit Go.Deep

/-- A list of things, one for each number below n. -/
theorem list_of {α : Type} {Q : Nat → α → Prop} : ∀ n : Nat, (∀ i, i < n → ∃ x, Q i x) → ∃ l : List α, l.length = n ∧ ∀ (j : Nat) x, l[j]? = some x → Q j x
  | 0, _ => ⟨[], rfl, fun j x h => by simp at h⟩
  | n + 1, h => by
    obtain ⟨l, hl, hq⟩ := list_of n fun i hi => h i (by omega)
    obtain ⟨x, hx⟩ := h n (by omega)
    refine ⟨l ++ [x], by simp [hl], fun j y hy => ?_⟩
    rcases Nat.lt_or_ge j l.length with hj | hj
    · rw [List.getElem?_append_left hj] at hy
      exact hq j y hy
    · rw [List.getElem?_append_right hj] at hy
      have hj0 : j - l.length = 0 := by
        have := (List.getElem?_eq_some_iff.1 hy).1
        simp at this
        omega
      rw [hj0] at hy
      simp at hy
      subst hy
      rw [show j = n by omega]
      exact hx

theorem cells42 : Try.prog.cellsOf 42 = 5 := by kernel_rfl
theorem cells9 : Try.prog.cellsOf 9 = 1 := by kernel_rfl
theorem fields42 : ∃ f0 f1 f2 f3 f4 : Field, Try.prog.underlying 42 = some (.struct #[f0, f1, f2, f3, f4]) ∧ f0.type = 3 ∧ f0.offset = 0 ∧ f1.type = 3 ∧ f1.offset = 1 ∧ f2.type = 3 ∧ f2.offset = 2 ∧ f3.type = 9 ∧ f3.offset = 3 ∧ f4.type = 9 ∧ f4.offset = 4 := ⟨_, _, _, _, _, Try.underlying42, rfl, rfl, rfl, rfl, rfl, rfl, rfl, rfl, rfl, rfl⟩

section
variable {H : Type} {enc : TypeId × Value → H} {W : World} {base : Nat} {spare : Nat → Bool} {held : Bool}
theorem five_of {α : Type} : ∀ {l : List α}, l.length = 5 → ∃ a b c d e, l = [a, b, c, d, e]
  | [a, b, c, d, e], _ => ⟨a, b, c, d, e, rfl⟩
theorem ev_of_trod {fuel : Nat} {cs : List Value} {x : DataW H × List MemPlace} (h : DataW.trod enc Try.prog W base spare held fuel 42 cs = some x) : ∃ y : Ev, cs = evC y := by
  obtain ⟨f0, f1, f2, f3, f4, hs, t0, o0, t1, o1, t2, o2, t3, o3, t4, o4⟩ := fields42
  obtain ⟨xs, n, _, _, hcl, hxl, hf⟩ := DataW.trod_struct hs h
  rw [cells42] at hcl
  have h0 := hf 0 f0 rfl
  have h1 := hf 1 f1 rfl
  have h2 := hf 2 f2 rfl
  have h3 := hf 3 f3 rfl
  have h4 := hf 4 f4 rfl
  rw [t0, o0, cells3] at h0
  rw [t1, o1, cells3] at h1
  rw [t2, o2, cells3] at h2
  rw [t3, o3, cells9] at h3
  rw [t4, o4, cells9] at h4
  have hl2 : xs.length = 5 := hxl
  rw [List.getElem?_eq_getElem (show 0 < xs.length by omega)] at h0
  rw [List.getElem?_eq_getElem (show 1 < xs.length by omega)] at h1
  rw [List.getElem?_eq_getElem (show 2 < xs.length by omega)] at h2
  rw [List.getElem?_eq_getElem (show 3 < xs.length by omega)] at h3
  rw [List.getElem?_eq_getElem (show 4 < xs.length by omega)] at h4
  obtain ⟨s0, e0, _⟩ := DataW.trod_int Try.underlying3 h0
  obtain ⟨s1, e1, _⟩ := DataW.trod_int Try.underlying3 h1
  obtain ⟨s2, e2, _⟩ := DataW.trod_int Try.underlying3 h2
  obtain ⟨s3, e3, _, _⟩ := DataW.trod_string Try.underlying9 h3
  obtain ⟨s4, e4, _, _⟩ := DataW.trod_string Try.underlying9 h4
  obtain ⟨c0, c1, c2, c3, c4, rfl⟩ := five_of hcl
  refine ⟨⟨s0, s1, s2, s3, s4⟩, ?_⟩
  simp at e0 e1 e2 e3 e4
  rw [e0, e1, e2, e3, e4]
  rfl

theorem events_of_trod {fuel : Nat} {v : Value} {x : DataW H × List MemPlace} (h : DataW.trod enc Try.prog W base spare held fuel 23 [v] = some x) : ∃ l, EHas W v l ∧ l.length ≤ 9223372036854775807 := by
  rcases open_slice Try.underlying23 h with ⟨hcs, hx⟩ | ⟨ad, len, cap, m, k, D, Pl, hcs, _, hl, hm, hmm, hx, hi⟩
  · simp at hcs
    subst hcs
    exact ⟨[], .inl ⟨none, 0, rfl, rfl⟩, Nat.zero_le _⟩
  · simp at hcs
    subst hcs
    by_cases hn : len = 0
    · subst hn
      exact ⟨[], .inl ⟨_, _, rfl, rfl⟩, Nat.zero_le _⟩
    · have hlm : len ≤ m := by rw [hmm]; split <;> omega
      have hel : ∀ i, i < len → ∃ y : Ev, ∀ j u, (evC y)[j]? = some u → W.cell? ((ad.add (i * 5)).add j) = some u := fun i hi' => by
        obtain ⟨cs', hc, ht⟩ := hi i (by omega)
        rw [cells42] at hc
        obtain ⟨_, hcl, hat⟩ := World.cells?_some hc
        obtain ⟨y, rfl⟩ := ev_of_trod ht
        refine ⟨y, fun j u hu => ?_⟩
        have hj : j < 5 := (List.getElem?_eq_some_iff.1 hu).1
        have := hat j (by omega)
        rw [this, ← hu]
      obtain ⟨y0, hy0⟩ := hel 0 (by omega)
      have hy00 := hy0 0 _ rfl
      rw [Nat.zero_mul] at hy00
      obtain ⟨b, o, rfl, hb⟩ := plain_addr hy00
      obtain ⟨l, hll, hq⟩ := list_of len hel
      refine ⟨l, .inr ⟨b, o, cap, by rw [hll], hb, fun j y hy m u hu => ?_⟩, by rw [hll]; unfold maxLen at hm; omega⟩
      have := hq j y hy m u hu
      rw [add_plain, add_plain] at this
      exact this
theorem events_of_arg {v : Value} {d : DataW H} {p : List MemPlace} (h : DataW.Trod enc Try.prog W base spare held 23 v d p) (hv : v.cells = #[v]) : ∃ l, EHas W v l ∧ l.length ≤ 9223372036854775807 := by
  obtain ⟨fuel, hf⟩ := h
  rw [hv] at hf
  exact events_of_trod hf
end
end Go.Proofs.Ytikjbhjdpamceaa
