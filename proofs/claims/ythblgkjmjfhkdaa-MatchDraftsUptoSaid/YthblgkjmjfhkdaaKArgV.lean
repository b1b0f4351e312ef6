/- Arguments that are terms and devices, where what is read is of moderate bulk. -/
import Derived.Test.YthblgkjmjfhkdaaKFrame
import Derived.Test.YthblgkjmjfhkdaaKMe
import Derived.Deep.Slices
import Derived.Deep.Fields
import Derived.ChangeSame
import Derived.SliceStrings
namespace Go.Proofs.Ythblgkjmjfhkdaa.De
open Go.ChangeShapes Go.WideShapes Go.ChangeAt Go.RowKit Go.Deep

/-- A list of things, one for each number below n. -/
theorem list_of {α : Type} {Q : Nat → α → Prop} : ∀ n : Nat, (∀ i, i < n → ∃ x, Q i x) → ∃ l : List α, l.length = n ∧ ∀ (j : Nat) x, l[j]? = some x → Q j x
  | 0, _ => ⟨[], rfl, fun j x h => by simp at h⟩
  | n + 1, h => by
    obtain ⟨l, hl, hq⟩ := list_of n fun i hi => h i (by omega)
    obtain ⟨x, hx⟩ := h n (by omega)
    refine ⟨l ++ [x], by simp [hl], fun j y hy => ?_⟩
    rcases Nat.lt_or_ge j l.length with hj | hj
    · rw [List.getElem?_append_left hj] at hy
      exact hq j y hy
    · rw [List.getElem?_append_right hj] at hy
      have hj0 : j - l.length = 0 := by
        have := (List.getElem?_eq_some_iff.1 hy).1
        simp at this
        omega
      rw [hj0] at hy
      simp at hy
      subst hy
      rw [show j = n by omega]
      exact hx

theorem cells50 : Try.prog.cellsOf 50 = 2 := by kernel_rfl
theorem cells9 : Try.prog.cellsOf 9 = 1 := by kernel_rfl
theorem cells24 : Try.prog.cellsOf 24 = 1 := by kernel_rfl
theorem fields50 : ∃ f0 f1 : Field, Try.prog.underlying 50 = some (.struct #[f0, f1]) ∧ f0.type = 9 ∧ f0.offset = 0 ∧ f1.type = 9 ∧ f1.offset = 1 := ⟨_, _, Try.underlying50, rfl, rfl, rfl, rfl⟩
theorem two_of {α : Type} : ∀ {l : List α}, l.length = 2 → ∃ a b, l = [a, b]
  | [a, b], _ => ⟨a, b, rfl⟩
theorem four_of {α : Type} : ∀ {l : List α}, l.length = 4 → ∃ a b c d, l = [a, b, c, d]
  | [a, b, c, d], _ => ⟨a, b, c, d, rfl⟩
theorem cells23 : Try.prog.cellsOf 23 = 4 := by kernel_rfl
theorem fields23 : ∃ f0 f1 f2 f3 : Field, Try.prog.underlying 23 = some (.struct #[f0, f1, f2, f3]) ∧ f0.type = 3 ∧ f0.offset = 0 ∧ f1.type = 9 ∧ f1.offset = 1 ∧ f2.type = 3 ∧ f2.offset = 2 ∧ f3.type = 9 ∧ f3.offset = 3 := ⟨_, _, _, _, Try.underlying23, rfl, rfl, rfl, rfl, rfl, rfl, rfl, rfl⟩
theorem bulk_part {H : Type} {d : DataW H} : ∀ {l : List (DataW H)}, d ∈ l → Rows.uptoBulk d ≤ Rows.uptoBulkAll l
  | x :: r, h => by
    simp only [Rows.uptoBulkAll]
    rcases List.mem_cons.1 h with e | e
    · subst e
      omega
    · have := bulk_part e
      omega
section
variable {H : Type} {enc : TypeId × Value → H} {W : World} {base : Nat} {spare : Nat → Bool} {held : Bool}
theorem atr_bulk {fuel : Nat} {cs : List Value} {x : DataW H × List MemPlace} (h : DataW.trod enc Try.prog W base spare held fuel 50 cs = some x) : ∃ y : Atr, cs = [.string y.1, .string y.2] ∧ y.1.size ≤ Rows.uptoBulk x.1 ∧ y.2.size ≤ Rows.uptoBulk x.1 := by
  obtain ⟨f0, f1, hs, t0, o0, t1, o1⟩ := fields50
  obtain ⟨xs, n, _, hx, hcl, hxl, hf⟩ := DataW.trod_struct hs h
  rw [cells50] at hcl
  have h0 := hf 0 f0 rfl
  have h1 := hf 1 f1 rfl
  rw [t0, o0, cells9] at h0
  rw [t1, o1, cells9] at h1
  have hl2 : xs.length = 2 := hxl
  obtain ⟨x0, x1, rfl⟩ := two_of hl2
  obtain ⟨s0, e0, y0, _⟩ := DataW.trod_string Try.underlying9 h0
  obtain ⟨s1, e1, y1, _⟩ := DataW.trod_string Try.underlying9 h1
  obtain ⟨c0, c1, rfl⟩ := two_of hcl
  refine ⟨(s0, s1), ?_, ?_, ?_⟩
  · simp at e0 e1
    rw [e0, e1]
  · rw [hx, y0, y1]
    simp only [List.map_cons, List.map_nil, Rows.uptoBulk, Rows.uptoBulkAll]
    rw [Lib.size_eq]
    omega
  · rw [hx, y0, y1]
    simp only [List.map_cons, List.map_nil, Rows.uptoBulk, Rows.uptoBulkAll]
    rw [Lib.size_eq]
    omega

theorem has_bulk {fuel : Nat} {v : Value} {x : DataW H × List MemPlace} (h : DataW.trod enc Try.prog W base spare held fuel 24 [v] = some x) : ∃ l, Has W v l ∧ l.length ≤ 9223372036854775807 ∧ ∀ a ∈ l, a.1.size ≤ Rows.uptoBulk x.1 ∧ a.2.size ≤ Rows.uptoBulk x.1 := by
  rcases open_slice Try.underlying24 h with ⟨hcs, hx⟩ | ⟨ad, len, cap, m, k, D, Pl, hcs, _, hl, hm, hmm, hx, hi⟩
  · simp at hcs
    subst hcs
    exact ⟨[], .inl ⟨none, 0, rfl, rfl⟩, Nat.zero_le _, fun a ha => by cases ha⟩
  · simp at hcs
    subst hcs
    by_cases hn : len = 0
    · subst hn
      exact ⟨[], .inl ⟨_, _, rfl, rfl⟩, Nat.zero_le _, fun a ha => by cases ha⟩
    · have hlm : len ≤ m := by rw [hmm]; split <;> omega
      have hel : ∀ i, i < len → ∃ y : Atr, (W.cell? (ad.add (i * 2)) = some (.string y.1) ∧ W.cell? ((ad.add (i * 2)).add 1) = some (.string y.2)) ∧ y.1.size ≤ Rows.uptoBulk x.1 ∧ y.2.size ≤ Rows.uptoBulk x.1 := fun i hi' => by
        obtain ⟨cs', hc, ht⟩ := hi i (by omega)
        rw [cells50] at hc
        obtain ⟨_, _, hat⟩ := World.cells?_some hc
        obtain ⟨y, rfl, b1, b2⟩ := atr_bulk ht
        have hb : Rows.uptoBulk (D i) ≤ Rows.uptoBulk x.1 := by
          have h1 : Rows.uptoBulk (D i) ≤ Rows.uptoBulkAll ((List.range len).map D) := bulk_part (List.mem_map.2 ⟨i, List.mem_range.2 hi', rfl⟩)
          rw [hx]
          simp only [Rows.uptoBulk]
          omega
        exact ⟨y, ⟨hat 0 (by omega), hat 1 (by omega)⟩, Nat.le_trans b1 hb, Nat.le_trans b2 hb⟩
      obtain ⟨y0, ⟨hy0, _⟩, _⟩ := hel 0 (by omega)
      rw [Nat.zero_mul] at hy0
      obtain ⟨b, o, rfl, hb⟩ := plain_addr hy0
      obtain ⟨l, hll, hq⟩ := list_of len hel
      refine ⟨l, .inr ⟨b, o, cap, by rw [hll], hb, fun j y hy => ?_⟩, by rw [hll]; unfold maxLen at hm; omega, fun a ha => ?_⟩
      · have := (hq j y hy).1
        rw [add_plain, add_plain] at this
        exact this
      · obtain ⟨j, hj, rfl⟩ := List.getElem_of_mem ha
        exact (hq j _ (List.getElem?_eq_getElem hj)).2

end
section
variable {H : Type} {enc : TypeId × Value → H} {W : World} {base : Nat} {spare : Nat → Bool} {held : Bool}
set_option maxRecDepth 100000 in
theorem term_of_arg {r : Reach} {b0 : Nat} {v : Value} {d : DataW H} {p : List MemPlace} (hv : Value.okWide Try.prog W r b0 23 v) (h : DataW.Trod enc Try.prog W base spare held 23 v d p) : ∃ t : Tm, v = .agg (tmC t) := by
  obtain ⟨cs, rfl, hsz⟩ := okWide_struct Try.underlying23 hv
  obtain ⟨fuel, hf⟩ := h
  obtain ⟨f0, f1, f2, f3, hs, t0, o0, t1, o1, t2, o2, t3, o3⟩ := fields23
  obtain ⟨xs, n, _, hx, hcl, hxl, hfld⟩ := DataW.trod_struct hs hf
  have hxl' : xs.length = 4 := hxl
  rw [cells23] at hcl
  have hcl' : cs.toList.length = 4 := hcl
  obtain ⟨c0, c1, c2, c3, hc⟩ := four_of hcl'
  obtain ⟨x0, x1, x2, x3, rfl⟩ := four_of hxl'
  have hce : cs = #[c0, c1, c2, c3] := Array.toList_inj.1 (by rw [hc])
  subst hce
  have h0 := hfld 0 f0 rfl
  rw [t0, o0, cells3] at h0
  have h0' : DataW.trod enc Try.prog W base spare held n 3 [c0] = some x0 := h0
  have h1 := hfld 1 f1 rfl
  rw [t1, o1, cells9] at h1
  have h1' : DataW.trod enc Try.prog W base spare held n 9 [c1] = some x1 := h1
  have h2 := hfld 2 f2 rfl
  rw [t2, o2, cells3] at h2
  have h2' : DataW.trod enc Try.prog W base spare held n 3 [c2] = some x2 := h2
  have h3 := hfld 3 f3 rfl
  rw [t3, o3, cells9] at h3
  have h3' : DataW.trod enc Try.prog W base spare held n 9 [c3] = some x3 := h3
  obtain ⟨z0, e0, _, _⟩ := DataW.trod_int Try.underlying3 h0'
  obtain ⟨s1, e1, _, _⟩ := DataW.trod_string Try.underlying9 h1'
  obtain ⟨z2, e2, _, _⟩ := DataW.trod_int Try.underlying3 h2'
  obtain ⟨s3, e3, _, _⟩ := DataW.trod_string Try.underlying9 h3'
  simp only [List.cons.injEq, and_true] at e0 e1 e2 e3
  subst e0 e1 e2 e3
  exact ⟨⟨z0, s1.data.toList, z2, s3.data.toList⟩, by unfold tmC; simp only [bs_of]⟩
end
end Go.Proofs.Ythblgkjmjfhkdaa.De
