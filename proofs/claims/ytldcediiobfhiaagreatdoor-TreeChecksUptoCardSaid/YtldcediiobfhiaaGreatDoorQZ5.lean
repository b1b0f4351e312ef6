/- Arguments that are devices, where what is read is of moderate bulk. Arguments that are lists of devices, where what is read is of moderate bulk. -/
import Derived.Test.YtldcediiobfhiaaGreatDoorQFrame
import Derived.Test.YtldcediiobfhiaaGreatDoorQZ4
import Derived.Deep.Slices
import Derived.Deep.Fields
import Derived.ChangeSame
import Derived.Test.YtldcediiobfhiaaGreatDoorQZD
namespace Go.Proofs.YtldcediiobfhiaaGreatDoor.De
open Go.ChangeShapes Go.WideShapes Go.ChangeAt Go.RowKit Go.Deep
/-- A list of things, one for each number below n. -/
theorem list_of {α : Type} {Q : Nat → α → Prop} : ∀ n : Nat, (∀ i, i < n → ∃ x, Q i x) → ∃ l : List α, l.length = n ∧ ∀ (j : Nat) x, l[j]? = some x → Q j x
 | 0, _ => ⟨[], rfl, fun j x h => by simp at h⟩
 | n + 1, h => by
  obtain ⟨l, hl, hq⟩ := list_of n fun i hi => h i (by omega)
  obtain ⟨x, hx⟩ := h n (by omega)
  refine ⟨l ++ [x], by simp [hl], fun j y hy => ?_⟩
  rcases Nat.lt_or_ge j l.length with hj | hj
  ·rw [List.getElem?_append_left hj] at hy
   exact hq j y hy
  ·rw [List.getElem?_append_right hj] at hy
   have hj0 : j - l.length = 0 := by
    have := (List.getElem?_eq_some_iff.1 hy).1
    simp at this
    omega
   rw [hj0] at hy
   simp at hy
   subst hy
   rw [show j = n by omega]
   exact hx
theorem cells99 : Tryz.prog.cellsOf 99 = 2 := by kernel_rfl
theorem cells9 : Tryz.prog.cellsOf 9 = 1 := by kernel_rfl
theorem cells32 : Tryz.prog.cellsOf 32 = 1 := by kernel_rfl
theorem fields99 : ∃ f0 f1 : Field, Tryz.prog.underlying 99 = some (.struct #[f0, f1]) ∧ f0.type = 9 ∧ f0.offset = 0 ∧ f1.type = 9 ∧ f1.offset = 1 := ⟨_, _, Tryz.underlying99, rfl, rfl, rfl, rfl⟩
section
variable {H : Type} {enc : TypeId × Value → H} {W : World} {base : Nat} {spare : Nat → Bool} {held : Bool}
theorem two_of {α : Type} : ∀ {l : List α}, l.length = 2 → ∃ a b, l = [a, b]
 | [a, b], _ => ⟨a, b, rfl⟩
end
theorem bulk_part {H : Type} {d : DataW H} : ∀ {l : List (DataW H)}, d ∈ l → Rows.uptoBulk d ≤ Rows.uptoBulkAll l
 | x :: r, h => by
  simp only [Rows.uptoBulkAll]
  rcases List.mem_cons.1 h with e | e
  ·subst e
   omega
  ·have := bulk_part e
   omega
theorem ten_of {α : Type} : ∀ {l : List α}, l.length = 10 → ∃ a b c d e f g h i j, l = [a, b, c, d, e, f, g, h, i, j]
 | [a, b, c, d, e, f, g, h, i, j], _ => ⟨a, b, c, d, e, f, g, h, i, j, rfl⟩
theorem cells34 : Tryz.prog.cellsOf 34 = 10 := by kernel_rfl
theorem fields34 : ∃ f0 f1 f2 f3 f4 f5 f6 f7 f8 f9 : Field, Tryz.prog.underlying 34 = some (.struct #[f0, f1, f2, f3, f4, f5, f6, f7, f8, f9]) ∧ f0.type = 3 ∧ f0.offset = 0 ∧ f1.type = 3 ∧ f1.offset = 1 ∧ f2.type = 9 ∧ f2.offset = 2 ∧ f3.type = 9 ∧ f3.offset = 3 ∧ f4.type = 9 ∧ f4.offset = 4 ∧ f5.type = 9 ∧ f5.offset = 5 ∧ f6.type = 9 ∧ f6.offset = 6 ∧ f7.type = 3 ∧ f7.offset = 7 ∧ f8.type = 3 ∧ f8.offset = 8 ∧ f9.type = 32 ∧ f9.offset = 9 :=
 ⟨_, _, _, _, _, _, _, _, _, _, Tryz.underlying34, rfl, rfl, rfl, rfl, rfl, rfl, rfl, rfl, rfl, rfl, rfl, rfl, rfl, rfl, rfl, rfl, rfl, rfl, rfl, rfl⟩
section
variable {H : Type} {enc : TypeId × Value → H} {W : World} {base : Nat} {spare : Nat → Bool} {held : Bool}
theorem atr_bulk {fuel : Nat} {cs : List Value} {x : DataW H × List MemPlace} (h : DataW.trod enc Tryz.prog W base spare held fuel 99 cs = some x) : ∃ y : Atr, cs = [.string y.1, .string y.2] ∧ y.1.size ≤ Rows.uptoBulk x.1 ∧ y.2.size ≤ Rows.uptoBulk x.1 := by
 obtain ⟨f0, f1, hs, t0, o0, t1, o1⟩ := fields99
 obtain ⟨xs, n, _, hx, hcl, hxl, hf⟩ := DataW.trod_struct hs h
 rw [cells99] at hcl
 have h0 := hf 0 f0 rfl
 have h1 := hf 1 f1 rfl
 rw [t0, o0, cells9] at h0
 rw [t1, o1, cells9] at h1
 have hl2 : xs.length = 2 := hxl
 obtain ⟨x0, x1, rfl⟩ := two_of hl2
 obtain ⟨s0, e0, y0, _⟩ := DataW.trod_string Tryz.underlying9 h0
 obtain ⟨s1, e1, y1, _⟩ := DataW.trod_string Tryz.underlying9 h1
 obtain ⟨c0, c1, rfl⟩ := two_of hcl
 refine ⟨(s0, s1), ?_, ?_, ?_⟩
 ·simp at e0 e1
  rw [e0, e1]
 ·rw [hx, y0, y1]
  simp only [List.map_cons, List.map_nil, Rows.uptoBulk, Rows.uptoBulkAll]
  rw [Lib.size_eq]
  omega
 ·rw [hx, y0, y1]
  simp only [List.map_cons, List.map_nil, Rows.uptoBulk, Rows.uptoBulkAll]
  rw [Lib.size_eq]
  omega
theorem has_bulk {fuel : Nat} {v : Value} {x : DataW H × List MemPlace} (h : DataW.trod enc Tryz.prog W base spare held fuel 32 [v] = some x) : ∃ l, Has W v l ∧ l.length ≤ 9223372036854775807 ∧ ∀ a ∈ l, a.1.size ≤ Rows.uptoBulk x.1 ∧ a.2.size ≤ Rows.uptoBulk x.1 := by
 rcases open_slice Tryz.underlying32 h with ⟨hcs, hx⟩ | ⟨ad, len, cap, m, k, D, Pl, hcs, _, hl, hm, hmm, hx, hi⟩
 ·simp at hcs
  subst hcs
  exact ⟨[], .inl ⟨none, 0, rfl, rfl⟩, Nat.zero_le _, fun a ha => by cases ha⟩
 ·simp at hcs
  subst hcs
  by_cases hn : len = 0
  ·subst hn
   exact ⟨[], .inl ⟨_, _, rfl, rfl⟩, Nat.zero_le _, fun a ha => by cases ha⟩
  ·have hlm : len ≤ m := by rw [hmm]; split <;> omega
   have hel : ∀ i, i < len → ∃ y : Atr, (W.cell? (ad.add (i * 2)) = some (.string y.1) ∧ W.cell? ((ad.add (i * 2)).add 1) = some (.string y.2)) ∧ y.1.size ≤ Rows.uptoBulk x.1 ∧ y.2.size ≤ Rows.uptoBulk x.1 := fun i hi' => by
    obtain ⟨cs', hc, ht⟩ := hi i (by omega)
    rw [cells99] at hc
    obtain ⟨_, _, hat⟩ := World.cells?_some hc
    obtain ⟨y, rfl, b1, b2⟩ := atr_bulk ht
    have hb : Rows.uptoBulk (D i) ≤ Rows.uptoBulk x.1 := by
     have h1 : Rows.uptoBulk (D i) ≤ Rows.uptoBulkAll ((List.range len).map D) := bulk_part (List.mem_map.2 ⟨i, List.mem_range.2 hi', rfl⟩)
     rw [hx]
     simp only [Rows.uptoBulk]
     omega
    exact ⟨y, ⟨hat 0 (by omega), hat 1 (by omega)⟩, Nat.le_trans b1 hb, Nat.le_trans b2 hb⟩
   obtain ⟨y0, ⟨hy0, _⟩, _⟩ := hel 0 (by omega)
   rw [Nat.zero_mul] at hy0
   obtain ⟨b, o, rfl, hb⟩ := plain_addr hy0
   obtain ⟨l, hll, hq⟩ := list_of len hel
   refine ⟨l, .inr ⟨b, o, cap, by rw [hll], hb, fun j y hy => ?_⟩, by rw [hll]; unfold maxLen at hm; omega, fun a ha => ?_⟩
   ·have := (hq j y hy).1
    rw [add_plain, add_plain] at this
    exact this
   ·obtain ⟨j, hj, rfl⟩ := List.getElem_of_mem ha
    exact (hq j _ (List.getElem?_eq_getElem hj)).2
end
end Go.Proofs.YtldcediiobfhiaaGreatDoor.De
namespace Go.Proofs.YtldcediiobfhiaaGreatDoor.De
open Go.ChangeShapes Go.WideShapes Go.ChangeAt Go.RowKit Go.Deep
section
variable {H : Type} {enc : TypeId × Value → H} {W : World} {base : Nat} {spare : Nat → Bool} {held : Bool}
/-- What is known of a device that comes in. -/
structure DevIn (W : World) (x : DV) : Prop where
 h : Has W x.2 x.1.ats
 a : x.1.ats.length ≤ 9223372036854775807
 s : Sized (devOf x.1 x.2) x.1.ats
 i : (Lit.int .i64 x.1.idx).wf = true
 p : (Lit.int .i64 x.1.par).wf = true
set_option maxRecDepth 100000 in
theorem dev_trod {fuel : Nat} {cs : List Value} {x : DataW H × List MemPlace} (hf : DataW.trod enc Tryz.prog W base spare held fuel 34 cs = some x) (hb : Rows.uptoBulk x.1 ≤ 1048576) : ∃ y : DV, cs = dvC y.1 y.2 ∧ DevIn W y := by
 obtain ⟨f0, f1, f2, f3, f4, f5, f6, f7, f8, f9, hs, t0, o0, t1, o1, t2, o2, t3, o3, t4, o4, t5, o5, t6, o6, t7, o7, t8, o8, t9, o9⟩ := fields34
 obtain ⟨xs, n, _, hx, hcl, hxl, hfld⟩ := DataW.trod_struct hs hf
 have hxl' : xs.length = 10 := hxl
 rw [cells34] at hcl
 obtain ⟨c0, c1, c2, c3, c4, c5, c6, c7, c8, c9, rfl⟩ := ten_of hcl
 obtain ⟨x0, x1, x2, x3, x4, x5, x6, x7, x8, x9, rfl⟩ := ten_of hxl'
 have h0 := hfld 0 f0 rfl
 rw [t0, o0, cells3] at h0
 have h0' : DataW.trod enc Tryz.prog W base spare held n 3 [c0] = some x0 := h0
 have h1 := hfld 1 f1 rfl
 rw [t1, o1, cells3] at h1
 have h1' : DataW.trod enc Tryz.prog W base spare held n 3 [c1] = some x1 := h1
 have h2 := hfld 2 f2 rfl
 rw [t2, o2, cells9] at h2
 have h2' : DataW.trod enc Tryz.prog W base spare held n 9 [c2] = some x2 := h2
 have h3 := hfld 3 f3 rfl
 rw [t3, o3, cells9] at h3
 have h3' : DataW.trod enc Tryz.prog W base spare held n 9 [c3] = some x3 := h3
 have h4 := hfld 4 f4 rfl
 rw [t4, o4, cells9] at h4
 have h4' : DataW.trod enc Tryz.prog W base spare held n 9 [c4] = some x4 := h4
 have h5 := hfld 5 f5 rfl
 rw [t5, o5, cells9] at h5
 have h5' : DataW.trod enc Tryz.prog W base spare held n 9 [c5] = some x5 := h5
 have h6 := hfld 6 f6 rfl
 rw [t6, o6, cells9] at h6
 have h6' : DataW.trod enc Tryz.prog W base spare held n 9 [c6] = some x6 := h6
 have h7 := hfld 7 f7 rfl
 rw [t7, o7, cells3] at h7
 have h7' : DataW.trod enc Tryz.prog W base spare held n 3 [c7] = some x7 := h7
 have h8 := hfld 8 f8 rfl
 rw [t8, o8, cells3] at h8
 have h8' : DataW.trod enc Tryz.prog W base spare held n 3 [c8] = some x8 := h8
 have h9 := hfld 9 f9 rfl
 rw [t9, o9, cells32] at h9
 have h9' : DataW.trod enc Tryz.prog W base spare held n 32 [c9] = some x9 := h9
 obtain ⟨z0, e0, _, wf0⟩ := DataW.trod_int Tryz.underlying3 h0'
 obtain ⟨z1, e1, _, wf1⟩ := DataW.trod_int Tryz.underlying3 h1'
 obtain ⟨s2, e2, y2, _⟩ := DataW.trod_string Tryz.underlying9 h2'
 obtain ⟨s3, e3, y3, _⟩ := DataW.trod_string Tryz.underlying9 h3'
 obtain ⟨s4, e4, y4, _⟩ := DataW.trod_string Tryz.underlying9 h4'
 obtain ⟨s5, e5, y5, _⟩ := DataW.trod_string Tryz.underlying9 h5'
 obtain ⟨s6, e6, y6, _⟩ := DataW.trod_string Tryz.underlying9 h6'
 obtain ⟨z7, e7, _, _⟩ := DataW.trod_int Tryz.underlying3 h7'
 obtain ⟨z8, e8, _, _⟩ := DataW.trod_int Tryz.underlying3 h8'
 obtain ⟨l, hl, hll, hla⟩ := has_bulk h9'
 simp only [List.cons.injEq, and_true] at e0 e1 e2 e3 e4 e5 e6 e7 e8
 subst e0 e1 e2 e3 e4 e5 e6 e7 e8
 have hd : x.1 = .agg [x0.1, x1.1, x2.1, x3.1, x4.1, x5.1, x6.1, x7.1, x8.1, x9.1] := by simpa using congrArg Prod.fst hx
 rw [hd] at hb
 simp only [Rows.uptoBulk, Rows.uptoBulkAll] at hb
 have q2 : s2.size ≤ 4000000000 := by
  have : Rows.uptoBulk x2.1 = s2.data.toList.length + 1 := by rw [y2]; simp [Rows.uptoBulk]
  rw [Lib.size_eq]
  omega
 have q3 : s3.size ≤ 4000000000 := by
  have : Rows.uptoBulk x3.1 = s3.data.toList.length + 1 := by rw [y3]; simp [Rows.uptoBulk]
  rw [Lib.size_eq]
  omega
 have q4 : s4.size ≤ 4000000000 := by
  have : Rows.uptoBulk x4.1 = s4.data.toList.length + 1 := by rw [y4]; simp [Rows.uptoBulk]
  rw [Lib.size_eq]
  omega
 have q5 : s5.size ≤ 4000000000 := by
  have : Rows.uptoBulk x5.1 = s5.data.toList.length + 1 := by rw [y5]; simp [Rows.uptoBulk]
  rw [Lib.size_eq]
  omega
 have q6 : s6.size ≤ 4000000000 := by
  have : Rows.uptoBulk x6.1 = s6.data.toList.length + 1 := by rw [y6]; simp [Rows.uptoBulk]
  rw [Lib.size_eq]
  omega
 exact ⟨(⟨z0, z1, s2, s3, s4, s5, s6, z7, z8, l⟩, c9), rfl, hl, hll, ⟨q2, q3, q4, q5, q6, fun a ha => by have := hla a ha; omega⟩, wf0, wf1⟩
theorem dvs_trod {fuel : Nat} {v : Value} {x : DataW H × List MemPlace} (h : DataW.trod enc Tryz.prog W base spare held fuel 22 [v] = some x) (hb : Rows.uptoBulk x.1 ≤ 1048576) : ∃ l : List DV, DHas W v l ∧ ∀ y ∈ l, DevIn W y := by
 rcases open_slice Tryz.underlying22 h with ⟨hcs, hx⟩ | ⟨ad, len, cap, m, k, D, Pl, hcs, _, hl, hm, hmm, hx, hi⟩
 ·simp at hcs
  subst hcs
  exact ⟨[], .inl ⟨none, 0, rfl, rfl⟩, fun a ha => by cases ha⟩
 ·simp at hcs
  subst hcs
  by_cases hn : len = 0
  ·subst hn
   exact ⟨[], .inl ⟨_, _, rfl, rfl⟩, fun a ha => by cases ha⟩
  ·have hlm : len ≤ m := by rw [hmm]; split <;> omega
   have hel : ∀ i, i < len → ∃ y : DV, (∀ (j : Nat) u, (dvC y.1 y.2)[j]? = some u → W.cell? ((ad.add (i * 10)).add j) = some u) ∧ DevIn W y := fun i hi' => by
    obtain ⟨cs', hc, ht⟩ := hi i (by omega)
    rw [cells34] at hc
    obtain ⟨_, _, hat⟩ := World.cells?_some hc
    have hbi : Rows.uptoBulk (D i) ≤ Rows.uptoBulk x.1 := by
     have h1 : Rows.uptoBulk (D i) ≤ Rows.uptoBulkAll ((List.range len).map D) := bulk_part (List.mem_map.2 ⟨i, List.mem_range.2 hi', rfl⟩)
     rw [hx]
     simp only [Rows.uptoBulk]
     omega
    obtain ⟨y, rfl, hy⟩ := dev_trod ht (Nat.le_trans hbi hb)
    refine ⟨y, fun j u hu => ?_, hy⟩
    have hj := (List.getElem?_eq_some_iff.1 hu).1
    rw [dvC_len] at hj
    rw [hat j hj, ← hu]
   obtain ⟨y0, hy0, _⟩ := hel 0 (by omega)
   have h00 := hy0 0 _ rfl
   rw [Nat.zero_mul] at h00
   obtain ⟨b, o, rfl, hbl⟩ := plain_addr h00
   obtain ⟨l, hll, hq⟩ := list_of len hel
   refine ⟨l, .inr ⟨b, o, cap, by rw [hll], by rw [hll]; exact hl, hbl, ⟨fun j y hy u v hv => ?_, fun y hy => ?_⟩⟩, fun y hy => ?_⟩
   ·have := (hq j y hy).1 u v hv
    rw [add_plain, add_plain] at this
    exact this
   ·obtain ⟨j, hj, rfl⟩ := List.getElem_of_mem hy
    exact (hq j _ (List.getElem?_eq_getElem hj)).2.h
   ·obtain ⟨j, hj, rfl⟩ := List.getElem_of_mem hy
    exact (hq j _ (List.getElem?_eq_getElem hj)).2
theorem dvs_of_arg {a : Option Addr} {n c : Nat} {d : DataW H} {p : List MemPlace} (h : DataW.Trod enc Tryz.prog W base spare held 22 (.slice a n c) d p) (hb : Rows.uptoBulk d ≤ 1048576) : ∃ l : List DV, DHas W (.slice a n c) l ∧ ∀ y ∈ l, DevIn W y := by
 obtain ⟨fuel, hf⟩ := h
 have hf2 : DataW.trod enc Tryz.prog W base spare held fuel 22 [.slice a n c] = some (d, p) := hf
 exact dvs_trod hf2 hb
theorem rok_in {l : List DV} (hn : l.length ≤ 90000) (h : ∀ y ∈ l, DevIn W y) : ROk l := ⟨hn, fun y hy => (h y hy).i, fun y hy => (h y hy).p, fun y hy => (h y hy).s, fun y hy => (h y hy).a⟩
end
end Go.Proofs.YtldcediiobfhiaaGreatDoor.De
