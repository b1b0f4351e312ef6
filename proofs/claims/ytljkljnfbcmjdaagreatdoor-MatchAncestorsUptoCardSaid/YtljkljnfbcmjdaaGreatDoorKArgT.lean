/- Arguments that are lists of terms, where what is read is of moderate bulk. -/
import Derived.Test.YtljkljnfbcmjdaaGreatDoorKFrame
import Derived.Test.YtljkljnfbcmjdaaGreatDoorKGu
import Derived.Deep.Slices
import Derived.Deep.Fields
import Derived.ChangeSame
namespace Go.Proofs.YtljkljnfbcmjdaaGreatDoor
open Go.ChangeShapes Go.WideShapes Go.ChangeAt Go.RowKit Go.Deep
theorem list_of {α : Type} {Q : Nat → α → Prop} : ∀ n : Nat, (∀ i, i < n → ∃ x, Q i x) → ∃ l : List α, l.length = n ∧ ∀ (j : Nat) x, l[j]? = some x → Q j x
 | 0, _ => ⟨[], rfl, fun j x h => by simp at h⟩
 | n + 1, h => by
  obtain ⟨l, hl, hq⟩ := list_of n fun i hi => h i (by omega)
  obtain ⟨x, hx⟩ := h n (by omega)
  refine ⟨l ++ [x], by simp [hl], fun j y hy => ?_⟩
  rcases Nat.lt_or_ge j l.length with hj | hj
  ·rw [List.getElem?_append_left hj] at hy
   exact hq j y hy
  ·rw [List.getElem?_append_right hj] at hy
   have hj0 : j - l.length = 0 := by
    have := (List.getElem?_eq_some_iff.1 hy).1
    simp at this
    omega
   rw [hj0] at hy
   simp at hy
   subst hy
   rw [show j = n by omega]
   exact hx
theorem bulk_part {H : Type} {d : DataW H} : ∀ {l : List (DataW H)}, d ∈ l → Rows.uptoBulk d ≤ Rows.uptoBulkAll l
 | x :: r, h => by
  simp only [Rows.uptoBulkAll]
  rcases List.mem_cons.1 h with e | e
  ·subst e
   omega
  ·have := bulk_part e
   omega
theorem four_of {α : Type} : ∀ {l : List α}, l.length = 4 → ∃ a b c d, l = [a, b, c, d]
 | [a, b, c, d], _ => ⟨a, b, c, d, rfl⟩
theorem cells9 : Tryz.prog.cellsOf 9 = 1 := by kernel_rfl
theorem cells31 : Tryz.prog.cellsOf 46 = 4 := by kernel_rfl
theorem fields31 : ∃ f0 f1 f2 f3 : Field, Tryz.prog.underlying 46 = some (.struct #[f0, f1, f2, f3]) ∧ f0.type = 3 ∧ f0.offset = 0 ∧ f1.type = 9 ∧ f1.offset = 1 ∧ f2.type = 3 ∧ f2.offset = 2 ∧ f3.type = 9 ∧ f3.offset = 3 := ⟨_, _, _, _, Tryz.underlying46, rfl, rfl, rfl, rfl, rfl, rfl, rfl, rfl⟩
section
variable {H : Type} {enc : TypeId × Value → H} {W : World} {base : Nat} {spare : Nat → Bool} {held : Bool}
theorem tm_bulk {fuel : Nat} {cs : List Value} {x : DataW H × List MemPlace} (h : DataW.trod enc Tryz.prog W base spare held fuel 46 cs = some x) : ∃ y : Tm, cs = tmT.cf y ∧ y.name.length ≤ Rows.uptoBulk x.1 ∧ y.val.length ≤ Rows.uptoBulk x.1 := by
 obtain ⟨f0, f1, f2, f3, hs, t0, o0, t1, o1, t2, o2, t3, o3⟩ := fields31
 obtain ⟨xs, n, _, hx, hcl, hxl, hf⟩ := DataW.trod_struct hs h
 rw [cells31] at hcl
 have h0 := hf 0 f0 rfl
 have h1 := hf 1 f1 rfl
 have h2 := hf 2 f2 rfl
 have h3 := hf 3 f3 rfl
 rw [t0, o0, cells3] at h0
 rw [t1, o1, cells9] at h1
 rw [t2, o2, cells3] at h2
 rw [t3, o3, cells9] at h3
 have hl2 : xs.length = 4 := hxl
 obtain ⟨x0, x1, x2, x3, rfl⟩ := four_of hl2
 obtain ⟨s0, e0, y0, _⟩ := DataW.trod_int Tryz.underlying3 h0
 obtain ⟨s1, e1, y1, _⟩ := DataW.trod_string Tryz.underlying9 h1
 obtain ⟨s2, e2, y2, _⟩ := DataW.trod_int Tryz.underlying3 h2
 obtain ⟨s3, e3, y3, _⟩ := DataW.trod_string Tryz.underlying9 h3
 obtain ⟨c0, c1, c2, c3, rfl⟩ := four_of hcl
 refine ⟨⟨s0, s1.data.toList, s2, s3.data.toList⟩, ?_, ?_, ?_⟩
 ·simp at e0 e1 e2 e3
  rw [e0, e1, e2, e3]
  show _ = [Value.int .i64 _, Value.string (bs _), Value.int .i64 _, Value.string (bs _)]
  rw [bs_of, bs_of]
 all_goals
  rw [hx, y0, y1, y2, y3]
  simp only [List.map_cons, List.map_nil, Rows.uptoBulk, Rows.uptoBulkAll]
  omega
theorem tms_bulk {fuel : Nat} {v : Value} {x : DataW H × List MemPlace} (h : DataW.trod enc Tryz.prog W base spare held fuel 23 [v] = some x) : ∃ l : List Tm, tmT.Has W v l ∧ ∀ a ∈ l, a.name.length ≤ Rows.uptoBulk x.1 ∧ a.val.length ≤ Rows.uptoBulk x.1 := by
 rcases open_slice Tryz.underlying23 h with ⟨hcs, hx⟩ | ⟨ad, len, cap, m, k, D, Pl, hcs, _, hl, hm, hmm, hx, hi⟩
 ·simp at hcs
  subst hcs
  exact ⟨[], .inl ⟨none, 0, rfl, rfl⟩, fun a ha => by cases ha⟩
 ·simp at hcs
  subst hcs
  by_cases hn : len = 0
  ·subst hn
   exact ⟨[], .inl ⟨_, _, rfl, rfl⟩, fun a ha => by cases ha⟩
  ·have hlm : len ≤ m := by rw [hmm]; split <;> omega
   have hel : ∀ i, i < len → ∃ y : Tm, (∀ j, j < 4 → W.cell? ((ad.add (i * 4)).add j) = (tmT.cf y)[j]?) ∧ y.name.length ≤ Rows.uptoBulk x.1 ∧ y.val.length ≤ Rows.uptoBulk x.1 := fun i hi' => by
    obtain ⟨cs', hc, ht⟩ := hi i (by omega)
    rw [cells31] at hc
    obtain ⟨_, _, hat⟩ := World.cells?_some hc
    obtain ⟨y, rfl, b1, b2⟩ := tm_bulk ht
    have hb : Rows.uptoBulk (D i) ≤ Rows.uptoBulk x.1 := by
     have h1 : Rows.uptoBulk (D i) ≤ Rows.uptoBulkAll ((List.range len).map D) := bulk_part (List.mem_map.2 ⟨i, List.mem_range.2 hi', rfl⟩)
     rw [hx]
     simp only [Rows.uptoBulk]
     omega
    exact ⟨y, hat, Nat.le_trans b1 hb, Nat.le_trans b2 hb⟩
   obtain ⟨y0, hy0, _⟩ := hel 0 (by omega)
   have hy1 : W.cell? ((ad.add (0 * 4)).add 0) = some (.int .i64 y0.key) := hy0 0 (by omega)
   have hplain : ∃ b o, ad = ⟨b, o, none⟩ ∧ b < W.heap.size := by
    rw [Nat.zero_mul] at hy1
    have e : (ad.add 0).add 0 = ad := by
     cases ad with
     | mk b o i => cases i <;> rfl
    rw [e] at hy1
    exact plain_addr (by rw [show ad.add 0 = ad by cases ad with | mk b o i => cases i <;> rfl]; exact hy1)
   obtain ⟨b, o, rfl, hb⟩ := hplain
   obtain ⟨l, hll, hq⟩ := list_of len hel
   refine ⟨l, .inr ⟨b, o, cap, by rw [hll], hb, fun j y hy i v hv => ?_⟩, fun a ha => ?_⟩
   ·have hi4 : i < 4 := by have := (List.getElem?_eq_some_iff.1 hv).1; rwa [tmT.len y] at this
    have := (hq j y hy).1 i hi4
    rw [add_plain, add_plain] at this
    rw [← hv, ← this]
    rfl
   ·obtain ⟨j, hj, rfl⟩ := List.getElem_of_mem ha
    exact (hq j _ (List.getElem?_eq_getElem hj)).2
theorem tms_of_arg {v : Value} {d : DataW H} {p : List MemPlace} (h : DataW.Trod enc Tryz.prog W base spare held 23 v d p) (hv : v.cells = #[v]) (hb : Rows.uptoBulk d ≤ 1048576) : ∃ l : List Tm, tmT.Has W v l ∧ ∀ x ∈ l, SmT x := by
 obtain ⟨fuel, hf⟩ := h
 rw [hv] at hf
 obtain ⟨l, h1, h2⟩ := tms_bulk hf
 exact ⟨l, h1, fun x hx => by
  obtain ⟨a, b⟩ := h2 x hx
  simp only at a b
  exact ⟨by omega, by omega⟩⟩
end
end Go.Proofs.YtljkljnfbcmjdaaGreatDoor
