/- Contents that come in as arguments: what lies in memory. -/
import Derived.Test.YtoohnjlghjapnaaDoorFrame
import Derived.Test.YtoohnjlghjapnaaDoorT4
import Derived.ProofKit
import Derived.OpenShut
import Derived.Deep.Slices
import Derived.Deep.Fields
import Derived.ChangeSame
namespace Go.Proofs.YtoohnjlghjapnaaDoor
open Go.ChangeShapes Go.WideShapes Go.ChangeAt Go.RowKit Go.Deep

/-- A list of things, one for each number below n. -/
theorem list_of {α : Type} {Q : Nat → α → Prop} : ∀ n : Nat, (∀ i, i < n → ∃ x, Q i x) → ∃ l : List α, l.length = n ∧ ∀ (j : Nat) x, l[j]? = some x → Q j x
  | 0, _ => ⟨[], rfl, fun j x h => by simp at h⟩
  | n + 1, h => by
    obtain ⟨l, hl, hq⟩ := list_of n fun i hi => h i (by omega)
    obtain ⟨x, hx⟩ := h n (by omega)
    refine ⟨l ++ [x], by simp [hl], fun j y hy => ?_⟩
    rcases Nat.lt_or_ge j l.length with hj | hj
    · rw [List.getElem?_append_left hj] at hy
      exact hq j y hy
    · rw [List.getElem?_append_right hj] at hy
      have hj0 : j - l.length = 0 := by
        have := (List.getElem?_eq_some_iff.1 hy).1
        simp at this
        omega
      rw [hj0] at hy
      simp at hy
      subst hy
      rw [show j = n by omega]
      exact hx
/-- The types of a content: T the content, S its slice, I the integers, G the texts. -/
structure CTypes (P : Program) (T S I G : TypeId) : Prop where
  int : P.underlying I = some (.int .i64)
  str : P.underlying G = some .string
  sl : P.underlying S = some (.slice T)
  st : ∃ f0 f1 f2 f3 f4 f5 f6 : Field, P.underlying T = some (.struct #[f0, f1, f2, f3, f4, f5, f6]) ∧ (f0.type = I ∧ f0.offset = 0) ∧ (f1.type = G ∧ f1.offset = 1) ∧ (f2.type = G ∧ f2.offset = 2) ∧ (f3.type = I ∧ f3.offset = 3) ∧ (f4.type = I ∧ f4.offset = 4) ∧ (f5.type = I ∧ f5.offset = 5) ∧ (f6.type = S ∧ f6.offset = 6)
  cT : P.cellsOf T = 7
  cI : P.cellsOf I = 1
  cG : P.cellsOf G = 1
  cS : P.cellsOf S = 1

section
variable {P : Program} {T S I G : TypeId} {H : Type} {enc : TypeId × Value → H} {W : World} {base : Nat} {spare : Nat → Bool} {held : Bool}
theorem seven_of {α : Type} : ∀ {l : List α}, l.length = 7 → ∃ a b c d e f g, l = [a, b, c, d, e, f, g]
  | [a, b, c, d, e, f, g], _ => ⟨a, b, c, d, e, f, g, rfl⟩
theorem con_of_trod (ct : CTypes P T S I G) : ∀ (fuel : Nat) (cs : List Value) (x : DataW H × List MemPlace), DataW.trod enc P W base spare held fuel T cs = some x → ∃ c v, cs = conC c v ∧ CHas (fun _ => True) W v c.inner ∧ Tx c := by
  intro fuel
  induction fuel using Nat.strongRecOn with
  | _ fuel ih =>
    intro cs x h
    obtain ⟨f0, f1, f2, f3, f4, f5, f6, hs, ⟨t0, o0⟩, ⟨t1, o1⟩, ⟨t2, o2⟩, ⟨t3, o3⟩, ⟨t4, o4⟩, ⟨t5, o5⟩, t6, o6⟩ := ct.st
    obtain ⟨xs, n, hfu, _, hcl, hxl, hf⟩ := DataW.trod_struct hs h
    rw [ct.cT] at hcl
    have h0 := hf 0 f0 rfl
    have h1 := hf 1 f1 rfl
    have h2 := hf 2 f2 rfl
    have h3 := hf 3 f3 rfl
    have h4 := hf 4 f4 rfl
    have h5 := hf 5 f5 rfl
    have h6 := hf 6 f6 rfl
    rw [t0, o0, ct.cI] at h0
    rw [t1, o1, ct.cG] at h1
    rw [t2, o2, ct.cG] at h2
    rw [t3, o3, ct.cI] at h3
    rw [t4, o4, ct.cI] at h4
    rw [t5, o5, ct.cI] at h5
    rw [t6, o6, ct.cS] at h6
    have hl7 : xs.length = 7 := hxl
    rw [List.getElem?_eq_getElem (show 0 < xs.length by omega)] at h0
    rw [List.getElem?_eq_getElem (show 1 < xs.length by omega)] at h1
    rw [List.getElem?_eq_getElem (show 2 < xs.length by omega)] at h2
    rw [List.getElem?_eq_getElem (show 3 < xs.length by omega)] at h3
    rw [List.getElem?_eq_getElem (show 4 < xs.length by omega)] at h4
    rw [List.getElem?_eq_getElem (show 5 < xs.length by omega)] at h5
    rw [List.getElem?_eq_getElem (show 6 < xs.length by omega)] at h6
    obtain ⟨s0, e0, _⟩ := DataW.trod_int ct.int h0
    obtain ⟨s1, e1, _, m1⟩ := DataW.trod_string ct.str h1
    obtain ⟨s2, e2, _, m2⟩ := DataW.trod_string ct.str h2
    obtain ⟨s3, e3, _⟩ := DataW.trod_int ct.int h3
    obtain ⟨s4, e4, _⟩ := DataW.trod_int ct.int h4
    obtain ⟨s5, e5, _⟩ := DataW.trod_int ct.int h5
    have key : ∃ v l, ((cs.drop 6).take 1 = [v]) ∧ CHas (fun _ => True) W v l := by
      rcases DataW.trod_slice ct.sl h6 with ⟨hc, _⟩ | ⟨a, len, cap, elems, rest, n', hn', hc, _, _, hlc, hcm, hel0, hel, _, _⟩
      · exact ⟨_, [], hc, CHas.nil _ W⟩
      · by_cases hz : len = 0
        · subst hz
          exact ⟨_, [], hc, .inl ⟨rfl, _, _, rfl⟩⟩
        · have hrow : ∀ i, i < len → ∃ c : Con, ∃ v, (∀ j u, (conC c v)[j]? = some u → W.cell? ((a.add (i * 7)).add j) = some u) ∧ Tx c ∧ CHas (fun _ => True) W v c.inner := fun i hi => by
            have hb := hel i hi
            rw [List.getElem?_eq_getElem (by omega), ct.cT] at hb
            obtain ⟨cs', hc', ht'⟩ := Option.bind_eq_some_iff.1 hb
            obtain ⟨c, v, rfl, hv, hx⟩ := ih n' (by omega) cs' _ ht'
            obtain ⟨_, hll, hat⟩ := World.cells?_some hc'
            refine ⟨c, v, fun j u hu => ?_, hx, hv⟩
            have hj : j < 7 := (List.getElem?_eq_some_iff.1 hu).1
            have := hat j (by omega)
            rw [this, ← hu]
          obtain ⟨c0, v0, hy0, _, _⟩ := hrow 0 (by omega)
          have hy00 := hy0 0 _ rfl
          rw [Nat.zero_mul] at hy00
          obtain ⟨b, o, rfl, hb⟩ := plain_addr hy00
          obtain ⟨l, hll, hq⟩ := list_of len hrow
          refine ⟨_, l, hc, .inr ⟨b, o, cap, by rw [hll], by omega, by omega, trivial, hb, CRow.of fun j c hcj => ?_⟩⟩
          obtain ⟨v, h1, hx, h2⟩ := hq j c hcj
          refine ⟨v, fun m u hu => ?_, hx, h2⟩
          have := h1 m u hu
          rw [add_plain, add_plain] at this
          exact this
    obtain ⟨v, l, e6, hv⟩ := key
    obtain ⟨c0, c1, c2, c3, c4, c5, c6, rfl⟩ := seven_of hcl
    simp at e0 e1 e2 e3 e4 e5 e6
    refine ⟨.mk s0 s1.data.toList s2.data.toList s3 s4 s5 l, v, ?_, hv, ?_, ?_⟩
    · simp only [conC, Con.kind, Con.id, Con.lab, Con.slot, Con.tot, Con.lst, bs_of, e0, e1, e2, e3, e4, e5, e6]
    · simpa [Con.id] using m1
    · simpa [Con.lab] using m2
end
theorem fields24 : ∃ f0 f1 f2 f3 f4 f5 f6 : Field, Tryd.prog.underlying 24 = some (.struct #[f0, f1, f2, f3, f4, f5, f6]) ∧ f0.type = 3 ∧ f0.offset = 0 ∧ f1.type = 9 ∧ f1.offset = 1 ∧ f2.type = 9 ∧ f2.offset = 2 ∧ f3.type = 3 ∧ f3.offset = 3 ∧ f4.type = 3 ∧ f4.offset = 4 ∧ f5.type = 3 ∧ f5.offset = 5 ∧ f6.type = 22 ∧ f6.offset = 6 :=
  ⟨_, _, _, _, _, _, _, Tryd.underlying24, rfl, rfl, rfl, rfl, rfl, rfl, rfl, rfl, rfl, rfl, rfl, rfl, rfl, rfl⟩
theorem ctypes : CTypes Tryd.prog 24 22 3 9 := by
  obtain ⟨f0, f1, f2, f3, f4, f5, f6, h, a0, b0, a1, b1, a2, b2, a3, b3, a4, b4, a5, b5, a6, b6⟩ := fields24
  have c22 : Tryd.prog.cellsOf 22 = 1 := by kernel_rfl
  exact { int := Tryd.underlying3, str := Tryd.underlying9, sl := Tryd.underlying22, st := ⟨f0, f1, f2, f3, f4, f5, f6, h, ⟨a0, b0⟩, ⟨a1, b1⟩, ⟨a2, b2⟩, ⟨a3, b3⟩, ⟨a4, b4⟩, ⟨a5, b5⟩, ⟨a6, b6⟩⟩, cT := cells24, cI := cells3, cG := cells9, cS := c22 }
set_option maxHeartbeats 1000000 in
set_option maxRecDepth 100000 in
theorem con_of_arg {H : Type} {enc : TypeId × Value → H} {W : World} {base : Nat} {spare : Nat → Bool} {held : Bool} {r : Reach} {b0 : Nat} {v : Value} {d : DataW H} {p : List MemPlace} (hv : Value.okWide Tryd.prog W r b0 24 v) (h : DataW.Trod enc Tryd.prog W base spare held 24 v d p) :
    ∃ (c : Con) (u : Value), v = .agg #[.int .i64 c.kind, .string (bs c.id), .string (bs c.lab), .int .i64 c.slot, .int .i64 c.tot, .int .i64 c.lst, u] ∧ CHas (fun _ => True) W u c.inner ∧ Tx c := by
  obtain ⟨cs, rfl, hsz⟩ := okWide_struct Tryd.underlying24 hv
  obtain ⟨fuel, hf⟩ := h
  obtain ⟨c, u, hcs, hh, hx⟩ := con_of_trod ctypes fuel _ _ hf
  refine ⟨c, u, ?_, hh, hx⟩
  have : cs = (conC c u).toArray := Array.toList_inj.1 (by simpa [Value.cells] using hcs)
  rw [this]
  rfl
end Go.Proofs.YtoohnjlghjapnaaDoor
