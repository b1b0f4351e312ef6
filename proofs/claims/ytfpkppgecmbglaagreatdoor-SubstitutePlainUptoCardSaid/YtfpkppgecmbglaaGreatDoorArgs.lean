/- Arguments that are values. -/
import Derived.Test.YtfpkppgecmbglaaGreatDoorFrame
import Derived.Test.YtfpkppgecmbglaaGreatDoorO
import Derived.Deep.Slices
import Derived.Deep.Fields
import Derived.ChangeSame
namespace Go.Proofs.YtfpkppgecmbglaaGreatDoor
open Go.ChangeShapes Go.WideShapes Go.ChangeAt Go.RowKit Go.Deep

theorem cells41 : Tryz.prog.cellsOf 41 = 1 := by kernel_rfl
theorem cells43 : Tryz.prog.cellsOf 43 = 10 := by kernel_rfl
theorem fields43 : ∃ f0 f1 f2 f3 f4 f5 f6 f7 f8 f9 : Field, Tryz.prog.underlying 43 = some (.struct #[f0, f1, f2, f3, f4, f5, f6, f7, f8, f9]) ∧ (f0.type = 9 ∧ f0.offset = 0) ∧ (f1.type = 9 ∧ f1.offset = 1) ∧ (f2.type = 9 ∧ f2.offset = 2) ∧ (f3.type = 9 ∧ f3.offset = 3) ∧ (f4.type = 9 ∧ f4.offset = 4) ∧ (f5.type = 9 ∧ f5.offset = 5) ∧ (f6.type = 9 ∧ f6.offset = 6) ∧ (f7.type = 41 ∧ f7.offset = 7) ∧ (f8.type = 41 ∧ f8.offset = 8) ∧ (f9.type = 41 ∧ f9.offset = 9) :=
  ⟨_, _, _, _, _, _, _, _, _, _, Tryz.underlying43, ⟨rfl, rfl⟩, ⟨rfl, rfl⟩, ⟨rfl, rfl⟩, ⟨rfl, rfl⟩, ⟨rfl, rfl⟩, ⟨rfl, rfl⟩, ⟨rfl, rfl⟩, ⟨rfl, rfl⟩, ⟨rfl, rfl⟩, ⟨rfl, rfl⟩⟩
theorem ten_of {α : Type} : ∀ {l : List α}, l.length = 10 → ∃ a b c d e f g h i j, l = [a, b, c, d, e, f, g, h, i, j]
  | [a, b, c, d, e, f, g, h, i, j], _ => ⟨a, b, c, d, e, f, g, h, i, j, rfl⟩

section
variable {H : Type} {enc : TypeId × Value → H} {W : World} {base : Nat} {spare : Nat → Bool} {held : Bool}
theorem sl_of {fuel : Nat} {v : Value} {x : DataW H × List MemPlace} (h : DataW.trod enc Tryz.prog W base spare held fuel 41 [v] = some x) : ∃ a n c, v = .slice a n c := by
  rcases open_slice Tryz.underlying41 h with ⟨hcs, hx⟩ | ⟨ad, len, cap, m, k, D, Pl, hcs, _⟩
  · simp at hcs
    exact ⟨_, _, _, hcs⟩
  · simp at hcs
    exact ⟨_, _, _, hcs⟩
theorem st_of {fuel : Nat} {v : Value} {x : DataW H × List MemPlace} (h : DataW.trod enc Tryz.prog W base spare held fuel 9 [v] = some x) : ∃ s : List UInt8, v = .string (bs s) := by
  obtain ⟨s0, e0, y0, _⟩ := DataW.trod_string Tryz.underlying9 h
  simp at e0
  exact ⟨s0.data.toList, by rw [bs_of]; exact e0⟩
theorem vals_of_trod {fuel : Nat} {cs : List Value} {x : DataW H × List MemPlace} (h : DataW.trod enc Tryz.prog W base spare held fuel 43 cs = some x) : ∃ (v : Vs) (sa : Option Addr) (na ca : Nat) (sb : Option Addr) (nb cb : Nat) (sc : Option Addr) (nc cc : Nat), cs = (vsC v (.slice sa na ca) (.slice sb nb cb) (.slice sc nc cc)).toList := by
  obtain ⟨f0, f1, f2, f3, f4, f5, f6, f7, f8, f9, hs, ⟨t0, o0⟩, ⟨t1, o1⟩, ⟨t2, o2⟩, ⟨t3, o3⟩, ⟨t4, o4⟩, ⟨t5, o5⟩, ⟨t6, o6⟩, ⟨t7, o7⟩, ⟨t8, o8⟩, ⟨t9, o9⟩⟩ := fields43
  obtain ⟨xs, n, _, hx, hcl, hxl, hf⟩ := DataW.trod_struct hs h
  rw [cells43] at hcl
  have h0 := hf 0 f0 rfl
  have h1 := hf 1 f1 rfl
  have h2 := hf 2 f2 rfl
  have h3 := hf 3 f3 rfl
  have h4 := hf 4 f4 rfl
  have h5 := hf 5 f5 rfl
  have h6 := hf 6 f6 rfl
  have h7 := hf 7 f7 rfl
  have h8 := hf 8 f8 rfl
  have h9 := hf 9 f9 rfl
  rw [t0, o0, cells9] at h0
  rw [t1, o1, cells9] at h1
  rw [t2, o2, cells9] at h2
  rw [t3, o3, cells9] at h3
  rw [t4, o4, cells9] at h4
  rw [t5, o5, cells9] at h5
  rw [t6, o6, cells9] at h6
  rw [t7, o7, cells41] at h7
  rw [t8, o8, cells41] at h8
  rw [t9, o9, cells41] at h9
  have hl2 : xs.length = 10 := hxl
  obtain ⟨x0, x1, x2, x3, x4, x5, x6, x7, x8, x9, rfl⟩ := ten_of hl2
  obtain ⟨c0, c1, c2, c3, c4, c5, c6, c7, c8, c9, rfl⟩ := ten_of hcl
  obtain ⟨s0, rfl⟩ := st_of h0
  obtain ⟨s1, rfl⟩ := st_of h1
  obtain ⟨s2, rfl⟩ := st_of h2
  obtain ⟨s3, rfl⟩ := st_of h3
  obtain ⟨s4, rfl⟩ := st_of h4
  obtain ⟨s5, rfl⟩ := st_of h5
  obtain ⟨s6, rfl⟩ := st_of h6
  obtain ⟨a7, n7, k7, rfl⟩ := sl_of h7
  obtain ⟨a8, n8, k8, rfl⟩ := sl_of h8
  obtain ⟨a9, n9, k9, rfl⟩ := sl_of h9
  exact ⟨⟨s0, s1, s2, s3, s4, s5, s6, [], [], []⟩, a7, n7, k7, a8, n8, k8, a9, n9, k9, rfl⟩
set_option maxRecDepth 100000 in
theorem vals_of_arg {r : Reach} {b0 : Nat} {v : Value} {d : DataW H} {p : List MemPlace} (hv : Value.okWide Tryz.prog W r b0 43 v) (h : DataW.Trod enc Tryz.prog W base spare held 43 v d p) :
    ∃ (x : Vs) (sa : Option Addr) (na ca : Nat) (sb : Option Addr) (nb cb : Nat) (sc : Option Addr) (nc cc : Nat), v = .agg (vsC x (.slice sa na ca) (.slice sb nb cb) (.slice sc nc cc)) := by
  obtain ⟨cs, rfl, hsz⟩ := okWide_struct Tryz.underlying43 hv
  obtain ⟨fuel, hf⟩ := h
  obtain ⟨x, sa, na, ca, sb, nb, cb, sc, nc, cc, hcs⟩ := vals_of_trod hf
  refine ⟨x, sa, na, ca, sb, nb, cb, sc, nc, cc, ?_⟩
  exact congrArg Value.agg (Array.toList_inj.1 (by simpa [Value.cells] using hcs))
end
end Go.Proofs.YtfpkppgecmbglaaGreatDoor
