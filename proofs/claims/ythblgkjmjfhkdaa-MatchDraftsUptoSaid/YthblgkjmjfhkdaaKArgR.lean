/- An argument that is a draft, where what is read is of moderate bulk. -/
import Derived.Test.YthblgkjmjfhkdaaKArgV
import Derived.Test.YthblgkjmjfhkdaaKMf
namespace Go.Proofs.Ythblgkjmjfhkdaa.De
open Go.ChangeShapes Go.WideShapes Go.ChangeAt Go.RowKit Go.Deep

theorem cells41 : Try.prog.cellsOf 41 = 1 := by kernel_rfl
theorem cells37 : Try.prog.cellsOf 37 = 1 := by kernel_rfl
theorem cells43 : Try.prog.cellsOf 43 = 14 := by kernel_rfl
theorem fields43 : ∃ f0 f1 f2 f3 f4 f5 f6 f7 f8 f9 fa fb fc fd : Field, Try.prog.underlying 43 = some (.struct #[f0, f1, f2, f3, f4, f5, f6, f7, f8, f9, fa, fb, fc, fd]) ∧ f0.type = 24 ∧ f0.offset = 0 ∧ f1.type = 41 ∧ f1.offset = 1 ∧ f2.type = 41 ∧ f2.offset = 2 ∧ f3.type = 41 ∧ f3.offset = 3 ∧ f4.type = 41 ∧ f4.offset = 4 ∧ f5.type = 9 ∧ f5.offset = 5 ∧ f6.type = 3 ∧ f6.offset = 6 ∧ f7.type = 9 ∧ f7.offset = 7 ∧ f8.type = 9 ∧ f8.offset = 8 ∧ f9.type = 3 ∧ f9.offset = 9 ∧ fa.type = 9 ∧ fa.offset = 10 ∧ fb.type = 3 ∧ fb.offset = 11 ∧ fc.type = 3 ∧ fc.offset = 12 ∧ fd.type = 37 ∧ fd.offset = 13 :=
  ⟨_, _, _, _, _, _, _, _, _, _, _, _, _, _, Try.underlying43, rfl, rfl, rfl, rfl, rfl, rfl, rfl, rfl, rfl, rfl, rfl, rfl, rfl, rfl, rfl, rfl, rfl, rfl, rfl, rfl, rfl, rfl, rfl, rfl, rfl, rfl, rfl, rfl⟩
theorem fourteen_of {α : Type} : ∀ {l : List α}, l.length = 14 → ∃ a b c d e f g h i j k m n p, l = [a, b, c, d, e, f, g, h, i, j, k, m, n, p]
  | [a, b, c, d, e, f, g, h, i, j, k, m, n, p], _ => ⟨a, b, c, d, e, f, g, h, i, j, k, m, n, p, rfl⟩
theorem bulk_pos {H : Type} (d : DataW H) : 1 ≤ Rows.uptoBulk d := by
  unfold Rows.uptoBulk
  split <;> omega
theorem bulk_len {H : Type} : ∀ l : List (DataW H), l.length ≤ Rows.uptoBulkAll l
  | [] => Nat.zero_le _
  | d :: r => by
    simp only [Rows.uptoBulkAll, List.length_cons]
    have h1 := bulk_pos d
    have h2 := bulk_len r
    omega
section
variable {H : Type} {enc : TypeId × Value → H} {W : World} {base : Nat} {spare : Nat → Bool} {held : Bool}
theorem sl_of {ty el fuel : Nat} {v : Value} {x : DataW H × List MemPlace} (hu : Try.prog.underlying ty = some (.slice el)) (h : DataW.trod enc Try.prog W base spare held fuel ty [v] = some x) : ∃ a n c, v = .slice a n c ∧ n ≤ Rows.uptoBulk x.1 := by
  rcases open_slice hu h with ⟨hcs, hx⟩ | ⟨ad, len, cap, m, k, D, Pl, hcs, _, hl, hm, hmm, hx, hi⟩
  · simp at hcs
    exact ⟨_, _, _, hcs, Nat.zero_le _⟩
  · simp at hcs
    refine ⟨_, _, _, hcs, ?_⟩
    have h1 := bulk_len ((List.range len).map D)
    simp only [List.length_map, List.length_range] at h1
    rw [hx]
    simp only [Rows.uptoBulk]
    omega
theorem tags_bulk {fuel : Nat} {v : Value} {x : DataW H × List MemPlace} (h : DataW.trod enc Try.prog W base spare held fuel 41 [v] = some x) : ∃ l, stT.Has W v l ∧ ∀ a ∈ l, a.length ≤ Rows.uptoBulk x.1 := by
  rcases open_slice Try.underlying41 h with ⟨hcs, hx⟩ | ⟨ad, len, cap, m, k, D, Pl, hcs, _, hl, hm, hmm, hx, hi⟩
  · simp at hcs
    subst hcs
    exact ⟨[], .inl ⟨none, 0, rfl, rfl⟩, fun a ha => by cases ha⟩
  · simp at hcs
    subst hcs
    by_cases hn : len = 0
    · subst hn
      exact ⟨[], .inl ⟨_, _, rfl, rfl⟩, fun a ha => by cases ha⟩
    · have hlm : len ≤ m := by rw [hmm]; split <;> omega
      have hel : ∀ i, i < len → ∃ y : List UInt8, W.cell? (ad.add (i * 1)) = some (.string (bs y)) ∧ y.length ≤ Rows.uptoBulk x.1 := fun i hi' => by
        obtain ⟨cs', hc, ht⟩ := hi i (by omega)
        rw [cells9] at hc
        obtain ⟨_, _, hat⟩ := World.cells?_some hc
        obtain ⟨s, rfl, y, _⟩ := DataW.trod_string Try.underlying9 ht
        have hb : Rows.uptoBulk (D i) ≤ Rows.uptoBulk x.1 := by
          have h1 : Rows.uptoBulk (D i) ≤ Rows.uptoBulkAll ((List.range len).map D) := bulk_part (List.mem_map.2 ⟨i, List.mem_range.2 hi', rfl⟩)
          rw [hx]
          simp only [Rows.uptoBulk]
          omega
        have hb2 : s.data.toList.length ≤ Rows.uptoBulk (D i) := by
          rw [show D i = _ from congrArg Prod.fst y]
          simp only [Rows.uptoBulk]
          omega
        refine ⟨s.data.toList, ?_, Nat.le_trans hb2 hb⟩
        rw [bs_of]
        exact hat 0 (by omega)
      obtain ⟨y0, hy0, _⟩ := hel 0 (by omega)
      rw [Nat.zero_mul] at hy0
      obtain ⟨b, o, rfl, hb⟩ := plain_addr hy0
      obtain ⟨l, hll, hq⟩ := list_of len hel
      refine ⟨l, .inr ⟨b, o, cap, by rw [hll], hb, fun j y hy => ?_⟩, fun a ha => ?_⟩
      · intro m v hv
        have := (hq j y hy).1
        rw [add_plain] at this
        cases m with
        | zero =>
          cases hv
          exact this
        | succ m => simp [stT] at hv
      · obtain ⟨j, hj, rfl⟩ := List.getElem_of_mem ha
        exact (hq j _ (List.getElem?_eq_getElem hj)).2
set_option maxRecDepth 100000 in
theorem draft_of_arg {r : Reach} {b0 : Nat} {v : Value} {d : DataW H} {p : List MemPlace} (hv : Value.okWide Try.prog W r b0 43 v) (h : DataW.Trod enc Try.prog W base spare held 43 v d p) (hbk : Rows.uptoBulk d ≤ 1048576) :
    ∃ (dv : Dra) (pl : List Atr) (tl : List (List UInt8)), v = .agg (draC dv) ∧ (DrIn W dv pl tl ∧ pl.length ≤ 2000000000 ∧ tl.length ≤ 2000000000 ∧ ∀ act : ByteArray, act.size ≤ 4611686018427387904 → SmR act dv pl tl) := by
  obtain ⟨cs, rfl, hsz⟩ := okWide_struct Try.underlying43 hv
  obtain ⟨fuel, hf⟩ := h
  obtain ⟨f0, f1, f2, f3, f4, f5, f6, f7, f8, f9, fa, fb, fc, fd, hs, t0, o0, t1, o1, t2, o2, t3, o3, t4, o4, t5, o5, t6, o6, t7, o7, t8, o8, t9, o9, ta, oa, tb, ob, tc, oc, td, od⟩ := fields43
  obtain ⟨xs, n, _, hx, hcl, hxl, hfld⟩ := DataW.trod_struct hs hf
  have hxl' : xs.length = 14 := hxl
  rw [cells43] at hcl
  have hcl' : cs.toList.length = 14 := hcl
  obtain ⟨c0, c1, c2, c3, c4, c5, c6, c7, c8, c9, ca, cb, cc, cd, hc⟩ := fourteen_of hcl'
  obtain ⟨x0, x1, x2, x3, x4, x5, x6, x7, x8, x9, xa, xb, xc, xd, rfl⟩ := fourteen_of hxl'
  have hce : cs = #[c0, c1, c2, c3, c4, c5, c6, c7, c8, c9, ca, cb, cc, cd] := Array.toList_inj.1 (by rw [hc])
  subst hce
  have h0 := hfld 0 f0 rfl
  rw [t0, o0, cells24] at h0
  have h0' : DataW.trod enc Try.prog W base spare held n 24 [c0] = some x0 := h0
  have h1 := hfld 1 f1 rfl
  rw [t1, o1, cells41] at h1
  have h1' : DataW.trod enc Try.prog W base spare held n 41 [c1] = some x1 := h1
  have h2 := hfld 2 f2 rfl
  rw [t2, o2, cells41] at h2
  have h2' : DataW.trod enc Try.prog W base spare held n 41 [c2] = some x2 := h2
  have h3 := hfld 3 f3 rfl
  rw [t3, o3, cells41] at h3
  have h3' : DataW.trod enc Try.prog W base spare held n 41 [c3] = some x3 := h3
  have h4 := hfld 4 f4 rfl
  rw [t4, o4, cells41] at h4
  have h4' : DataW.trod enc Try.prog W base spare held n 41 [c4] = some x4 := h4
  have h5 := hfld 5 f5 rfl
  rw [t5, o5, cells9] at h5
  have h5' : DataW.trod enc Try.prog W base spare held n 9 [c5] = some x5 := h5
  have h6 := hfld 6 f6 rfl
  rw [t6, o6, cells3] at h6
  have h6' : DataW.trod enc Try.prog W base spare held n 3 [c6] = some x6 := h6
  have h7 := hfld 7 f7 rfl
  rw [t7, o7, cells9] at h7
  have h7' : DataW.trod enc Try.prog W base spare held n 9 [c7] = some x7 := h7
  have h8 := hfld 8 f8 rfl
  rw [t8, o8, cells9] at h8
  have h8' : DataW.trod enc Try.prog W base spare held n 9 [c8] = some x8 := h8
  have h9 := hfld 9 f9 rfl
  rw [t9, o9, cells3] at h9
  have h9' : DataW.trod enc Try.prog W base spare held n 3 [c9] = some x9 := h9
  have ha := hfld 10 fa rfl
  rw [ta, oa, cells9] at ha
  have ha' : DataW.trod enc Try.prog W base spare held n 9 [ca] = some xa := ha
  have hb := hfld 11 fb rfl
  rw [tb, ob, cells3] at hb
  have hb' : DataW.trod enc Try.prog W base spare held n 3 [cb] = some xb := hb
  have hc := hfld 12 fc rfl
  rw [tc, oc, cells3] at hc
  have hc' : DataW.trod enc Try.prog W base spare held n 3 [cc] = some xc := hc
  have hd := hfld 13 fd rfl
  rw [td, od, cells37] at hd
  have hd' : DataW.trod enc Try.prog W base spare held n 37 [cd] = some xd := hd
  obtain ⟨a0, n0, k0, e0, b0⟩ := sl_of Try.underlying24 h0'
  obtain ⟨a1, n1, k1, e1, b1⟩ := sl_of Try.underlying41 h1'
  obtain ⟨a2, n2, k2, e2, b2⟩ := sl_of Try.underlying41 h2'
  obtain ⟨a3, n3, k3, e3, b3⟩ := sl_of Try.underlying41 h3'
  obtain ⟨a4, n4, k4, e4, b4⟩ := sl_of Try.underlying41 h4'
  obtain ⟨s5, e5, y5, _⟩ := DataW.trod_string Try.underlying9 h5'
  obtain ⟨z6, e6, _, _⟩ := DataW.trod_int Try.underlying3 h6'
  obtain ⟨s7, e7, y7, _⟩ := DataW.trod_string Try.underlying9 h7'
  obtain ⟨s8, e8, y8, _⟩ := DataW.trod_string Try.underlying9 h8'
  obtain ⟨z9, e9, _, _⟩ := DataW.trod_int Try.underlying3 h9'
  obtain ⟨sa, ea, ya, _⟩ := DataW.trod_string Try.underlying9 ha'
  obtain ⟨zb, eb, _, _⟩ := DataW.trod_int Try.underlying3 hb'
  obtain ⟨zc, ec, _, _⟩ := DataW.trod_int Try.underlying3 hc'
  obtain ⟨ad, nd, kd, ed, bd⟩ := sl_of Try.underlying37 hd'
  simp only [List.cons.injEq, and_true] at e5 e6 e7 e8 e9 ea eb ec
  subst e0 e1 e2 e3 e4 e5 e6 e7 e8 e9 ea eb ec ed
  obtain ⟨pl, hp, _, hpa⟩ := has_bulk h0'
  obtain ⟨tl, htl, hta⟩ := tags_bulk h1'
  have hpn : n0 = pl.length := by
    obtain ⟨_, _, e, -⟩ := hp.form
    simp at e
    exact e.2.1
  have htn : n1 = tl.length := by
    obtain ⟨_, _, e, -⟩ := htl.form
    simp at e
    exact e.2.1
  have hdd : d = .agg [x0.1, x1.1, x2.1, x3.1, x4.1, x5.1, x6.1, x7.1, x8.1, x9.1, xa.1, xb.1, xc.1, xd.1] := by simpa using congrArg Prod.fst hx
  rw [hdd] at hbk
  simp only [Rows.uptoBulk, Rows.uptoBulkAll] at hbk
  have qa : sa.size ≤ 4611686018427387904 := by
    have : Rows.uptoBulk xa.1 = sa.data.toList.length + 1 := by rw [ya]; simp [Rows.uptoBulk]
    rw [Lib.size_eq]
    omega
  exact ⟨⟨⟨a0, n0, k0⟩, ⟨a1, n1, k1⟩, ⟨a2, n2, k2⟩, ⟨a3, n3, k3⟩, ⟨a4, n4, k4⟩, s5, z6, s7, s8, z9, sa, zb, zc, ⟨ad, nd, kd⟩⟩, pl, tl, rfl, ⟨hp, htl⟩, by omega, by omega, fun act ha => ⟨ha, qa, fun a ha => by have := (hpa a ha).2; omega, by omega, fun a ha => by have := hta a ha; omega, by omega⟩⟩
end
end Go.Proofs.Ythblgkjmjfhkdaa.De
