/- Arguments that are devices, where what is read is of moderate bulk. TreeInserts: the tree with one more device, or the error, as the reference has it; the tree that was given stays. -/
import Derived.Test.YtldcediiobfhiaaGreatDoorKFrame
import Derived.Test.YtldcediiobfhiaaGreatDoorKZ4
import Derived.Deep.Slices
import Derived.Deep.Fields
import Derived.ChangeSame
import Derived.Test.YtldcediiobfhiaaGreatDoorKV7
import Derived.Deep.MidRow
namespace Go.Proofs.YtldcediiobfhiaaGreatDoor.De
open Go.ChangeShapes Go.WideShapes Go.ChangeAt Go.RowKit Go.Deep
/-- A list of things, one for each number below n. -/
theorem list_of {α : Type} {Q : Nat → α → Prop} : ∀ n : Nat, (∀ i, i < n → ∃ x, Q i x) → ∃ l : List α, l.length = n ∧ ∀ (j : Nat) x, l[j]? = some x → Q j x
 | 0, _ => ⟨[], rfl, fun j x h => by simp at h⟩
 | n + 1, h => by
  obtain ⟨l, hl, hq⟩ := list_of n fun i hi => h i (by omega)
  obtain ⟨x, hx⟩ := h n (by omega)
  refine ⟨l ++ [x], by simp [hl], fun j y hy => ?_⟩
  rcases Nat.lt_or_ge j l.length with hj | hj
  ·rw [List.getElem?_append_left hj] at hy
   exact hq j y hy
  ·rw [List.getElem?_append_right hj] at hy
   have hj0 : j - l.length = 0 := by
    have := (List.getElem?_eq_some_iff.1 hy).1
    simp at this
    omega
   rw [hj0] at hy
   simp at hy
   subst hy
   rw [show j = n by omega]
   exact hx
theorem cells99 : Tryz.prog.cellsOf 99 = 2 := by kernel_rfl
theorem cells9 : Tryz.prog.cellsOf 9 = 1 := by kernel_rfl
theorem cells32 : Tryz.prog.cellsOf 32 = 1 := by kernel_rfl
theorem fields99 : ∃ f0 f1 : Field, Tryz.prog.underlying 99 = some (.struct #[f0, f1]) ∧ f0.type = 9 ∧ f0.offset = 0 ∧ f1.type = 9 ∧ f1.offset = 1 := ⟨_, _, Tryz.underlying99, rfl, rfl, rfl, rfl⟩
section
variable {H : Type} {enc : TypeId × Value → H} {W : World} {base : Nat} {spare : Nat → Bool} {held : Bool}
theorem two_of {α : Type} : ∀ {l : List α}, l.length = 2 → ∃ a b, l = [a, b]
 | [a, b], _ => ⟨a, b, rfl⟩
end
theorem bulk_part {H : Type} {d : DataW H} : ∀ {l : List (DataW H)}, d ∈ l → Rows.uptoBulk d ≤ Rows.uptoBulkAll l
 | x :: r, h => by
  simp only [Rows.uptoBulkAll]
  rcases List.mem_cons.1 h with e | e
  ·subst e
   omega
  ·have := bulk_part e
   omega
theorem ten_of {α : Type} : ∀ {l : List α}, l.length = 10 → ∃ a b c d e f g h i j, l = [a, b, c, d, e, f, g, h, i, j]
 | [a, b, c, d, e, f, g, h, i, j], _ => ⟨a, b, c, d, e, f, g, h, i, j, rfl⟩
theorem cells34 : Tryz.prog.cellsOf 34 = 10 := by kernel_rfl
theorem fields34 : ∃ f0 f1 f2 f3 f4 f5 f6 f7 f8 f9 : Field, Tryz.prog.underlying 34 = some (.struct #[f0, f1, f2, f3, f4, f5, f6, f7, f8, f9]) ∧ f0.type = 3 ∧ f0.offset = 0 ∧ f1.type = 3 ∧ f1.offset = 1 ∧ f2.type = 9 ∧ f2.offset = 2 ∧ f3.type = 9 ∧ f3.offset = 3 ∧ f4.type = 9 ∧ f4.offset = 4 ∧ f5.type = 9 ∧ f5.offset = 5 ∧ f6.type = 9 ∧ f6.offset = 6 ∧ f7.type = 3 ∧ f7.offset = 7 ∧ f8.type = 3 ∧ f8.offset = 8 ∧ f9.type = 32 ∧ f9.offset = 9 :=
 ⟨_, _, _, _, _, _, _, _, _, _, Tryz.underlying34, rfl, rfl, rfl, rfl, rfl, rfl, rfl, rfl, rfl, rfl, rfl, rfl, rfl, rfl, rfl, rfl, rfl, rfl, rfl, rfl⟩
section
variable {H : Type} {enc : TypeId × Value → H} {W : World} {base : Nat} {spare : Nat → Bool} {held : Bool}
theorem atr_bulk {fuel : Nat} {cs : List Value} {x : DataW H × List MemPlace} (h : DataW.trod enc Tryz.prog W base spare held fuel 99 cs = some x) : ∃ y : Atr, cs = [.string y.1, .string y.2] ∧ y.1.size ≤ Rows.uptoBulk x.1 ∧ y.2.size ≤ Rows.uptoBulk x.1 := by
 obtain ⟨f0, f1, hs, t0, o0, t1, o1⟩ := fields99
 obtain ⟨xs, n, _, hx, hcl, hxl, hf⟩ := DataW.trod_struct hs h
 rw [cells99] at hcl
 have h0 := hf 0 f0 rfl
 have h1 := hf 1 f1 rfl
 rw [t0, o0, cells9] at h0
 rw [t1, o1, cells9] at h1
 have hl2 : xs.length = 2 := hxl
 obtain ⟨x0, x1, rfl⟩ := two_of hl2
 obtain ⟨s0, e0, y0, _⟩ := DataW.trod_string Tryz.underlying9 h0
 obtain ⟨s1, e1, y1, _⟩ := DataW.trod_string Tryz.underlying9 h1
 obtain ⟨c0, c1, rfl⟩ := two_of hcl
 refine ⟨(s0, s1), ?_, ?_, ?_⟩
 ·simp at e0 e1
  rw [e0, e1]
 ·rw [hx, y0, y1]
  simp only [List.map_cons, List.map_nil, Rows.uptoBulk, Rows.uptoBulkAll]
  rw [Lib.size_eq]
  omega
 ·rw [hx, y0, y1]
  simp only [List.map_cons, List.map_nil, Rows.uptoBulk, Rows.uptoBulkAll]
  rw [Lib.size_eq]
  omega
theorem has_bulk {fuel : Nat} {v : Value} {x : DataW H × List MemPlace} (h : DataW.trod enc Tryz.prog W base spare held fuel 32 [v] = some x) : ∃ l, Has W v l ∧ l.length ≤ 9223372036854775807 ∧ ∀ a ∈ l, a.1.size ≤ Rows.uptoBulk x.1 ∧ a.2.size ≤ Rows.uptoBulk x.1 := by
 rcases open_slice Tryz.underlying32 h with ⟨hcs, hx⟩ | ⟨ad, len, cap, m, k, D, Pl, hcs, _, hl, hm, hmm, hx, hi⟩
 ·simp at hcs
  subst hcs
  exact ⟨[], .inl ⟨none, 0, rfl, rfl⟩, Nat.zero_le _, fun a ha => by cases ha⟩
 ·simp at hcs
  subst hcs
  by_cases hn : len = 0
  ·subst hn
   exact ⟨[], .inl ⟨_, _, rfl, rfl⟩, Nat.zero_le _, fun a ha => by cases ha⟩
  ·have hlm : len ≤ m := by rw [hmm]; split <;> omega
   have hel : ∀ i, i < len → ∃ y : Atr, (W.cell? (ad.add (i * 2)) = some (.string y.1) ∧ W.cell? ((ad.add (i * 2)).add 1) = some (.string y.2)) ∧ y.1.size ≤ Rows.uptoBulk x.1 ∧ y.2.size ≤ Rows.uptoBulk x.1 := fun i hi' => by
    obtain ⟨cs', hc, ht⟩ := hi i (by omega)
    rw [cells99] at hc
    obtain ⟨_, _, hat⟩ := World.cells?_some hc
    obtain ⟨y, rfl, b1, b2⟩ := atr_bulk ht
    have hb : Rows.uptoBulk (D i) ≤ Rows.uptoBulk x.1 := by
     have h1 : Rows.uptoBulk (D i) ≤ Rows.uptoBulkAll ((List.range len).map D) := bulk_part (List.mem_map.2 ⟨i, List.mem_range.2 hi', rfl⟩)
     rw [hx]
     simp only [Rows.uptoBulk]
     omega
    exact ⟨y, ⟨hat 0 (by omega), hat 1 (by omega)⟩, Nat.le_trans b1 hb, Nat.le_trans b2 hb⟩
   obtain ⟨y0, ⟨hy0, _⟩, _⟩ := hel 0 (by omega)
   rw [Nat.zero_mul] at hy0
   obtain ⟨b, o, rfl, hb⟩ := plain_addr hy0
   obtain ⟨l, hll, hq⟩ := list_of len hel
   refine ⟨l, .inr ⟨b, o, cap, by rw [hll], hb, fun j y hy => ?_⟩, by rw [hll]; unfold maxLen at hm; omega, fun a ha => ?_⟩
   ·have := (hq j y hy).1
    rw [add_plain, add_plain] at this
    exact this
   ·obtain ⟨j, hj, rfl⟩ := List.getElem_of_mem ha
    exact (hq j _ (List.getElem?_eq_getElem hj)).2
set_option maxRecDepth 100000 in
theorem dev_of_arg {r : Reach} {b0 : Nat} {v : Value} {d : DataW H} {p : List MemPlace} (hv : Value.okWide Tryz.prog W r b0 34 v) (h : DataW.Trod enc Tryz.prog W base spare held 34 v d p) (hb : Rows.uptoBulk d ≤ 1048576) :
  ∃ (dv : Dev) (l : List Atr), v = devV dv ∧ (Has W dv.av l ∧ l.length ≤ 9223372036854775807 ∧ Sized dv l ∧ (Lit.int .i64 dv.idx).wf = true ∧ (Lit.int .i64 dv.par).wf = true) := by
 obtain ⟨cs, rfl, hsz⟩ := okWide_struct Tryz.underlying34 hv
 obtain ⟨fuel, hf⟩ := h
 obtain ⟨f0, f1, f2, f3, f4, f5, f6, f7, f8, f9, hs, t0, o0, t1, o1, t2, o2, t3, o3, t4, o4, t5, o5, t6, o6, t7, o7, t8, o8, t9, o9⟩ := fields34
 obtain ⟨xs, n, _, hx, hcl, hxl, hfld⟩ := DataW.trod_struct hs hf
 have hxl' : xs.length = 10 := hxl
 rw [cells34] at hcl
 have hcl' : cs.toList.length = 10 := hcl
 obtain ⟨c0, c1, c2, c3, c4, c5, c6, c7, c8, c9, hc⟩ := ten_of hcl'
 obtain ⟨x0, x1, x2, x3, x4, x5, x6, x7, x8, x9, rfl⟩ := ten_of hxl'
 have hce : cs = #[c0, c1, c2, c3, c4, c5, c6, c7, c8, c9] := Array.toList_inj.1 (by rw [hc])
 subst hce
 have h0 := hfld 0 f0 rfl
 rw [t0, o0, cells3] at h0
 have h0' : DataW.trod enc Tryz.prog W base spare held n 3 [c0] = some x0 := h0
 have h1 := hfld 1 f1 rfl
 rw [t1, o1, cells3] at h1
 have h1' : DataW.trod enc Tryz.prog W base spare held n 3 [c1] = some x1 := h1
 have h2 := hfld 2 f2 rfl
 rw [t2, o2, cells9] at h2
 have h2' : DataW.trod enc Tryz.prog W base spare held n 9 [c2] = some x2 := h2
 have h3 := hfld 3 f3 rfl
 rw [t3, o3, cells9] at h3
 have h3' : DataW.trod enc Tryz.prog W base spare held n 9 [c3] = some x3 := h3
 have h4 := hfld 4 f4 rfl
 rw [t4, o4, cells9] at h4
 have h4' : DataW.trod enc Tryz.prog W base spare held n 9 [c4] = some x4 := h4
 have h5 := hfld 5 f5 rfl
 rw [t5, o5, cells9] at h5
 have h5' : DataW.trod enc Tryz.prog W base spare held n 9 [c5] = some x5 := h5
 have h6 := hfld 6 f6 rfl
 rw [t6, o6, cells9] at h6
 have h6' : DataW.trod enc Tryz.prog W base spare held n 9 [c6] = some x6 := h6
 have h7 := hfld 7 f7 rfl
 rw [t7, o7, cells3] at h7
 have h7' : DataW.trod enc Tryz.prog W base spare held n 3 [c7] = some x7 := h7
 have h8 := hfld 8 f8 rfl
 rw [t8, o8, cells3] at h8
 have h8' : DataW.trod enc Tryz.prog W base spare held n 3 [c8] = some x8 := h8
 have h9 := hfld 9 f9 rfl
 rw [t9, o9, cells32] at h9
 have h9' : DataW.trod enc Tryz.prog W base spare held n 32 [c9] = some x9 := h9
 obtain ⟨z0, e0, _, wf0⟩ := DataW.trod_int Tryz.underlying3 h0'
 obtain ⟨z1, e1, _, wf1⟩ := DataW.trod_int Tryz.underlying3 h1'
 obtain ⟨s2, e2, y2, _⟩ := DataW.trod_string Tryz.underlying9 h2'
 obtain ⟨s3, e3, y3, _⟩ := DataW.trod_string Tryz.underlying9 h3'
 obtain ⟨s4, e4, y4, _⟩ := DataW.trod_string Tryz.underlying9 h4'
 obtain ⟨s5, e5, y5, _⟩ := DataW.trod_string Tryz.underlying9 h5'
 obtain ⟨s6, e6, y6, _⟩ := DataW.trod_string Tryz.underlying9 h6'
 obtain ⟨z7, e7, _, _⟩ := DataW.trod_int Tryz.underlying3 h7'
 obtain ⟨z8, e8, _, _⟩ := DataW.trod_int Tryz.underlying3 h8'
 obtain ⟨l, hl, hll, hla⟩ := has_bulk h9'
 simp only [List.cons.injEq, and_true] at e0 e1 e2 e3 e4 e5 e6 e7 e8
 subst e0 e1 e2 e3 e4 e5 e6 e7 e8
 have hd : d = .agg [x0.1, x1.1, x2.1, x3.1, x4.1, x5.1, x6.1, x7.1, x8.1, x9.1] := by simpa using congrArg Prod.fst hx
 rw [hd] at hb
 simp only [Rows.uptoBulk, Rows.uptoBulkAll] at hb
 have q2 : s2.size ≤ 4000000000 := by
  have : Rows.uptoBulk x2.1 = s2.data.toList.length + 1 := by rw [y2]; simp [Rows.uptoBulk]
  rw [Lib.size_eq]
  omega
 have q3 : s3.size ≤ 4000000000 := by
  have : Rows.uptoBulk x3.1 = s3.data.toList.length + 1 := by rw [y3]; simp [Rows.uptoBulk]
  rw [Lib.size_eq]
  omega
 have q4 : s4.size ≤ 4000000000 := by
  have : Rows.uptoBulk x4.1 = s4.data.toList.length + 1 := by rw [y4]; simp [Rows.uptoBulk]
  rw [Lib.size_eq]
  omega
 have q5 : s5.size ≤ 4000000000 := by
  have : Rows.uptoBulk x5.1 = s5.data.toList.length + 1 := by rw [y5]; simp [Rows.uptoBulk]
  rw [Lib.size_eq]
  omega
 have q6 : s6.size ≤ 4000000000 := by
  have : Rows.uptoBulk x6.1 = s6.data.toList.length + 1 := by rw [y6]; simp [Rows.uptoBulk]
  rw [Lib.size_eq]
  omega
 exact ⟨⟨z0, z1, s2, s3, s4, s5, s6, z7, z8, c9⟩, l, rfl, hl, hll, ⟨q2, q3, q4, q5, q6, fun a ha => by have := hla a ha; omega⟩, wf0, wf1⟩
end
end Go.Proofs.YtldcediiobfhiaaGreatDoor.De
namespace Go.Proofs.YtldcediiobfhiaaGreatDoor
open Go.RowKit
set_option maxHeartbeats 16000000 in
set_option maxRecDepth 100000 in
theorem inserts_walk (a0 : Option Addr) (n0 c0 : Nat) (d : De.Dev) (la : List De.Atr) (w : World) (hm : De.Max w) (hi : Ints w w.heap.size (.slice a0 n0 c0)) (hd : De.Has w d.av la) (hla : la.length ≤ 9223372036854775807) (hs : De.Sized d la) (hwi : (Lit.int .i64 d.idx).wf = true) (hwp : (Lit.int .i64 d.par).wf = true) : Calls Tryz.prog 7 #[.slice a0 n0 c0, De.devV d] w fun e w' => e = .returned (.bool true) ∧ Below w.heap.size w w' := by
 obtain ⟨di, dp, dn, do_, du, dd, dl, dk, dm, dv⟩ := d
 unfold De.devV De.devC
 dsimp only at hd hwi hwp ⊢
 obtain ⟨X1, hX1⟩ : ∃ X : De.ADev, (⟨di, dp, dn, do_, du, dd, dl, dk, dm, la⟩ : De.ADev) = X := ⟨_, rfl⟩
 have HX1 := Lib.hid hX1
 have HG1 := Lib.hid (show De.Has w dv X1.ats ∧ De.Sized (De.devOf X1 dv) X1.ats ∧ X1.ats.length ≤ 9223372036854775807 ∧ (Lit.int .i64 X1.idx).wf = true ∧ (Lit.int .i64 X1.par).wf = true from by
  rw [← hX1]
  exact ⟨hd, hs, hla, hwi, hwp⟩)
 clear hX1 hd hs hla hwi hwp
 obtain ⟨P0, hP0⟩ : ∃ P, w.heap.size = P := ⟨_, rfl⟩
 obtain ⟨wz, hwz⟩ : ∃ W, w.alloc (.cells #[.int .i64 di, .int .i64 dp, .string dn, .string do_, .string du, .string dd, .string dl, .int .i64 dk, .int .i64 dm, dv] 34) = W := ⟨_, rfl⟩
 have hkz : Kp [] w wz := by rw [← hwz]; exact (Kp.refl [] w).alloc _
 have hpz : wz.heap[P0]? = some (.cells #[.int .i64 di, .int .i64 dp, .string dn, .string do_, .string du, .string dd, .string dl, .int .i64 dk, .int .i64 dm, dv] 34 (0, 0)) := by rw [← hwz, ← hP0]; exact heap_alloc_last w _
 have hiz : Ints wz wz.heap.size (.slice a0 n0 c0) := by
  rcases hi with h | ⟨b, o, n, c, h1, h2, h3⟩
  ·exact .inl h
  ·exact .inr ⟨b, o, n, c, h1, Nat.lt_of_lt_of_le h2 hkz.size, fun j hj => by obtain ⟨z, hz⟩ := h3 j hj; exact ⟨z, cell_kp hkz hz⟩⟩
 have hmz := hm.below hkz.bel
 have HKz := Lib.hid hkz
 have HPz := Lib.hid hpz
 have HPw := Lib.hid hP0
 clear hkz hpz hi hm
 obtain ⟨tb, htb⟩ : ∃ tb, wz.heap.size = tb := ⟨_, rfl⟩
 obtain ⟨W0, hW⟩ : ∃ W0, wz.alloc (.cells #[.slice a0 n0 c0, .int .i64 0] 27) = W0 := ⟨_, rfl⟩
 have hk0 : Kp [] wz W0 := by rw [← hW]; exact (Kp.refl [] wz).alloc _
 have hT0 : Tp W0 tb 0 := by rw [← hW, ← htb]; exact tape_new hiz
 have HTr0 := Lib.hid (tree9 (by omega) hT0 (hmz.below hk0.bel))
 have HK0 := Lib.hid (show Kp [tb] wz W0 from hk0.mono (by simp))
 have Htb := Lib.hid htb
 have H0t := Lib.hid (max_tp (hmz.below hk0.bel) hT0)
 have HM0 := Lib.hid (hmz.below hk0.bel)
 clear hk0 hT0
 go_enter Tryz.func7, Tryz.ntmps7
 go_upto_region 3 with (first
  | (go_at_call 13; refine Calls.mono (by with_reducible exact HTr0.out) ?_; rintro e w1 ⟨va, N, vc, L, rfl, HN, hNc, hN9, HTr, k1, hk1, HT, HK1⟩; have H1v := Lib.hid (show (#[.slice va N vc] : Array Value).all (·.oneCell') = true from by simp [Value.oneCell']))
  | (refine De.wpList_store_new w1 29 _ #[.slice va N vc] rfl _ _ rfl rfl rfl info30b rfl H1v.out ?_))
 obtain ⟨Q, hQ⟩ : ∃ Q, w1.heap.size = Q := ⟨_, rfl⟩
 have hq1 := heap_alloc_last w1 (.cells #[.slice va N vc] 29)
 have hka := (Kp.refl [] w1).alloc (.cells #[.slice va N vc] 29)
 generalize w1.alloc (.cells #[.slice va N vc] 29) = w2 at *
 rw [hQ] at hq1 ⊢
 have HQ2 := Lib.hid hq1
 have t0 := cell_one hq1
 have HT2 := Lib.hid (HT.out.kp hka (by simp))
 have HTr2 := Lib.hid (HTr.out.kp hka)
 have HK2 := Lib.hid ((HK0.out.trans HK1.out).trans (hka.mono (by simp)))
 have HM2 := Lib.hid (MaxT (MaxT HM0.out H0t.out HK1.out) H0t.out (hka.mono (by simp)))
 have HQt := Lib.hid (show tb < Q from by rw [← hQ]; exact HT.out.lt)
 have HTok := Lib.hid (tree_tok HTr2.out (by omega))
 have HTb2 := Lib.hid HT2.out.lt
 have HQk := Lib.hid (fun (W : World) (hk : Kp [tb] w2 W) => cell_one ((hk.block Q (block_lt HQ2.out) (by have := HQt.out; simp; omega)).trans HQ2.out))
 have HP0t := Lib.hid (show P0 ≠ tb ∧ P0 < wz.heap.size from ⟨by have := block_lt HPz.out; have := Htb.out; omega, block_lt HPz.out⟩)
 have HP0 := Lib.hid (show ∀ W, Kp [tb] w2 W → W.rangeAt P0 0 [.int .i64 di, .int .i64 dp, .string dn, .string do_, .string du, .string dd, .string dl, .int .i64 dk, .int .i64 dm, dv] from fun W hk j u hu => by
  rw [cell_of_row _ _ _ _ _ _ (((HK2.out.trans hk).block P0 HP0t.out.2 (by have := HP0t.out.1; simpa using this)).trans HPz.out)]
  simpa using hu)
 have HDV := Lib.hid (fun W (hk : Kp [] w2 W) => by
  obtain ⟨va', vc', hvf, hvc, hvr⟩ := HTr2.out.any.wform
  have h := wdev2_any (k := k1) (by omega) (HT2.out.kp hk (by simp)) L va vc (by have := HTr2.out.len; omega) HTok.out.wi (fun i x hx => by
   obtain ⟨g, o, e, hg, hc⟩ := hvr i x hx
   injection hvf with e1 e2 e3
   exact ⟨g, o, e1.trans e, Nat.lt_of_lt_of_le hg hk.size, by
    have := HTr2.out.off.v g (by rw [e1, e]; rfl)
    omega, fun j y hy => cell_kp hk (hc j y hy)⟩)
  rw [HN.out] at h
  exact h)
 clear t0
 go_upto_region 3 with fail
 refine wp_region_held_drew (S := fun W => Kp [tb] w2 W) (by kernel_rfl) (((Kp.refl [] w2).drew 1).mono (by simp)) (fun hHeld => ?_)
 have HKd := Lib.hid (show Kp [] w2 w2.drew from (Kp.refl [] w2).drew 1)
 generalize hwd : w2.drew = wd at *
 clear hwd
 refine wpAnyH_take (i := 0) (oi := { dst := some 19, op := Op.load 34 (Operand.tmp 3), type := 34, pos := "law.go:112", after := #[], guard := none }) (v := .agg #[.int .i64 di, .int .i64 dp, .string dn, .string do_, .string du, .string dd, .string dl, .int .i64 dk, .int .i64 dm, dv]) rfl (by kernel_rfl) (by kernel_rfl) (by kernel_rfl) (fun _ _ _ h => h) (yieldsIf_load_mid (by rfl) 34 _ rfl P0 0 rfl [.int .i64 di, .int .i64 dp, .string dn, .string do_, .string du, .string dd, .string dl, .int .i64 dk, .int .i64 dm, dv] _ (fun w hSw => HP0.out _ hSw) Tryz.underlying34 rfl De.info34b) hHeld ?_
 try simp only [Act.put, List.setIfInBounds_toArray, List.set_cons_zero, List.set_cons_succ]
 refine wpAnyH_take (i := 1) (oi := { dst := some 20, op := Op.move (Operand.tmp 5), type := 25, pos := "law.go:112", after := #[], guard := none }) (v := .pointer (some ⟨tb, 0, none⟩)) rfl (by kernel_rfl) (by kernel_rfl) (by kernel_rfl) (fun _ _ _ h => h) (Or.inl ⟨by rfl, fun w hSw => by (try dsimp only at hSw); go_simp⟩) hHeld ?_
 try simp only [Act.put, List.setIfInBounds_toArray, List.set_cons_zero, List.set_cons_succ]
 refine wpAnyH_take (i := 2) (oi := { dst := some 21, op := Op.load 29 (Operand.tmp 6), type := 29, pos := "law.go:112", after := #[], guard := none }) (v := .agg #[.slice va N vc]) rfl (by kernel_rfl) (by kernel_rfl) (by kernel_rfl) (fun _ _ _ h => h) (Or.inl ⟨by rfl, fun w hSw => by (try dsimp only at hSw); have t0 := HQk.out _ hSw; go_simp⟩) hHeld ?_
 try simp only [Act.put, List.setIfInBounds_toArray, List.set_cons_zero, List.set_cons_succ]
 refine wpAnyH_ready (rs := [3]) (by kernel_rfl) (by simp) ?_
 refine AllReadyH.cons (o := { dst := some 22, op := Op.call { callee := Callee.value (Operand.func 15), args := #[Operand.tmp 20, Operand.tmp 21], argTypes := #[25, 29] }, type := 34, pos := "law.go:112", after := #[{ on := 1, ground := Ground.data }, { on := 2, ground := Ground.data }], guard := none }) rfl (fun K hK => ?_) AllReadyH.nil
 go_simp
 go_at_call 15
 refine Calls.mono (by with_reducible exact HDV.out _ HKd.out) ?_
 rintro e V ⟨⟨ei, ep, en, eo, eu, ed, el, ek, em, ev⟩, l2, rfl, hat, hsx, hll, ⟨kd, hkd, htp⟩, hkp, hfr, HWi, HWp⟩
 dsimp only [De.devV, De.devC] at *
 have HA2 := Lib.hid hat
 have HSX := Lib.hid hsx
 have HLL := Lib.hid hll
 have HTV := Lib.hid htp
 have HKV := Lib.hid ((HKd.out.mono (by simp)).trans hkp)
 have HFr := Lib.hid (show ∀ b, ev.ownBlock = some b → b ≠ tb from fun b hb => by have := hfr b hb; have := HKd.out.size; have := HTb2.out; omega)
 clear hat hsx hll htp hkp hfr
 clear hHeld
 refine hK.out _ _ HKV.out (fun hHeld => ?_)
 try simp only [Act.put, List.setIfInBounds_toArray, List.set_cons_zero, List.set_cons_succ]
 clear hK
 refine wpAnyH_ready (rs := [4]) (by kernel_rfl) (by simp) ?_
 refine AllReadyH.cons (o := { dst := some 23, op := Op.buildSlice 22 2 #[(0, Operand.tmp 19), (1, Operand.tmp 22)], type := 22, pos := "law.go:112", after := #[{ on := 0, ground := Ground.data }, { on := 3, ground := Ground.data }], guard := none }) rfl (fun K hK => ?_) AllReadyH.nil
 go_simp
 have hka := (Kp.refl [] V).alloc (.cells (TwoB X1 ⟨ei, ep, en, eo, eu, ed, el, ek, em, l2⟩ dv ev) 34)
 have hr4 : TwoAt (V.alloc (.cells (TwoB X1 ⟨ei, ep, en, eo, eu, ed, el, ek, em, l2⟩ dv ev) 34)) V.heap.size X1 ⟨ei, ep, en, eo, eu, ed, el, ek, em, l2⟩ dv ev := heap_alloc_last V _
 obtain ⟨w4, hw4⟩ : ∃ W, V.alloc (.cells (TwoB X1 ⟨ei, ep, en, eo, eu, ed, el, ek, em, l2⟩ dv ev) 34) = W := ⟨_, rfl⟩
 rw [hw4] at hka hr4
 simp only [TwoB, ← HX1.out] at hw4
 simp only [hw4]
 obtain ⟨R, hR⟩ : ∃ R, V.heap.size = R := ⟨_, rfl⟩
 rw [hR] at hr4 ⊢
 have HR4 := Lib.hid hr4
 have HRV := Lib.hid hR
 have HK4 := Lib.hid (show Kp [tb] V w4 from hka.mono (by simp))
 have HT4 := Lib.hid (HTV.out.kp hka (by simp))
 have HA4 := Lib.hid (HA2.out.below hka.bel)
 have hS := HKV.out.trans HK4.out
 clear hka hr4 hw4 hR
 clear hHeld
 refine hK.out _ _ hS (fun hHeld => ?_)
 try simp only [Act.put, List.setIfInBounds_toArray, List.set_cons_zero, List.set_cons_succ]
 clear hK
 clear hS
 refine wpAnyH_take (i := 5) (oi := { dst := some 7, op := Op.assign (Operand.tmp 23), type := 22, pos := "law.go:112", after := #[{ on := 4, ground := Ground.data }, { on := 3, ground := Ground.chain }, { on := 0, ground := Ground.phase }, { on := 1, ground := Ground.phase }, { on := 2, ground := Ground.phase }, { on := 3, ground := Ground.phase }, { on := 4, ground := Ground.phase }], guard := none }) (v := .slice (some ⟨R, 0, none⟩) 2 2) rfl (by kernel_rfl) (by kernel_rfl) (by kernel_rfl) (fun _ _ _ h => h) (Or.inl ⟨by rfl, fun w hSw => by (try dsimp only at hSw); go_simp⟩) hHeld ?_
 try simp only [Act.put, List.setIfInBounds_toArray, List.set_cons_zero, List.set_cons_succ]
 refine wpAnyH_done (by kernel_rfl) ?_ _
 clear hHeld
 have hT4 := HT4.out
 go_upto_if 26 with (go_at_call 14; refine Calls.mono (next_kp 4 (by omega) (by omega) (by omega) HT4.out) ?_; rintro e w5 ⟨r, hr, rfl, hT5, hk5⟩; have HT5 := Lib.hid hT5; have HK5 := Lib.hid hk5; clear hT5 hk5)
 have HK45 := Lib.hid (HK4.out.trans HK5.out)
 have HRt := Lib.hid (show tb < R from by have := HKV.out.size; have := HRV.out; have := HTb2.out; omega)
 have HW5 := Lib.hid (show TwoAt w5 R X1 ⟨ei, ep, en, eo, eu, ed, el, ek, em, l2⟩ dv ev from (HK5.out.block R (block_lt HR4.out) (by have := HRt.out; simp; omega)).trans HR4.out)
 clear hT4
 go_cut [] (fun wx => ∃ z : Int, Hid ((Lit.int .i64 z).wf = true) ∧ Hid (TwoAt wx R X1 ⟨z, ep, en, eo, eu, ed, el, ek, em, l2⟩ dv ev) ∧ Hid (Tq wx tb 810) ∧ Hid (Kp [tb] V wx))
 case first =>
  by_cases hr0 : r = 0
  ·subst hr0
   have HN10 := Lib.hid (show Calls Tryz.prog 14 #[.pointer (some ⟨tb, 0, none⟩), .int .i64 10] w5 fun e w' => ∃ r : Nat, r < 10 ∧ e = .returned (.int .i64 r) ∧ Tp w' tb (kd + 1 + 1) ∧ Kp [tb] w5 w' from next_kp 10 (by omega) (by omega) (by omega) HT5.out)
   go_wp2_with (go_at_call 14; refine Calls.mono (by with_reducible exact HN10.out) ?_; rintro e w6 ⟨r6, hr6, rfl, hT6, hk6⟩; have HT6 := Lib.hid hT6; have HK6 := Lib.hid (HK45.out.trans hk6); have HW6 := Lib.hid (show TwoAt w6 R X1 ⟨ei, ep, en, eo, eu, ed, el, ek, em, l2⟩ dv ev from (hk6.block R (block_lt HW5.out) (by have := HRt.out; simp; omega)).trans HW5.out); have q0 := HW6.out.cell.1; have qf := HW6.out.frz (o := 10); have hw6 := wrap1 (show r6 < 100 by omega); clear hT6 hk6)
   have HWx := Lib.hid (HW6.out.set (1 + (r6 : Int)))
   have hkR : Kp [R] w6 (w6.setCell ⟨R, 10, none⟩ (.int .i64 (1 + (r6 : Int)))) := (Kp.refl _ _).setCell (p := ⟨R, 10, none⟩) (.inl (by simp)) _
   generalize w6.setCell ⟨R, 10, none⟩ (.int .i64 (1 + (r6 : Int))) = w7 at *
   have HTx := Lib.hid (HT6.out.kp hkR (by have := HRt.out; simp; omega))
   have HKx := Lib.hid (HK6.out.up hkR (by intro z hz; simp at hz; subst hz; exact .inr (by rw [HRV.out]; exact Nat.le_refl _)))
   clear q0 qf hkR
   go_meet
   exact ⟨1 + (r6 : Int), Lib.hid (by rw [wf_range]; omega), HWx, Lib.hid ⟨_, by omega, HTx.out⟩, HKx⟩
  ·have hrz : ¬ (r : Int) = 0 := by omega
   go_wp2
   go_meet
   exact ⟨ei, HWi, HW5, Lib.hid ⟨_, by omega, HT5.out⟩, HK45⟩
 obtain ⟨zi, HWi2, HW6, HT6, HK6⟩ := hcut
 obtain ⟨w6, hw6⟩ : ∃ W, W = wc := ⟨_, rfl⟩
 subst hw6
 obtain ⟨k6, hk6, hT6⟩ := HT6.out
 have HT6 := Lib.hid hT6
 clear hT6 HWi HW5 HT5 HK5 HT4 HR4 HK4 HK45
 go_upto_if 35 with (go_at_call 14; refine Calls.mono (next_kp 6 (by omega) (by omega) (by omega) HT6.out) ?_; rintro e w7 ⟨s, hs, rfl, hT7, hk7⟩; have HT7 := Lib.hid hT7; have HK7 := Lib.hid (HK6.out.trans hk7); have HW7 := Lib.hid (show TwoAt w7 R X1 ⟨zi, ep, en, eo, eu, ed, el, ek, em, l2⟩ dv ev from (hk7.block R (block_lt HW6.out) (by have := HRt.out; simp; omega)).trans HW6.out); clear hT7 hk7)
 go_cut [] (fun wx => ∃ z : Int, Hid ((Lit.int .i64 z).wf = true) ∧ Hid (TwoAt wx R X1 ⟨zi, z, en, eo, eu, ed, el, ek, em, l2⟩ dv ev) ∧ Hid (Kp [tb] V wx))
 case first =>
  by_cases hr0 : s = 0
  ·subst hr0
   have HN12 := Lib.hid (show Calls Tryz.prog 14 #[.pointer (some ⟨tb, 0, none⟩), .int .i64 12] w7 fun e w' => ∃ r : Nat, r < 12 ∧ e = .returned (.int .i64 r) ∧ Tp w' tb (k6 + 1 + 1) ∧ Kp [tb] w7 w' from next_kp 12 (by omega) (by omega) (by omega) HT7.out)
   go_wp2_with (go_at_call 14; refine Calls.mono (by with_reducible exact HN12.out) ?_; rintro e w8 ⟨r6, hr6, rfl, hT6, hk6⟩; have HK8 := Lib.hid (HK7.out.trans hk6); have HW8 := Lib.hid (show TwoAt w8 R X1 ⟨zi, ep, en, eo, eu, ed, el, ek, em, l2⟩ dv ev from (hk6.block R (block_lt HW7.out) (by have := HRt.out; simp; omega)).trans HW7.out); have q0 := HW8.out.cell.2; have qf := HW8.out.frz (o := 11); clear hT6 hk6)
   have HWx := Lib.hid (HW8.out.set1 (r6 : Int))
   have hkR : Kp [R] w8 (w8.setCell ⟨R, 11, none⟩ (.int .i64 (r6 : Int))) := (Kp.refl _ _).setCell (p := ⟨R, 11, none⟩) (.inl (by simp)) _
   generalize w8.setCell ⟨R, 11, none⟩ (.int .i64 (r6 : Int)) = w9 at *
   have HKx := Lib.hid (HK8.out.up hkR (by intro z hz; simp at hz; subst hz; exact .inr (by rw [HRV.out]; exact Nat.le_refl _)))
   clear q0 qf hkR
   go_meet
   exact ⟨(r6 : Int), Lib.hid (by rw [wf_range]; omega), HWx, HKx⟩
  ·have hrz : ¬ (s : Int) = 0 := by omega
   go_wp2
   go_meet
   exact ⟨ep, HWp, HW7, HK7⟩
 obtain ⟨zp, HWp2, HW8, HK8⟩ := hcut
 obtain ⟨w8, hw8⟩ : ∃ W, W = wc := ⟨_, rfl⟩
 subst hw8
 obtain ⟨X2, hX2⟩ : ∃ X : De.ADev, (⟨zi, zp, en, eo, eu, ed, el, ek, em, l2⟩ : De.ADev) = X := ⟨_, rfl⟩
 have HX2 := Lib.hid hX2
 have HK28 := Lib.hid (HKV.out.trans HK8.out)
 have HTr8 := Lib.hid (HTr2.out.kpT HK28.out (by omega))
 have HM8 := Lib.hid (MaxT HM2.out H0t.out HK28.out)
 have HLn := Lib.hid (show ([] : List De.DV).length + L.length ≤ 100000 from by have := HTok.out.n; simp; omega)
 have t0 := HQk.out _ HK28.out
 clear HWp HW6 HT6 HK6 HW7 HT7 HK7 hX2 hk6
 go_upto_region 9 with (first
  | (refine wpList_append_dvs rfl _ _ rfl w8.heap.size (.slice none 0 0) (.slice va N vc) [] L rfl (World.ownsRow_nil _ _ _ _) rfl HTr8.out.any.has HLn.out (Nat.le_refl _) ?_; intro v5 w9 hown hgr; have HOw := Lib.hid hown; have HK9 := Lib.hid (show Kp [] w8 w9 from kp_grownS (Kp.refl [] w8) hgr (fun b hb => by cases hb)); obtain ⟨wa, wcap, hv5⟩ := own_form hown; simp only [List.nil_append, HN.out] at hv5; subst hv5; clear hown hgr)
  | (refine De.wpList_store_new w9 29 _ #[.slice wa N wcap] rfl _ _ rfl rfl rfl info30b rfl (sl_one _ _ _) ?_))
 clear t0
 have HLs := Lib.hid (show De.DHas w9 (.slice wa N wcap) L from by
  have h1 : De.DHas w9 (.slice wa N wcap) ([] ++ L) := De.DOwn.has ⟨HOw.out, fun x hx => dhas_ats (HTr8.out.kp HK9.out).any.has x hx⟩
  simpa using h1)
 obtain ⟨Y, hY⟩ : ∃ Y, w9.heap.size = Y := ⟨_, rfl⟩
 have hq9 := heap_alloc_last w9 (.cells #[.slice wa N wcap] 29)
 have hka := (Kp.refl [] w9).alloc (.cells #[.slice wa N wcap] 29)
 have hk8L := HK9.out.trans hka
 go_wp2
 generalize w9.alloc (.cells #[.slice wa N wcap] 29) = wL at *
 rw [hY] at hq9
 have HYL := Lib.hid hq9
 have HTrL := Lib.hid (HTr8.out.kp hk8L)
 have HML := Lib.hid (HM8.out.below hk8L.bel)
 have HLsL := Lib.hid (HLs.out.below hka.bel)
 have HWL := Lib.hid (show TwoAt wL R X1 X2 dv ev from by
  rw [← HX2.out]
  exact (hk8L.block R (block_lt HW8.out) (by simp)).trans HW8.out)
 have HK2L := Lib.hid (HK28.out.trans (hk8L.mono (by simp)))
 have HKwL := Lib.hid (show Below w.heap.size w wL from ((HKz.out.mono (by simp)).trans (HK2.out.trans HK2L.out)).below (Nat.le_refl _) (by intro x hx; simp at hx; have := Htb.out; have := HKz.out.size; omega))
 have HG1L := Lib.hid (HG1.out.1.below HKwL.out)
 have HG2 := Lib.hid (show De.Has wL ev X2.ats ∧ De.Sized (De.devOf X2 ev) X2.ats ∧ X2.ats.length ≤ 9223372036854775807 ∧ (Lit.int .i64 X2.idx).wf = true ∧ (Lit.int .i64 X2.par).wf = true from by
  rw [← HX2.out]
  refine ⟨hasT HA2.out (HK8.out.trans (hk8L.mono (by simp))) HFr.out, ?_, Nat.le_trans HLL.out (by decide), HWi2.out, HWp2.out⟩
  have h := sized_sml HSX.out
  exact ⟨h.nm, h.og, h.sb, h.dr, h.al, h.at_⟩)
 have HFin := Lib.hid (fun (w' : World) (hk : Kp [] wL w') => (show Below w.heap.size w w' from HKwL.out.trans (hk.bel.mono HKwL.out.size)))
 have HQL := Lib.hid ((hk8L.block Q (by have := HK28.out.size; have := block_lt HQ2.out; omega) (by simp)).trans ((HK28.out.block Q (block_lt HQ2.out) (by have := HQt.out; simp; omega)).trans HQ2.out))
 clear hq9 hka hk8L hY HOw HLs HK9 HTr8 HM8 HW8 HK8 HK28 HLn HTr2 HM2 HQ2 HT2 HK2 HA2 HSX HLL HTV HKV HFr HRV HWi2 HWp2 HQk HDV HP0 HX2 HK2L
 go_loopw [9] (fun s9 wx => ∃ i : Nat, i ≤ 2 ∧ s9 = .int .i64 (i : Int) ∧ Hid (Kp [] wL wx)) (fun s9 _ => 2 - (intOf s9).toNat)
 case atStart => exact ⟨0, by omega, rfl, Lib.hid (Kp.refl _ _)⟩
 case round =>
  obtain ⟨i, hi, rfl, HKr⟩ := hrel
  by_cases hlt : i < 2
  ·have hiz : (i : Int) < 2 := by omega
   obtain ⟨x, hx⟩ : ∃ x, [(X1, dv), (X2, ev)][i]? = some x := ⟨[(X1, dv), (X2, ev)][i]'hlt, List.getElem?_eq_getElem _⟩
   have HX := Lib.hid hx
   have HG := Lib.hid (show De.Has wL x.2 x.1.ats ∧ De.Sized (De.devOf x.1 x.2) x.1.ats ∧ x.1.ats.length ≤ 9223372036854775807 ∧ (Lit.int .i64 x.1.idx).wf = true ∧ (Lit.int .i64 x.1.par).wf = true from by
    rcases List.mem_cons.1 (List.mem_of_getElem? hx) with rfl | h
    ·exact ⟨HG1L.out, HG1.out.2⟩
    ·rw [List.mem_singleton.1 h]
     exact HG2.out)
   have HRn := Lib.hid (show ∀ W, Kp [] wr W → W.rangeAt R (i * 10) (De.dvC x.1 x.2) from fun W hk => by
    have h1 := (HWL.out.has HG1L.out HG2.out.1).below (HKr.out.trans hk).bel
    obtain ⟨g, o, e, -, -, h2⟩ := row_of h1 HX.out
    injection e with e
    injection e with e1 e2
    subst e1
    subst e2
    have h3 := h2.at_ i x HX.out
    rwa [Nat.zero_add] at h3)
   have HRm := Lib.hid (fun W (hk : Kp [] wL W) => (HWL.out.has HG1L.out HG2.out.1).below hk.bel)
   obtain ⟨E, hE⟩ : ∃ E, insT (L.map (·.1)) x.1 = E := ⟨_, rfl⟩
   have HE := Lib.hid hE
   have HQx := Lib.hid (fun (W : World) (hk : Kp [] wr W) => cell_one (((HKr.out.trans hk).block Q (block_lt HQL.out) (by simp)).trans HQL.out))
   have HI40 := Lib.hid (show ∀ W, Kp [] wr W → Calls Tryz.prog 40 #[.agg #[.slice va N vc], .agg (De.dvC x.1 x.2).toArray] W fun e w' => ∃ a m c L', e = .returned (.tuple #[.agg #[.slice a m c], .int .i64 E]) ∧ Hid (L'.map (·.1) = insR (L.map (·.1)) x.1) ∧ Hid (De.DHas w' (.slice a m c) L') ∧ Hid (Kp [] W w') from fun W hk => by
    rw [← HE.out]
    exact ins40 HTrL.out (by omega) (HTrL.out.kp (HKr.out.trans hk)).any.has (De.devOf x.1 x.2) x.1.ats (HG.out.1.below (HKr.out.trans hk).bel) HG.out.2.1 HG.out.2.2.1 (HML.out.below (HKr.out.trans hk).bel) HG.out.2.2.2.1 HG.out.2.2.2.2)
   clear hx hE
   go_upto_region 12 with fail
   go_cut [10, 11] (fun s10 s11 wx => ∃ (R8 : Nat) (na : Option Addr) (nn nc : Nat) (L2 : List De.DV), s10 = .pointer (some ⟨R8, 0, none⟩) ∧ s11 = .int .i64 E ∧ Hid (wx.heap[R8]? = some (.cells #[.slice na nn nc] 29 (0, 0))) ∧ Hid (L2.map (·.1) = insR (L.map (·.1)) x.1) ∧ Hid (De.DHas wx (.slice na nn nc) L2) ∧ Hid (Kp [] wr wx))
   case first =>
    refine wp_region_held_drew (S := fun W => Kp [] wr W) (by kernel_rfl) ((Kp.refl [] wr).drew 1) (fun hHeld => ?_)
    generalize hwd : wr.drew = wd at *
    clear hwd
    refine wpAnyH_take (i := 0) (oi := { dst := some 52, op := Op.load 29 (Operand.tmp 6), type := 29, pos := "law.go:121", after := #[], guard := none }) (v := .agg #[.slice va N vc]) rfl (by kernel_rfl) (by kernel_rfl) (by kernel_rfl) (fun _ _ _ h => h) (Or.inl ⟨by rfl, fun w hSw => by (try dsimp only at hSw); have t0 := HQx.out _ hSw; go_simp⟩) hHeld ?_
    try simp only [Act.put, List.setIfInBounds_toArray, List.set_cons_zero, List.set_cons_succ]
    refine wpAnyH_take (i := 1) (oi := { dst := some 53, op := Op.move (Operand.tmp 7), type := 22, pos := "law.go:121", after := #[], guard := none }) (v := .slice (some ⟨R, 0, none⟩) 2 2) rfl (by kernel_rfl) (by kernel_rfl) (by kernel_rfl) (fun _ _ _ h => h) (Or.inl ⟨by rfl, fun w hSw => by (try dsimp only at hSw); go_simp⟩) hHeld ?_
    try simp only [Act.put, List.setIfInBounds_toArray, List.set_cons_zero, List.set_cons_succ]
    refine wpAnyH_take (i := 2) (oi := { dst := some 54, op := Op.move (Operand.tmp 9), type := 3, pos := "law.go:121", after := #[], guard := none }) (v := .int .i64 (i : Int)) rfl (by kernel_rfl) (by kernel_rfl) (by kernel_rfl) (fun _ _ _ h => h) (Or.inl ⟨by rfl, fun w hSw => by (try dsimp only at hSw); go_simp⟩) hHeld ?_
    try simp only [Act.put, List.setIfInBounds_toArray, List.set_cons_zero, List.set_cons_succ]
    refine wpAnyH_take (i := 3) (oi := { dst := some 55, op := Op.indexAddr 22 (Operand.tmp 53) (Operand.tmp 54), type := 0, pos := "law.go:121", after := #[{ on := 1, ground := Ground.data }, { on := 2, ground := Ground.data }], guard := none }) (v := .pointer (some ⟨R, i * 10, none⟩)) rfl (by kernel_rfl) (by kernel_rfl) (by kernel_rfl) (fun _ _ _ h => h) (Or.inl ⟨by rfl, fun w hSw => by (try dsimp only at hSw); go_simp⟩) hHeld ?_
    try simp only [Act.put, List.setIfInBounds_toArray, List.set_cons_zero, List.set_cons_succ]
    refine wpAnyH_take (i := 4) (oi := { dst := some 56, op := Op.load 34 (Operand.tmp 55), type := 34, pos := "law.go:121", after := #[{ on := 3, ground := Ground.data }], guard := none }) (v := .agg (De.dvC x.1 x.2).toArray) rfl (by kernel_rfl) (by kernel_rfl) (by kernel_rfl) (fun _ _ _ h => h) (yieldsIf_load_mid (by rfl) 34 _ rfl R (i * 10) rfl (De.dvC x.1 x.2) _ (fun w hSw => HRn.out _ hSw) Tryz.underlying34 rfl De.info34b) hHeld ?_
    try simp only [Act.put, List.setIfInBounds_toArray, List.set_cons_zero, List.set_cons_succ]
    refine wpAnyH_ready (rs := [5, 9]) (by kernel_rfl) (by simp) ?_
    refine AllReadyH.cons (o := { dst := some 57, op := Op.call { callee := Callee.value (Operand.func 40), args := #[Operand.tmp 52, Operand.tmp 56], argTypes := #[29, 34] }, type := 52, pos := "law.go:121", after := #[{ on := 0, ground := Ground.data }, { on := 4, ground := Ground.data }], guard := none }) rfl (fun K hK => ?_) (AllReadyH.cons (o := { dst := some 10, op := Op.alloc 29, type := 0, pos := "law.go:121", after := #[], guard := none }) rfl (fun K hK => ?_) AllReadyH.nil)
    ·skip
     go_simp
     go_at_call 40
     refine Calls.mono (by with_reducible exact HI40.out _ hHeld) ?_
     rintro e V5 ⟨na, nn, nc, L2, rfl, HL2, HD2, HKv⟩
     dsimp only
     have hS := hHeld.trans HKv.out
     clear hHeld
     refine hK.out _ _ hS (fun hHeld => ?_)
     try simp only [Act.put, List.setIfInBounds_toArray, List.set_cons_zero, List.set_cons_succ]
     clear hK
     clear hS
     refine wpAnyH_take (i := 6) (oi := { dst := some 51, op := Op.move (Operand.tmp 57), type := 52, pos := "law.go:121", after := #[{ on := 5, ground := Ground.data }], guard := none }) (v := .tuple #[.agg #[.slice na nn nc], .int .i64 E]) rfl (by kernel_rfl) (by kernel_rfl) (by kernel_rfl) (fun _ _ _ h => h) (Or.inl ⟨by rfl, fun w hSw => by (try dsimp only at hSw); go_simp⟩) hHeld ?_
     try simp only [Act.put, List.setIfInBounds_toArray, List.set_cons_zero, List.set_cons_succ]
     refine wpAnyH_take (i := 7) (oi := { dst := some 58, op := Op.extract (Operand.tmp 51) 0, type := 29, pos := "law.go:121", after := #[{ on := 6, ground := Ground.data }], guard := none }) (v := .agg #[.slice na nn nc]) rfl (by kernel_rfl) (by kernel_rfl) (by kernel_rfl) (fun _ _ _ h => h) (Or.inl ⟨by rfl, fun w hSw => by (try dsimp only at hSw); go_simp⟩) hHeld ?_
     try simp only [Act.put, List.setIfInBounds_toArray, List.set_cons_zero, List.set_cons_succ]
     refine wpAnyH_take (i := 8) (oi := { dst := some 59, op := Op.extract (Operand.tmp 51) 1, type := 36, pos := "law.go:121", after := #[{ on := 6, ground := Ground.data }, { on := 10, ground := Ground.gcOnly Departure.lateStores }], guard := none }) (v := .int .i64 E) rfl (by kernel_rfl) (by kernel_rfl) (by kernel_rfl) (fun _ _ _ h => h) (Or.inl ⟨by rfl, fun w hSw => by (try dsimp only at hSw); go_simp⟩) hHeld ?_
     try simp only [Act.put, List.setIfInBounds_toArray, List.set_cons_zero, List.set_cons_succ]
     refine wpAnyH_ready (rs := [9]) (by kernel_rfl) (by simp) ?_
     refine AllReadyH.cons (o := { dst := some 10, op := Op.alloc 29, type := 0, pos := "law.go:121", after := #[], guard := none }) rfl (fun K hK => ?_) AllReadyH.nil
     go_simp
     have hkn := (Kp.refl [] V5).alloc (.cells #[.slice none 0 0] 29)
     have hr8 := heap_alloc_last V5 (.cells #[.slice none 0 0] 29)
     obtain ⟨R8, hR8⟩ : ∃ R, V5.heap.size = R := ⟨_, rfl⟩
     generalize V5.alloc (.cells #[.slice none 0 0] 29) = w8 at *
     rw [hR8] at hr8 ⊢
     have HRr := Lib.hid hr8
     have HRge := Lib.hid (show wr.heap.size ≤ R8 from by rw [← hR8]; exact hHeld.size)
     have hd2 := HD2.out.below hkn.bel
     clear HD2
     have HD2 := Lib.hid hd2
     have hS := hHeld.trans hkn
     clear hkn hr8 hR8 hd2
     clear hHeld
     refine hK.out _ _ hS (fun hHeld => ?_)
     try simp only [Act.put, List.setIfInBounds_toArray, List.set_cons_zero, List.set_cons_succ]
     clear hK
     clear hS
     refine wpAnyH_ready (rs := [10]) (by kernel_rfl) (by simp) ?_
     refine AllReadyH.cons (o := { dst := none, op := Op.store 29 (Operand.tmp 10) (Operand.tmp 58), type := 0, pos := "law.go:121", after := #[{ on := 9, ground := Ground.data }, { on := 7, ground := Ground.data }, { on := 5, ground := Ground.chain }, { on := 0, ground := Ground.phase }, { on := 1, ground := Ground.phase }, { on := 2, ground := Ground.phase }, { on := 3, ground := Ground.phase }, { on := 4, ground := Ground.phase }, { on := 5, ground := Ground.phase }, { on := 6, ground := Ground.phase }, { on := 7, ground := Ground.phase }, { on := 8, ground := Ground.textOnly Departure.lateStores }, { on := 9, ground := Ground.phase }], guard := none }) rfl (fun K hK => ?_) AllReadyH.nil
     refine step_store rfl 29 (.tmp 10) (.tmp 58) rfl R8 #[.slice na nn nc] rfl rfl 29 #[.slice none 0 0] HRr.out info30b rfl (sl_one _ _ _) ?_
     have HRe := Lib.hid (setRow_heap _ _ _ #[.slice na nn nc] _ _ HRr.out)
     have hkR : Kp [R8] w8 (w8.setRow R8 #[.slice na nn nc]) := (Kp.refl [R8] _).setRow (.inl (by simp)) _
     generalize w8.setRow R8 #[.slice na nn nc] = we at *
     have HDe := Lib.hid (dhasR HD2.out hkR HRr.out)
     have hS := hHeld.up hkR (by intro z hz; simp at hz; subst hz; exact .inr HRge.out)
     clear hkR
     clear hHeld
     refine hK.out _ _ hS (fun hHeld => ?_)
     try simp only [Act.put]
     clear hK
     clear hS
     refine wpAnyH_take (i := 11) (oi := { dst := some 11, op := Op.assign (Operand.tmp 59), type := 36, pos := "law.go:121", after := #[{ on := 8, ground := Ground.data }, { on := 10, ground := Ground.chain }, { on := 0, ground := Ground.phase }, { on := 1, ground := Ground.phase }, { on := 2, ground := Ground.phase }, { on := 3, ground := Ground.phase }, { on := 4, ground := Ground.phase }, { on := 5, ground := Ground.phase }, { on := 6, ground := Ground.phase }, { on := 7, ground := Ground.phase }, { on := 8, ground := Ground.phase }, { on := 9, ground := Ground.phase }, { on := 10, ground := Ground.phase }], guard := none }) (v := .int .i64 E) rfl (by kernel_rfl) (by kernel_rfl) (by kernel_rfl) (fun _ _ _ h => h) (Or.inl ⟨by rfl, fun w hSw => by (try dsimp only at hSw); go_simp⟩) hHeld ?_
     try simp only [Act.put, List.setIfInBounds_toArray, List.set_cons_zero, List.set_cons_succ]
     have HSe := Lib.hid hHeld
     refine wpAnyH_done (by kernel_rfl) ?_ _
     clear hHeld
     go_wp2
     go_meet
     exact ⟨R8, na, nn, nc, L2, rfl, rfl, HRe, HL2, HDe, HSe⟩
    ·skip
     go_simp
     have hkn := (Kp.refl [] wd).alloc (.cells #[.slice none 0 0] 29)
     have hr8 := heap_alloc_last wd (.cells #[.slice none 0 0] 29)
     obtain ⟨R8, hR8⟩ : ∃ R, wd.heap.size = R := ⟨_, rfl⟩
     generalize wd.alloc (.cells #[.slice none 0 0] 29) = w8 at *
     rw [hR8] at hr8 ⊢
     have HRr := Lib.hid hr8
     have HRge := Lib.hid (show wr.heap.size ≤ R8 from by rw [← hR8]; exact hHeld.size)
     have hS := hHeld.trans hkn
     clear hkn hr8 hR8
     clear hHeld
     refine hK.out _ _ hS (fun hHeld => ?_)
     try simp only [Act.put, List.setIfInBounds_toArray, List.set_cons_zero, List.set_cons_succ]
     clear hK
     clear hS
     refine wpAnyH_ready (rs := [5]) (by kernel_rfl) (by simp) ?_
     refine AllReadyH.cons (o := { dst := some 57, op := Op.call { callee := Callee.value (Operand.func 40), args := #[Operand.tmp 52, Operand.tmp 56], argTypes := #[29, 34] }, type := 52, pos := "law.go:121", after := #[{ on := 0, ground := Ground.data }, { on := 4, ground := Ground.data }], guard := none }) rfl (fun K hK => ?_) AllReadyH.nil
     go_simp
     go_at_call 40
     refine Calls.mono (by with_reducible exact HI40.out _ hHeld) ?_
     rintro e V5 ⟨na, nn, nc, L2, rfl, HL2, HD2, HKv⟩
     dsimp only
     have hrv := (HKv.out.block R8 (block_lt HRr.out) (by simp)).trans HRr.out
     clear HRr
     have HRr := Lib.hid hrv
     have hS := hHeld.trans HKv.out
     clear hrv
     clear hHeld
     refine hK.out _ _ hS (fun hHeld => ?_)
     try simp only [Act.put, List.setIfInBounds_toArray, List.set_cons_zero, List.set_cons_succ]
     clear hK
     clear hS
     refine wpAnyH_take (i := 6) (oi := { dst := some 51, op := Op.move (Operand.tmp 57), type := 52, pos := "law.go:121", after := #[{ on := 5, ground := Ground.data }], guard := none }) (v := .tuple #[.agg #[.slice na nn nc], .int .i64 E]) rfl (by kernel_rfl) (by kernel_rfl) (by kernel_rfl) (fun _ _ _ h => h) (Or.inl ⟨by rfl, fun w hSw => by (try dsimp only at hSw); go_simp⟩) hHeld ?_
     try simp only [Act.put, List.setIfInBounds_toArray, List.set_cons_zero, List.set_cons_succ]
     refine wpAnyH_take (i := 7) (oi := { dst := some 58, op := Op.extract (Operand.tmp 51) 0, type := 29, pos := "law.go:121", after := #[{ on := 6, ground := Ground.data }], guard := none }) (v := .agg #[.slice na nn nc]) rfl (by kernel_rfl) (by kernel_rfl) (by kernel_rfl) (fun _ _ _ h => h) (Or.inl ⟨by rfl, fun w hSw => by (try dsimp only at hSw); go_simp⟩) hHeld ?_
     try simp only [Act.put, List.setIfInBounds_toArray, List.set_cons_zero, List.set_cons_succ]
     refine wpAnyH_take (i := 8) (oi := { dst := some 59, op := Op.extract (Operand.tmp 51) 1, type := 36, pos := "law.go:121", after := #[{ on := 6, ground := Ground.data }, { on := 10, ground := Ground.gcOnly Departure.lateStores }], guard := none }) (v := .int .i64 E) rfl (by kernel_rfl) (by kernel_rfl) (by kernel_rfl) (fun _ _ _ h => h) (Or.inl ⟨by rfl, fun w hSw => by (try dsimp only at hSw); go_simp⟩) hHeld ?_
     try simp only [Act.put, List.setIfInBounds_toArray, List.set_cons_zero, List.set_cons_succ]
     refine wpAnyH_ready (rs := [10]) (by kernel_rfl) (by simp) ?_
     refine AllReadyH.cons (o := { dst := none, op := Op.store 29 (Operand.tmp 10) (Operand.tmp 58), type := 0, pos := "law.go:121", after := #[{ on := 9, ground := Ground.data }, { on := 7, ground := Ground.data }, { on := 5, ground := Ground.chain }, { on := 0, ground := Ground.phase }, { on := 1, ground := Ground.phase }, { on := 2, ground := Ground.phase }, { on := 3, ground := Ground.phase }, { on := 4, ground := Ground.phase }, { on := 5, ground := Ground.phase }, { on := 6, ground := Ground.phase }, { on := 7, ground := Ground.phase }, { on := 8, ground := Ground.textOnly Departure.lateStores }, { on := 9, ground := Ground.phase }], guard := none }) rfl (fun K hK => ?_) AllReadyH.nil
     refine step_store rfl 29 (.tmp 10) (.tmp 58) rfl R8 #[.slice na nn nc] rfl rfl 29 #[.slice none 0 0] HRr.out info30b rfl (sl_one _ _ _) ?_
     have HRe := Lib.hid (setRow_heap _ _ _ #[.slice na nn nc] _ _ HRr.out)
     have hkR : Kp [R8] V5 (V5.setRow R8 #[.slice na nn nc]) := (Kp.refl [R8] _).setRow (.inl (by simp)) _
     generalize V5.setRow R8 #[.slice na nn nc] = we at *
     have HDe := Lib.hid (dhasR HD2.out hkR HRr.out)
     have hS := hHeld.up hkR (by intro z hz; simp at hz; subst hz; exact .inr HRge.out)
     clear hkR
     clear hHeld
     refine hK.out _ _ hS (fun hHeld => ?_)
     try simp only [Act.put]
     clear hK
     clear hS
     refine wpAnyH_take (i := 11) (oi := { dst := some 11, op := Op.assign (Operand.tmp 59), type := 36, pos := "law.go:121", after := #[{ on := 8, ground := Ground.data }, { on := 10, ground := Ground.chain }, { on := 0, ground := Ground.phase }, { on := 1, ground := Ground.phase }, { on := 2, ground := Ground.phase }, { on := 3, ground := Ground.phase }, { on := 4, ground := Ground.phase }, { on := 5, ground := Ground.phase }, { on := 6, ground := Ground.phase }, { on := 7, ground := Ground.phase }, { on := 8, ground := Ground.phase }, { on := 9, ground := Ground.phase }, { on := 10, ground := Ground.phase }], guard := none }) (v := .int .i64 E) rfl (by kernel_rfl) (by kernel_rfl) (by kernel_rfl) (fun _ _ _ h => h) (Or.inl ⟨by rfl, fun w hSw => by (try dsimp only at hSw); go_simp⟩) hHeld ?_
     try simp only [Act.put, List.setIfInBounds_toArray, List.set_cons_zero, List.set_cons_succ]
     have HSe := Lib.hid hHeld
     refine wpAnyH_done (by kernel_rfl) ?_ _
     clear hHeld
     go_wp2
     go_meet
     exact ⟨R8, na, nn, nc, L2, rfl, rfl, HRe, HL2, HDe, HSe⟩
   obtain ⟨R8, na, nn, nc, La, rfl, rfl, HR8, HLa, HDa, HKa⟩ := hcut
   obtain ⟨wp, hwp⟩ : ∃ W, W = wc := ⟨_, rfl⟩
   subst hwp
   have HKp := Lib.hid (HKr.out.trans HKa.out)
   have hrn := HRn.out
   clear HRn HQx HI40
   have HRn := Lib.hid (show ∀ W, Kp [] wp W → W.rangeAt R (i * 10) (De.dvC x.1 x.2) from fun W hk => hrn W (HKa.out.trans hk))
   clear hrn
   have HQx := Lib.hid (fun (W : World) (hk : Kp [] wp W) => cell_one (((HKp.out.trans hk).block Q (block_lt HQL.out) (by simp)).trans HQL.out))
   have HI41 := Lib.hid (show ∀ W, Kp [] wp W → Calls Tryz.prog 41 #[.agg #[.slice va N vc], .agg (De.dvC x.1 x.2).toArray] W fun e w' => ∃ a m c L', e = .returned (.tuple #[.agg #[.slice a m c], .int .i64 E]) ∧ Hid (L'.map (·.1) = insR (L.map (·.1)) x.1) ∧ Hid (De.DHas w' (.slice a m c) L') ∧ Hid (Kp [] W w') from fun W hk => by
    rw [← HE.out]
    exact ins41 HTrL.out (by omega) (HTrL.out.kp (HKp.out.trans hk)).any (De.devOf x.1 x.2) x.1.ats (HG.out.1.below (HKp.out.trans hk).bel) HG.out.2.1 HG.out.2.2.1 (HML.out.below (HKp.out.trans hk).bel))
   go_upto_region 13 with fail
   go_cut [12, 13] (fun s12 s13 wx => ∃ (R8 : Nat) (na : Option Addr) (nn nc : Nat) (L2 : List De.DV), s12 = .pointer (some ⟨R8, 0, none⟩) ∧ s13 = .int .i64 E ∧ Hid (wx.heap[R8]? = some (.cells #[.slice na nn nc] 29 (0, 0))) ∧ Hid (L2.map (·.1) = insR (L.map (·.1)) x.1) ∧ Hid (De.DHas wx (.slice na nn nc) L2) ∧ Hid (Kp [] wp wx))
   case first =>
    refine wp_region_held_drew (S := fun W => Kp [] wp W) (by kernel_rfl) ((Kp.refl [] wp).drew 1) (fun hHeld => ?_)
    generalize hwd : wp.drew = wd at *
    clear hwd
    refine wpAnyH_take (i := 0) (oi := { dst := some 61, op := Op.load 29 (Operand.tmp 6), type := 29, pos := "law.go:122", after := #[], guard := none }) (v := .agg #[.slice va N vc]) rfl (by kernel_rfl) (by kernel_rfl) (by kernel_rfl) (fun _ _ _ h => h) (Or.inl ⟨by rfl, fun w hSw => by (try dsimp only at hSw); have t0 := HQx.out _ hSw; go_simp⟩) hHeld ?_
    try simp only [Act.put, List.setIfInBounds_toArray, List.set_cons_zero, List.set_cons_succ]
    refine wpAnyH_take (i := 1) (oi := { dst := some 62, op := Op.move (Operand.tmp 7), type := 22, pos := "law.go:122", after := #[], guard := none }) (v := .slice (some ⟨R, 0, none⟩) 2 2) rfl (by kernel_rfl) (by kernel_rfl) (by kernel_rfl) (fun _ _ _ h => h) (Or.inl ⟨by rfl, fun w hSw => by (try dsimp only at hSw); go_simp⟩) hHeld ?_
    try simp only [Act.put, List.setIfInBounds_toArray, List.set_cons_zero, List.set_cons_succ]
    refine wpAnyH_take (i := 2) (oi := { dst := some 63, op := Op.move (Operand.tmp 9), type := 3, pos := "law.go:122", after := #[], guard := none }) (v := .int .i64 (i : Int)) rfl (by kernel_rfl) (by kernel_rfl) (by kernel_rfl) (fun _ _ _ h => h) (Or.inl ⟨by rfl, fun w hSw => by (try dsimp only at hSw); go_simp⟩) hHeld ?_
    try simp only [Act.put, List.setIfInBounds_toArray, List.set_cons_zero, List.set_cons_succ]
    refine wpAnyH_take (i := 3) (oi := { dst := some 64, op := Op.indexAddr 22 (Operand.tmp 62) (Operand.tmp 63), type := 0, pos := "law.go:122", after := #[{ on := 1, ground := Ground.data }, { on := 2, ground := Ground.data }], guard := none }) (v := .pointer (some ⟨R, i * 10, none⟩)) rfl (by kernel_rfl) (by kernel_rfl) (by kernel_rfl) (fun _ _ _ h => h) (Or.inl ⟨by rfl, fun w hSw => by (try dsimp only at hSw); go_simp⟩) hHeld ?_
    try simp only [Act.put, List.setIfInBounds_toArray, List.set_cons_zero, List.set_cons_succ]
    refine wpAnyH_take (i := 4) (oi := { dst := some 65, op := Op.load 34 (Operand.tmp 64), type := 34, pos := "law.go:122", after := #[{ on := 3, ground := Ground.data }], guard := none }) (v := .agg (De.dvC x.1 x.2).toArray) rfl (by kernel_rfl) (by kernel_rfl) (by kernel_rfl) (fun _ _ _ h => h) (yieldsIf_load_mid (by rfl) 34 _ rfl R (i * 10) rfl (De.dvC x.1 x.2) _ (fun w hSw => HRn.out _ hSw) Tryz.underlying34 rfl De.info34b) hHeld ?_
    try simp only [Act.put, List.setIfInBounds_toArray, List.set_cons_zero, List.set_cons_succ]
    refine wpAnyH_ready (rs := [5, 9]) (by kernel_rfl) (by simp) ?_
    refine AllReadyH.cons (o := { dst := some 66, op := Op.call { callee := Callee.value (Operand.func 41), args := #[Operand.tmp 61, Operand.tmp 65], argTypes := #[29, 34] }, type := 52, pos := "law.go:122", after := #[{ on := 0, ground := Ground.data }, { on := 4, ground := Ground.data }], guard := none }) rfl (fun K hK => ?_) (AllReadyH.cons (o := { dst := some 12, op := Op.alloc 29, type := 0, pos := "law.go:122", after := #[], guard := none }) rfl (fun K hK => ?_) AllReadyH.nil)
    ·skip
     go_simp
     go_at_call 41
     refine Calls.mono (by with_reducible exact HI41.out _ hHeld) ?_
     rintro e V5 ⟨na, nn, nc, L2, rfl, HL2, HD2, HKv⟩
     dsimp only
     have hS := hHeld.trans HKv.out
     clear hHeld
     refine hK.out _ _ hS (fun hHeld => ?_)
     try simp only [Act.put, List.setIfInBounds_toArray, List.set_cons_zero, List.set_cons_succ]
     clear hK
     clear hS
     refine wpAnyH_take (i := 6) (oi := { dst := some 60, op := Op.move (Operand.tmp 66), type := 52, pos := "law.go:122", after := #[{ on := 5, ground := Ground.data }], guard := none }) (v := .tuple #[.agg #[.slice na nn nc], .int .i64 E]) rfl (by kernel_rfl) (by kernel_rfl) (by kernel_rfl) (fun _ _ _ h => h) (Or.inl ⟨by rfl, fun w hSw => by (try dsimp only at hSw); go_simp⟩) hHeld ?_
     try simp only [Act.put, List.setIfInBounds_toArray, List.set_cons_zero, List.set_cons_succ]
     refine wpAnyH_take (i := 7) (oi := { dst := some 67, op := Op.extract (Operand.tmp 60) 0, type := 29, pos := "law.go:122", after := #[{ on := 6, ground := Ground.data }], guard := none }) (v := .agg #[.slice na nn nc]) rfl (by kernel_rfl) (by kernel_rfl) (by kernel_rfl) (fun _ _ _ h => h) (Or.inl ⟨by rfl, fun w hSw => by (try dsimp only at hSw); go_simp⟩) hHeld ?_
     try simp only [Act.put, List.setIfInBounds_toArray, List.set_cons_zero, List.set_cons_succ]
     refine wpAnyH_take (i := 8) (oi := { dst := some 68, op := Op.extract (Operand.tmp 60) 1, type := 36, pos := "law.go:122", after := #[{ on := 6, ground := Ground.data }, { on := 10, ground := Ground.gcOnly Departure.lateStores }], guard := none }) (v := .int .i64 E) rfl (by kernel_rfl) (by kernel_rfl) (by kernel_rfl) (fun _ _ _ h => h) (Or.inl ⟨by rfl, fun w hSw => by (try dsimp only at hSw); go_simp⟩) hHeld ?_
     try simp only [Act.put, List.setIfInBounds_toArray, List.set_cons_zero, List.set_cons_succ]
     refine wpAnyH_ready (rs := [9]) (by kernel_rfl) (by simp) ?_
     refine AllReadyH.cons (o := { dst := some 12, op := Op.alloc 29, type := 0, pos := "law.go:122", after := #[], guard := none }) rfl (fun K hK => ?_) AllReadyH.nil
     go_simp
     have hkn := (Kp.refl [] V5).alloc (.cells #[.slice none 0 0] 29)
     have hr8 := heap_alloc_last V5 (.cells #[.slice none 0 0] 29)
     obtain ⟨R8, hR8⟩ : ∃ R, V5.heap.size = R := ⟨_, rfl⟩
     generalize V5.alloc (.cells #[.slice none 0 0] 29) = w8 at *
     rw [hR8] at hr8 ⊢
     have HRr := Lib.hid hr8
     have HRge := Lib.hid (show wp.heap.size ≤ R8 from by rw [← hR8]; exact hHeld.size)
     have hd2 := HD2.out.below hkn.bel
     clear HD2
     have HD2 := Lib.hid hd2
     have hS := hHeld.trans hkn
     clear hkn hr8 hR8 hd2
     clear hHeld
     refine hK.out _ _ hS (fun hHeld => ?_)
     try simp only [Act.put, List.setIfInBounds_toArray, List.set_cons_zero, List.set_cons_succ]
     clear hK
     clear hS
     refine wpAnyH_ready (rs := [10]) (by kernel_rfl) (by simp) ?_
     refine AllReadyH.cons (o := { dst := none, op := Op.store 29 (Operand.tmp 12) (Operand.tmp 67), type := 0, pos := "law.go:122", after := #[{ on := 9, ground := Ground.data }, { on := 7, ground := Ground.data }, { on := 5, ground := Ground.chain }, { on := 0, ground := Ground.phase }, { on := 1, ground := Ground.phase }, { on := 2, ground := Ground.phase }, { on := 3, ground := Ground.phase }, { on := 4, ground := Ground.phase }, { on := 5, ground := Ground.phase }, { on := 6, ground := Ground.phase }, { on := 7, ground := Ground.phase }, { on := 8, ground := Ground.textOnly Departure.lateStores }, { on := 9, ground := Ground.phase }], guard := none }) rfl (fun K hK => ?_) AllReadyH.nil
     refine step_store rfl 29 (.tmp 12) (.tmp 67) rfl R8 #[.slice na nn nc] rfl rfl 29 #[.slice none 0 0] HRr.out info30b rfl (sl_one _ _ _) ?_
     have HRe := Lib.hid (setRow_heap _ _ _ #[.slice na nn nc] _ _ HRr.out)
     have hkR : Kp [R8] w8 (w8.setRow R8 #[.slice na nn nc]) := (Kp.refl [R8] _).setRow (.inl (by simp)) _
     generalize w8.setRow R8 #[.slice na nn nc] = we at *
     have HDe := Lib.hid (dhasR HD2.out hkR HRr.out)
     have hS := hHeld.up hkR (by intro z hz; simp at hz; subst hz; exact .inr HRge.out)
     clear hkR
     clear hHeld
     refine hK.out _ _ hS (fun hHeld => ?_)
     try simp only [Act.put]
     clear hK
     clear hS
     refine wpAnyH_take (i := 11) (oi := { dst := some 13, op := Op.assign (Operand.tmp 68), type := 36, pos := "law.go:122", after := #[{ on := 8, ground := Ground.data }, { on := 10, ground := Ground.chain }, { on := 0, ground := Ground.phase }, { on := 1, ground := Ground.phase }, { on := 2, ground := Ground.phase }, { on := 3, ground := Ground.phase }, { on := 4, ground := Ground.phase }, { on := 5, ground := Ground.phase }, { on := 6, ground := Ground.phase }, { on := 7, ground := Ground.phase }, { on := 8, ground := Ground.phase }, { on := 9, ground := Ground.phase }, { on := 10, ground := Ground.phase }], guard := none }) (v := .int .i64 E) rfl (by kernel_rfl) (by kernel_rfl) (by kernel_rfl) (fun _ _ _ h => h) (Or.inl ⟨by rfl, fun w hSw => by (try dsimp only at hSw); go_simp⟩) hHeld ?_
     try simp only [Act.put, List.setIfInBounds_toArray, List.set_cons_zero, List.set_cons_succ]
     have HSe := Lib.hid hHeld
     refine wpAnyH_done (by kernel_rfl) ?_ _
     clear hHeld
     go_wp2
     go_meet
     exact ⟨R8, na, nn, nc, L2, rfl, rfl, HRe, HL2, HDe, HSe⟩
    ·skip
     go_simp
     have hkn := (Kp.refl [] wd).alloc (.cells #[.slice none 0 0] 29)
     have hr8 := heap_alloc_last wd (.cells #[.slice none 0 0] 29)
     obtain ⟨R8, hR8⟩ : ∃ R, wd.heap.size = R := ⟨_, rfl⟩
     generalize wd.alloc (.cells #[.slice none 0 0] 29) = w8 at *
     rw [hR8] at hr8 ⊢
     have HRr := Lib.hid hr8
     have HRge := Lib.hid (show wp.heap.size ≤ R8 from by rw [← hR8]; exact hHeld.size)
     have hS := hHeld.trans hkn
     clear hkn hr8 hR8
     clear hHeld
     refine hK.out _ _ hS (fun hHeld => ?_)
     try simp only [Act.put, List.setIfInBounds_toArray, List.set_cons_zero, List.set_cons_succ]
     clear hK
     clear hS
     refine wpAnyH_ready (rs := [5]) (by kernel_rfl) (by simp) ?_
     refine AllReadyH.cons (o := { dst := some 66, op := Op.call { callee := Callee.value (Operand.func 41), args := #[Operand.tmp 61, Operand.tmp 65], argTypes := #[29, 34] }, type := 52, pos := "law.go:122", after := #[{ on := 0, ground := Ground.data }, { on := 4, ground := Ground.data }], guard := none }) rfl (fun K hK => ?_) AllReadyH.nil
     go_simp
     go_at_call 41
     refine Calls.mono (by with_reducible exact HI41.out _ hHeld) ?_
     rintro e V5 ⟨na, nn, nc, L2, rfl, HL2, HD2, HKv⟩
     dsimp only
     have hrv := (HKv.out.block R8 (block_lt HRr.out) (by simp)).trans HRr.out
     clear HRr
     have HRr := Lib.hid hrv
     have hS := hHeld.trans HKv.out
     clear hrv
     clear hHeld
     refine hK.out _ _ hS (fun hHeld => ?_)
     try simp only [Act.put, List.setIfInBounds_toArray, List.set_cons_zero, List.set_cons_succ]
     clear hK
     clear hS
     refine wpAnyH_take (i := 6) (oi := { dst := some 60, op := Op.move (Operand.tmp 66), type := 52, pos := "law.go:122", after := #[{ on := 5, ground := Ground.data }], guard := none }) (v := .tuple #[.agg #[.slice na nn nc], .int .i64 E]) rfl (by kernel_rfl) (by kernel_rfl) (by kernel_rfl) (fun _ _ _ h => h) (Or.inl ⟨by rfl, fun w hSw => by (try dsimp only at hSw); go_simp⟩) hHeld ?_
     try simp only [Act.put, List.setIfInBounds_toArray, List.set_cons_zero, List.set_cons_succ]
     refine wpAnyH_take (i := 7) (oi := { dst := some 67, op := Op.extract (Operand.tmp 60) 0, type := 29, pos := "law.go:122", after := #[{ on := 6, ground := Ground.data }], guard := none }) (v := .agg #[.slice na nn nc]) rfl (by kernel_rfl) (by kernel_rfl) (by kernel_rfl) (fun _ _ _ h => h) (Or.inl ⟨by rfl, fun w hSw => by (try dsimp only at hSw); go_simp⟩) hHeld ?_
     try simp only [Act.put, List.setIfInBounds_toArray, List.set_cons_zero, List.set_cons_succ]
     refine wpAnyH_take (i := 8) (oi := { dst := some 68, op := Op.extract (Operand.tmp 60) 1, type := 36, pos := "law.go:122", after := #[{ on := 6, ground := Ground.data }, { on := 10, ground := Ground.gcOnly Departure.lateStores }], guard := none }) (v := .int .i64 E) rfl (by kernel_rfl) (by kernel_rfl) (by kernel_rfl) (fun _ _ _ h => h) (Or.inl ⟨by rfl, fun w hSw => by (try dsimp only at hSw); go_simp⟩) hHeld ?_
     try simp only [Act.put, List.setIfInBounds_toArray, List.set_cons_zero, List.set_cons_succ]
     refine wpAnyH_ready (rs := [10]) (by kernel_rfl) (by simp) ?_
     refine AllReadyH.cons (o := { dst := none, op := Op.store 29 (Operand.tmp 12) (Operand.tmp 67), type := 0, pos := "law.go:122", after := #[{ on := 9, ground := Ground.data }, { on := 7, ground := Ground.data }, { on := 5, ground := Ground.chain }, { on := 0, ground := Ground.phase }, { on := 1, ground := Ground.phase }, { on := 2, ground := Ground.phase }, { on := 3, ground := Ground.phase }, { on := 4, ground := Ground.phase }, { on := 5, ground := Ground.phase }, { on := 6, ground := Ground.phase }, { on := 7, ground := Ground.phase }, { on := 8, ground := Ground.textOnly Departure.lateStores }, { on := 9, ground := Ground.phase }], guard := none }) rfl (fun K hK => ?_) AllReadyH.nil
     refine step_store rfl 29 (.tmp 12) (.tmp 67) rfl R8 #[.slice na nn nc] rfl rfl 29 #[.slice none 0 0] HRr.out info30b rfl (sl_one _ _ _) ?_
     have HRe := Lib.hid (setRow_heap _ _ _ #[.slice na nn nc] _ _ HRr.out)
     have hkR : Kp [R8] V5 (V5.setRow R8 #[.slice na nn nc]) := (Kp.refl [R8] _).setRow (.inl (by simp)) _
     generalize V5.setRow R8 #[.slice na nn nc] = we at *
     have HDe := Lib.hid (dhasR HD2.out hkR HRr.out)
     have hS := hHeld.up hkR (by intro z hz; simp at hz; subst hz; exact .inr HRge.out)
     clear hkR
     clear hHeld
     refine hK.out _ _ hS (fun hHeld => ?_)
     try simp only [Act.put]
     clear hK
     clear hS
     refine wpAnyH_take (i := 11) (oi := { dst := some 13, op := Op.assign (Operand.tmp 68), type := 36, pos := "law.go:122", after := #[{ on := 8, ground := Ground.data }, { on := 10, ground := Ground.chain }, { on := 0, ground := Ground.phase }, { on := 1, ground := Ground.phase }, { on := 2, ground := Ground.phase }, { on := 3, ground := Ground.phase }, { on := 4, ground := Ground.phase }, { on := 5, ground := Ground.phase }, { on := 6, ground := Ground.phase }, { on := 7, ground := Ground.phase }, { on := 8, ground := Ground.phase }, { on := 9, ground := Ground.phase }, { on := 10, ground := Ground.phase }], guard := none }) (v := .int .i64 E) rfl (by kernel_rfl) (by kernel_rfl) (by kernel_rfl) (fun _ _ _ h => h) (Or.inl ⟨by rfl, fun w hSw => by (try dsimp only at hSw); go_simp⟩) hHeld ?_
     try simp only [Act.put, List.setIfInBounds_toArray, List.set_cons_zero, List.set_cons_succ]
     have HSe := Lib.hid hHeld
     refine wpAnyH_done (by kernel_rfl) ?_ _
     clear hHeld
     go_wp2
     go_meet
     exact ⟨R8, na, nn, nc, L2, rfl, rfl, HRe, HL2, HDe, HSe⟩
   obtain ⟨R9, ma, mn, mc, Lb, rfl, rfl, HR9, HLb, HDb, HKb⟩ := hcut
   obtain ⟨wq, hwq⟩ : ∃ W, W = wc := ⟨_, rfl⟩
   subst hwq
   have HKq := Lib.hid (HKp.out.trans HKb.out)
   have HSa := Lib.hid (show Calls Tryz.prog 42 #[.agg #[.slice na nn nc], .agg #[.slice ma mn mc]] wq fun e w' => e = .returned (.bool true) ∧ Kp [] wq w' from same_ins HTrL.out (by omega) (d := De.devOf x.1 x.2) (la := x.1.ats) HLa.out HLb.out (HDa.out.below HKb.out.bel) HDb.out)
   have HSb := Lib.hid (fun W (hk : Kp [] wL W) => (show Calls Tryz.prog 42 #[.agg #[.slice va N vc], .agg #[.slice wa N wcap]] W fun e w' => e = .returned (.bool true) ∧ Kp [] W w' from (De.sameTree_any (.slice va N vc) (.slice wa N wcap) L L W (by have := HTok.out.n; omega) (fun x hx => by have := (HTrL.out.sml x hx).2; omega) (HTrL.out.kp hk).any.has (HLsL.out.below hk.bel)).mono fun e w' ⟨he, hb⟩ => ⟨by rw [he, De.sameL_iff.2 rfl], Kp.of_below hb⟩))
   have hR8q := (HKb.out.block R8 (block_lt HR8.out) (by simp)).trans HR8.out
   have t0 := cell_one hR8q
   have t1 := cell_one HR9.out
   have HQy := Lib.hid (fun (W : World) (hk : Kp [] wL W) => cell_one ((hk.block Q (block_lt HQL.out) (by simp)).trans HQL.out))
   have HYy := Lib.hid (fun (W : World) (hk : Kp [] wL W) => cell_one ((hk.block Y (block_lt HYL.out) (by simp)).trans HYL.out))
   clear hR8q HRn HQx HI41
   go_wp2_with (first
    | (go_at_call 42; refine Calls.mono (by with_reducible exact HSa.out) ?_; rintro e w6 ⟨rfl, hk6⟩; have HK6 := Lib.hid (HKq.out.trans hk6); have t2 := HQy.out _ HK6.out; have t3 := HYy.out _ HK6.out; clear hk6)
    | (go_at_call 42; refine Calls.mono (by with_reducible exact HSb.out _ HK6.out) ?_; rintro e w7 ⟨rfl, hk7⟩; have HK7 := Lib.hid (HK6.out.trans hk7); clear hk7))
   exact ⟨⟨i + 1, by omega, by go_num, HK7⟩, by simp [intOf]; omega⟩
  ·obtain rfl : i = 2 := by omega
   have HKn := Lib.hid (fun W (hk : Kp [] wL W) => De.known_any W (HML.out.below hk.bel))
   go_wp2_with (go_at_call 12; refine Calls.mono (by with_reducible exact HKn.out _ HKr.out) ?_; rintro e w7 ⟨rfl, hk7⟩; have HK7 := Lib.hid (HKr.out.trans hk7); clear hk7)
   go_ret
   exact ⟨rfl, HFin.out _ HK7.out⟩
end Go.Proofs.YtldcediiobfhiaaGreatDoor
