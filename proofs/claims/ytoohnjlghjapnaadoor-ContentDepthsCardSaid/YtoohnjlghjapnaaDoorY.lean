/- The reference: are two contents equal? -/
import Derived.Test.YtoohnjlghjapnaaDoorP
namespace Go.Proofs.YtoohnjlghjapnaaDoor
open Go.RowKit

theorem con_ext {c d : Con} (h0 : c.kind = d.kind) (h1 : c.id = d.id) (h2 : c.lab = d.lab) (h3 : c.slot = d.slot) (h4 : c.tot = d.tot) (h5 : c.lst = d.lst) (h6 : c.inner = d.inner) : c = d := by
  cases c; cases d
  simp only [Con.kind, Con.id, Con.lab, Con.slot, Con.tot, Con.lst, Con.inner] at *
  subst h0 h1 h2 h3 h4 h5 h6
  rfl
theorem same_ne {c d : Con} (h : c ≠ d) : sameC c d = false := by
  cases e : sameC c d
  · rfl
  · exact absurd ((sameC_iff c d).1 e) h
theorem same_self (c : Con) : sameC c c = true := (sameC_iff c c).2 rfl
theorem inner_size {c x : Con} (h : x ∈ c.inner) : SizeOf.sizeOf x < SizeOf.sizeOf c := by
  cases c
  simp only [Con.inner] at h
  have := List.sizeOf_lt_of_mem h
  simp only [Con.mk.sizeOf_spec]
  omega
theorem bs_inj {a b : List UInt8} (h : bs a = bs b) : a = b := by
  have := congrArg (fun x : ByteArray => x.data.toList) h
  simpa [bs] using this
theorem take_eq {l m : List Con} {i : Nat} {x y : Con} (hx : l[i]? = some x) (hy : m[i]? = some y) (h : l.take i = m.take i) (e : x = y) : l.take (i + 1) = m.take (i + 1) := by
  rw [List.take_add_one, List.take_add_one, h, hx, hy, e]

theorem kp_cell {w W : World} (hk : Kp [] w W) {b o : Nat} {v : Value} (h : w.cell? ⟨b, o, none⟩ = some v) : W.cell? ⟨b, o, none⟩ = some v := by
  have hb := World.block_lt_of_cell? _ _ h
  simp only [World.cell?] at h ⊢
  rw [hk.block b hb (by simp)]
  exact h
theorem lastR {w : World} {p0 p1 p2 p3 p4 p5 p6 p7 p8 p9 q0 q1 q2 q3 q4 q5 : Prop} {W : World} (h : p0 ∧ p1 ∧ p2 ∧ p3 ∧ p4 ∧ p5 ∧ p6 ∧ p7 ∧ p8 ∧ p9 ∧ q0 ∧ q1 ∧ q2 ∧ q3 ∧ q4 ∧ q5 ∧ Kp [] w W) : Kp [] w W := h.2.2.2.2.2.2.2.2.2.2.2.2.2.2.2.2

set_option maxHeartbeats 8000000 in
set_option maxRecDepth 100000 in
theorem refSame_any {Q Q' : Nat → Prop} : ∀ (c d : Con) (a a' : Option Addr) (n n' : Nat) (W : World), CHas Q W (.slice a c.inner.length n) c.inner → CHas Q' W (.slice a' d.inner.length n') d.inner →
    Calls Tryd.prog 16 #[.agg #[.int .i64 c.kind, .string (bs c.id), .string (bs c.lab), .int .i64 c.slot, .int .i64 c.tot, .int .i64 c.lst, .slice a c.inner.length n], .agg #[.int .i64 d.kind, .string (bs d.id), .string (bs d.lab), .int .i64 d.slot, .int .i64 d.tot, .int .i64 d.lst, .slice a' d.inner.length n']] W fun r w' => r = .returned (.bool (sameC c d)) ∧ Kp [] W w' := by
  intro c
  obtain ⟨m, hm⟩ : ∃ m, SizeOf.sizeOf c = m := ⟨_, rfl⟩
  induction m using Nat.strongRecOn generalizing c with
  | _ m ih =>
  intro d a a' n n' W hh hh'
  have HE : Hid (c ≠ d → sameC c d = false) := Lib.hid same_ne
  have HSZ := Lib.hid (fun x (h : x ∈ c.inner) => inner_size h)
  have IH := Lib.hid ih
  have HM := Lib.hid hm
  clear ih hm
  obtain ⟨k1, i1, l1, s1, t1, e1, in1⟩ := c
  obtain ⟨k2, i2, l2, s2, t2, e2, in2⟩ := d
  simp only [Con.kind, Con.id, Con.lab, Con.slot, Con.tot, Con.lst, Con.inner] at hh hh' ⊢
  obtain ⟨N2, hN2⟩ : ∃ N, in2.length = N := ⟨_, rfl⟩
  rw [hN2] at hh' ⊢
  obtain ⟨w1, hw1⟩ : ∃ w1, W.alloc (.cells #[.int .i64 k1, .string (bs i1), .string (bs l1), .int .i64 s1, .int .i64 t1, .int .i64 e1, .slice a in1.length n] 24) = w1 := ⟨_, rfl⟩
  have hb1 : BoxV W.heap.size (.int .i64 k1) (.string (bs i1)) (.string (bs l1)) (.int .i64 s1) (.int .i64 t1) (.int .i64 e1) (.slice a in1.length n) w1 := by rw [← hw1]; exact al_new _ _
  have hk1 : Kp [] W w1 := by rw [← hw1]; exact (Kp.refl [] W).alloc _
  have hs1 : w1.heap.size = W.heap.size + 1 := by rw [← hw1]; exact al_size _ _
  obtain ⟨w2, hw2⟩ : ∃ w2, w1.alloc (.cells #[.int .i64 k2, .string (bs i2), .string (bs l2), .int .i64 s2, .int .i64 t2, .int .i64 e2, .slice a' N2 n'] 24) = w2 := ⟨_, rfl⟩
  have hb2 : BoxV w1.heap.size (.int .i64 k2) (.string (bs i2)) (.string (bs l2)) (.int .i64 s2) (.int .i64 t2) (.int .i64 e2) (.slice a' N2 n') w2 := by rw [← hw2]; exact al_new _ _
  have hk2 : Kp [] w1 w2 := by rw [← hw2]; exact (Kp.refl [] w1).alloc _
  obtain ⟨A, hA⟩ : ∃ A, W.heap.size = A := ⟨_, rfl⟩
  obtain ⟨A', hA'⟩ : ∃ A', w1.heap.size = A' := ⟨_, rfl⟩
  rw [hA] at hb1
  rw [hA'] at hb2
  have B1 := Lib.hid (hb1.kp hk2 (by simp))
  have B2 := Lib.hid hb2
  have K2 := Lib.hid (hk1.trans hk2)
  have HH := Lib.hid hh
  have HH' := Lib.hid hh'
  have hml : in1.length ≤ 9223372036854775807 := by
    rcases hh with ⟨hl, _⟩ | ⟨_, _, _, _, h2, h3, _⟩
    · rw [hl]; simp
    · unfold maxLen at h3; omega
  obtain ⟨c0, c1, c2, c3, c4, c5, c6⟩ := B1.out.cells
  obtain ⟨d0, d1, d2, d3, d4, d5, d6⟩ := B2.out.cells
  clear hb1 hb2 hk1 hk2 hh hh' hs1
  by_cases z0 : ¬ (k1 = k2)
  · have HF := Lib.hid (HE.out fun e => z0 (by injection e))
    go_enter Tryd.func16, Tryd.ntmps16
    go_wp2
    go_ret
    rw [HF.out]
    exact ⟨rfl, K2.out⟩
  replace z0 := Classical.not_not.1 z0
  subst z0
  by_cases z1 : ¬ ((bs i1).toList = (bs i2).toList)
  · have HF := Lib.hid (HE.out fun e => z1 (by injection e with q0 q1 q2 q3 q4 q5 q6; rw [q1]))
    go_enter Tryd.func16, Tryd.ntmps16
    go_wp2
    go_ret
    rw [HF.out]
    exact ⟨rfl, K2.out⟩
  obtain rfl : i1 = i2 := by
    have z := Classical.not_not.1 z1
    rw [bs_toList, bs_toList] at z
    exact z
  clear z1
  by_cases z2 : ¬ ((bs l1).toList = (bs l2).toList)
  · have HF := Lib.hid (HE.out fun e => z2 (by injection e with q0 q1 q2 q3 q4 q5 q6; rw [q2]))
    go_enter Tryd.func16, Tryd.ntmps16
    go_wp2
    go_ret
    rw [HF.out]
    exact ⟨rfl, K2.out⟩
  obtain rfl : l1 = l2 := by
    have z := Classical.not_not.1 z2
    rw [bs_toList, bs_toList] at z
    exact z
  clear z2
  by_cases z3 : ¬ (s1 = s2)
  · have HF := Lib.hid (HE.out fun e => z3 (by injection e))
    go_enter Tryd.func16, Tryd.ntmps16
    go_wp2
    go_ret
    rw [HF.out]
    exact ⟨rfl, K2.out⟩
  replace z3 := Classical.not_not.1 z3
  subst z3
  by_cases z4 : ¬ (t1 = t2)
  · have HF := Lib.hid (HE.out fun e => z4 (by injection e))
    go_enter Tryd.func16, Tryd.ntmps16
    go_wp2
    go_ret
    rw [HF.out]
    exact ⟨rfl, K2.out⟩
  replace z4 := Classical.not_not.1 z4
  subst z4
  by_cases z5 : ¬ (e1 = e2)
  · have HF := Lib.hid (HE.out fun e => z5 (by injection e))
    go_enter Tryd.func16, Tryd.ntmps16
    go_wp2
    go_ret
    rw [HF.out]
    exact ⟨rfl, K2.out⟩
  replace z5 := Classical.not_not.1 z5
  subst z5
  by_cases z6 : ((in1.length : Int) != (N2 : Int)) = true
  · have HF := Lib.hid (HE.out fun e => by injection e with q0 q1 q2 q3 q4 q5 q6; rw [← hN2, q6] at z6; simp at z6)
    go_enter Tryd.func16, Tryd.ntmps16
    go_wp2
    go_ret
    rw [HF.out]
    exact ⟨rfl, K2.out⟩
  have z7 : N2 = in1.length := by simp at z6; omega
  subst z7
  clear z6
  have Z7 := Lib.hid hN2
  clear hN2
  go_enter Tryd.func16, Tryd.ntmps16
  go_wp2
  clear c0 c1 c2 c3 c4 c5 c6 d0 d1 d2 d3 d4 d5 d6 hw1 hw2
  go_loopw [5] (fun s5 wx => ∃ i : Nat, i ≤ in1.length ∧ s5 = .int .i64 (i : Int) ∧ Kp [] w2 wx ∧ in1.take i = in2.take i) (fun s5 _ => in1.length - (intOf s5).toNat)
  case atStart => exact ⟨0, Nat.zero_le _, rfl, Kp.refl _ _, rfl⟩
  case round =>
    rename_i wr
    obtain ⟨i, hi, rfl, hkp, htk⟩ := hrel
    obtain ⟨c0, c1, c2, c3, c4, c5, c6⟩ := (B1.out.kp hkp (by simp)).cells
    obtain ⟨d0, d1, d2, d3, d4, d5, d6⟩ := (B2.out.kp hkp (by simp)).cells
    have KP := Lib.hid hkp
    have TK := Lib.hid htk
    clear hkp htk
    by_cases hlt : i < in1.length
    · have hiz : (i : Int) < (in1.length : Int) := by omega
      obtain ⟨x, hx⟩ : ∃ x, in1[i]? = some x := ⟨_, List.getElem?_eq_getElem hlt⟩
      obtain ⟨y, hy⟩ : ∃ y, in2[i]? = some y := ⟨_, List.getElem?_eq_getElem (by have := Z7.out; omega)⟩
      have hne : in1 ≠ [] := fun e => by rw [e] at hlt; simp at hlt
      have hne' : in2 ≠ [] := fun e => by rw [e] at hy; simp at hy
      obtain ⟨a2, n2, he, hrow⟩ := HH.out.form
      cases he
      obtain ⟨b, o, rfl, -, -, hq, hb, hr⟩ := hrow hne
      have hf' := HH'.out
      rw [← Z7.out] at hf'
      obtain ⟨a3, n3, he, hrow'⟩ := hf'.form
      cases he
      obtain ⟨b', o', rfl, -, -, hq', hb', hr'⟩ := hrow' hne'
      have hkk := K2.out.trans KP.out
      have hroww := CRow.keep hkk.size (fun k hk (hq : Q k) => ⟨hq, hkk.block k hk (by simp)⟩) _ b o hq hb hr
      have hroww' := CRow.keep hkk.size (fun k hk (hq : Q' k) => ⟨hq, hkk.block k hk (by simp)⟩) _ b' o' hq' hb' hr'
      obtain ⟨v, hvx, -, g0, g1, g2, g3, g4, g5, g6⟩ := hroww.cells hx
      obtain ⟨u, huy, -, f0, f1, f2, f3, f4, f5, f6⟩ := hroww'.cells hy
      obtain ⟨xa, xn, rfl, -⟩ := hvx.form
      obtain ⟨ya, yn, rfl, -⟩ := huy.form
      have hst : ∀ W, Kp [] wr W → W.cell? ⟨A, 6, none⟩ = some (.slice (some ⟨b, o, none⟩) in1.length n) ∧ W.cell? ⟨A', 6, none⟩ = some (.slice (some ⟨b', o', none⟩) in1.length n') ∧ W.cell? ⟨b, o + i * 7, none⟩ = some (.int .i64 x.kind) ∧ W.cell? ⟨b, o + i * 7 + 1, none⟩ = some (.string (bs x.id)) ∧ W.cell? ⟨b, o + i * 7 + 2, none⟩ = some (.string (bs x.lab)) ∧ W.cell? ⟨b, o + i * 7 + 3, none⟩ = some (.int .i64 x.slot) ∧ W.cell? ⟨b, o + i * 7 + 4, none⟩ = some (.int .i64 x.tot) ∧ W.cell? ⟨b, o + i * 7 + 5, none⟩ = some (.int .i64 x.lst) ∧ W.cell? ⟨b, o + i * 7 + 6, none⟩ = some (.slice xa x.inner.length xn) ∧ W.cell? ⟨b', o' + i * 7, none⟩ = some (.int .i64 y.kind) ∧ W.cell? ⟨b', o' + i * 7 + 1, none⟩ = some (.string (bs y.id)) ∧ W.cell? ⟨b', o' + i * 7 + 2, none⟩ = some (.string (bs y.lab)) ∧ W.cell? ⟨b', o' + i * 7 + 3, none⟩ = some (.int .i64 y.slot) ∧ W.cell? ⟨b', o' + i * 7 + 4, none⟩ = some (.int .i64 y.tot) ∧ W.cell? ⟨b', o' + i * 7 + 5, none⟩ = some (.int .i64 y.lst) ∧ W.cell? ⟨b', o' + i * 7 + 6, none⟩ = some (.slice ya y.inner.length yn) ∧ Kp [] wr W := fun W hW => ⟨kp_cell hW c6, kp_cell hW d6, kp_cell hW g0, kp_cell hW g1, kp_cell hW g2, kp_cell hW g3, kp_cell hW g4, kp_cell hW g5, kp_cell hW g6, kp_cell hW f0, kp_cell hW f1, kp_cell hW f2, kp_cell hW f3, kp_cell hW f4, kp_cell hW f5, kp_cell hW f6, hW⟩
      have HC := Lib.hid (fun W (hS : W.cell? ⟨A, 6, none⟩ = some (.slice (some ⟨b, o, none⟩) in1.length n) ∧ W.cell? ⟨A', 6, none⟩ = some (.slice (some ⟨b', o', none⟩) in1.length n') ∧ W.cell? ⟨b, o + i * 7, none⟩ = some (.int .i64 x.kind) ∧ W.cell? ⟨b, o + i * 7 + 1, none⟩ = some (.string (bs x.id)) ∧ W.cell? ⟨b, o + i * 7 + 2, none⟩ = some (.string (bs x.lab)) ∧ W.cell? ⟨b, o + i * 7 + 3, none⟩ = some (.int .i64 x.slot) ∧ W.cell? ⟨b, o + i * 7 + 4, none⟩ = some (.int .i64 x.tot) ∧ W.cell? ⟨b, o + i * 7 + 5, none⟩ = some (.int .i64 x.lst) ∧ W.cell? ⟨b, o + i * 7 + 6, none⟩ = some (.slice xa x.inner.length xn) ∧ W.cell? ⟨b', o' + i * 7, none⟩ = some (.int .i64 y.kind) ∧ W.cell? ⟨b', o' + i * 7 + 1, none⟩ = some (.string (bs y.id)) ∧ W.cell? ⟨b', o' + i * 7 + 2, none⟩ = some (.string (bs y.lab)) ∧ W.cell? ⟨b', o' + i * 7 + 3, none⟩ = some (.int .i64 y.slot) ∧ W.cell? ⟨b', o' + i * 7 + 4, none⟩ = some (.int .i64 y.tot) ∧ W.cell? ⟨b', o' + i * 7 + 5, none⟩ = some (.int .i64 y.lst) ∧ W.cell? ⟨b', o' + i * 7 + 6, none⟩ = some (.slice ya y.inner.length yn) ∧ Kp [] wr W) => (IH.out (SizeOf.sizeOf x) (by rw [← HM.out]; exact HSZ.out x (List.mem_of_getElem? hx)) x rfl y xa ya xn yn W (kp_has hvx (hS.2.2.2.2.2.2.2.2.2.2.2.2.2.2.2.2)) (kp_has huy (hS.2.2.2.2.2.2.2.2.2.2.2.2.2.2.2.2))).mono fun r w' h => (⟨h.1, hst w' ((hS.2.2.2.2.2.2.2.2.2.2.2.2.2.2.2.2).trans h.2)⟩ : r = _ ∧ w'.cell? ⟨A, 6, none⟩ = some (.slice (some ⟨b, o, none⟩) in1.length n) ∧ w'.cell? ⟨A', 6, none⟩ = some (.slice (some ⟨b', o', none⟩) in1.length n') ∧ w'.cell? ⟨b, o + i * 7, none⟩ = some (.int .i64 x.kind) ∧ w'.cell? ⟨b, o + i * 7 + 1, none⟩ = some (.string (bs x.id)) ∧ w'.cell? ⟨b, o + i * 7 + 2, none⟩ = some (.string (bs x.lab)) ∧ w'.cell? ⟨b, o + i * 7 + 3, none⟩ = some (.int .i64 x.slot) ∧ w'.cell? ⟨b, o + i * 7 + 4, none⟩ = some (.int .i64 x.tot) ∧ w'.cell? ⟨b, o + i * 7 + 5, none⟩ = some (.int .i64 x.lst) ∧ w'.cell? ⟨b, o + i * 7 + 6, none⟩ = some (.slice xa x.inner.length xn) ∧ w'.cell? ⟨b', o' + i * 7, none⟩ = some (.int .i64 y.kind) ∧ w'.cell? ⟨b', o' + i * 7 + 1, none⟩ = some (.string (bs y.id)) ∧ w'.cell? ⟨b', o' + i * 7 + 2, none⟩ = some (.string (bs y.lab)) ∧ w'.cell? ⟨b', o' + i * 7 + 3, none⟩ = some (.int .i64 y.slot) ∧ w'.cell? ⟨b', o' + i * 7 + 4, none⟩ = some (.int .i64 y.tot) ∧ w'.cell? ⟨b', o' + i * 7 + 5, none⟩ = some (.int .i64 y.lst) ∧ w'.cell? ⟨b', o' + i * 7 + 6, none⟩ = some (.slice ya y.inner.length yn) ∧ Kp [] wr w'))
      have HST := Lib.hid (hst wr.drew ((Kp.refl [] wr).drew 1))
      have HX := Lib.hid hx
      have HY := Lib.hid hy
      have hwi : IntKind.i64.wrap ((i : Int) + 1) = ((i + 1 : Nat) : Int) := by rw [IntKind.wrap_i64]; omega
      have HNX := Lib.hid (fun (h : sameC x y = false) => show sameC (.mk k1 i1 l1 s1 t1 e1 in1) (.mk k1 i1 l1 s1 t1 e1 in2) = false from HE.out fun e => by
        injection e with q0 q1 q2 q3 q4 q5 q6
        rw [q6, hy] at hx
        injection hx with hx
        rw [hx, same_self] at h
        cases h)
      clear hx hy hroww hroww' hvx huy hrow hrow' hr hr' hq hq' hkk hst hne hne' hf' g0 g1 g2 g3 g4 g5 g6 f0 f1 f2 f3 f4 f5 f6 c0 c1 c2 c3 c4 c5 d0 d1 d2 d3 d4 d5
      cases hxy : sameC x y with
      | false =>
        rw [hxy] at HC
        have HF := Lib.hid (HNX.out hxy)
        clear hxy
        go_wp2
        go_region_held3 (fun W => W.cell? ⟨A, 6, none⟩ = some (.slice (some ⟨b, o, none⟩) in1.length n) ∧ W.cell? ⟨A', 6, none⟩ = some (.slice (some ⟨b', o', none⟩) in1.length n') ∧ W.cell? ⟨b, o + i * 7, none⟩ = some (.int .i64 x.kind) ∧ W.cell? ⟨b, o + i * 7 + 1, none⟩ = some (.string (bs x.id)) ∧ W.cell? ⟨b, o + i * 7 + 2, none⟩ = some (.string (bs x.lab)) ∧ W.cell? ⟨b, o + i * 7 + 3, none⟩ = some (.int .i64 x.slot) ∧ W.cell? ⟨b, o + i * 7 + 4, none⟩ = some (.int .i64 x.tot) ∧ W.cell? ⟨b, o + i * 7 + 5, none⟩ = some (.int .i64 x.lst) ∧ W.cell? ⟨b, o + i * 7 + 6, none⟩ = some (.slice xa x.inner.length xn) ∧ W.cell? ⟨b', o' + i * 7, none⟩ = some (.int .i64 y.kind) ∧ W.cell? ⟨b', o' + i * 7 + 1, none⟩ = some (.string (bs y.id)) ∧ W.cell? ⟨b', o' + i * 7 + 2, none⟩ = some (.string (bs y.lab)) ∧ W.cell? ⟨b', o' + i * 7 + 3, none⟩ = some (.int .i64 y.slot) ∧ W.cell? ⟨b', o' + i * 7 + 4, none⟩ = some (.int .i64 y.tot) ∧ W.cell? ⟨b', o' + i * 7 + 5, none⟩ = some (.int .i64 y.lst) ∧ W.cell? ⟨b', o' + i * 7 + 6, none⟩ = some (.slice ya y.inner.length yn) ∧ Kp [] wr W) (first | exact HST.out | assumption) (first | (go_at_call 16; refine Calls.mono (by with_reducible exact HC.out _ (by assumption)) ?_; rintro e W ⟨rfl, hb⟩))
        all_goals
          go_wp2
          go_ret
          rw [HF.out]
          exact ⟨rfl, (K2.out.trans KP.out).trans (lastR (by assumption))⟩
      | true =>
        rw [hxy] at HC
        have HXY := Lib.hid ((sameC_iff x y).1 hxy)
        clear hxy
        go_wp2
        go_region_held3 (fun W => W.cell? ⟨A, 6, none⟩ = some (.slice (some ⟨b, o, none⟩) in1.length n) ∧ W.cell? ⟨A', 6, none⟩ = some (.slice (some ⟨b', o', none⟩) in1.length n') ∧ W.cell? ⟨b, o + i * 7, none⟩ = some (.int .i64 x.kind) ∧ W.cell? ⟨b, o + i * 7 + 1, none⟩ = some (.string (bs x.id)) ∧ W.cell? ⟨b, o + i * 7 + 2, none⟩ = some (.string (bs x.lab)) ∧ W.cell? ⟨b, o + i * 7 + 3, none⟩ = some (.int .i64 x.slot) ∧ W.cell? ⟨b, o + i * 7 + 4, none⟩ = some (.int .i64 x.tot) ∧ W.cell? ⟨b, o + i * 7 + 5, none⟩ = some (.int .i64 x.lst) ∧ W.cell? ⟨b, o + i * 7 + 6, none⟩ = some (.slice xa x.inner.length xn) ∧ W.cell? ⟨b', o' + i * 7, none⟩ = some (.int .i64 y.kind) ∧ W.cell? ⟨b', o' + i * 7 + 1, none⟩ = some (.string (bs y.id)) ∧ W.cell? ⟨b', o' + i * 7 + 2, none⟩ = some (.string (bs y.lab)) ∧ W.cell? ⟨b', o' + i * 7 + 3, none⟩ = some (.int .i64 y.slot) ∧ W.cell? ⟨b', o' + i * 7 + 4, none⟩ = some (.int .i64 y.tot) ∧ W.cell? ⟨b', o' + i * 7 + 5, none⟩ = some (.int .i64 y.lst) ∧ W.cell? ⟨b', o' + i * 7 + 6, none⟩ = some (.slice ya y.inner.length yn) ∧ Kp [] wr W) (first | exact HST.out | assumption) (first | (go_at_call 16; refine Calls.mono (by with_reducible exact HC.out _ (by assumption)) ?_; rintro e W ⟨rfl, hb⟩))
        all_goals
          go_wp2
          exact ⟨⟨i + 1, by omega, rfl, KP.out.trans (lastR (by assumption)), take_eq HX.out HY.out TK.out HXY.out⟩, by simp [intOf]; omega⟩
    · have hie : i = in1.length := by omega
      subst hie
      have hiz : ¬ ((in1.length : Int) < (in1.length : Int)) := by omega
      have HF := Lib.hid (show in1 = in2 by
        have h := TK.out
        rwa [List.take_length, List.take_of_length_le (by rw [Z7.out]; exact Nat.le_refl _)] at h)
      go_wp2
      go_ret
      rw [← HF.out, same_self]
      exact ⟨rfl, K2.out.trans KP.out⟩
end Go.Proofs.YtoohnjlghjapnaaDoor
