/- The parser's methods for IDs, slots and files. -/
import Derived.Test.YtoohnjlghjapnaaDoorF
namespace Go.Proofs.YtoohnjlghjapnaaDoor
open Go.RowKit

theorem ret_int {a b : Int} (h : a = b) : Ending.returned (.int .i64 a) = .returned (.int .i64 b) := by rw [h]
set_option maxHeartbeats 1000000 in
set_option maxRecDepth 100000 in
theorem id_any {pb : Nat} {x : St} {w : World} (h : Par pb x w) (hx : x.1.length ≤ 1000000) : Calls Tryd.prog 44 #[.pointer (some ⟨pb, 0, none⟩)] w fun r w' => r = .returned (.string (bs (idP x).1)) ∧ Par pb (idP x).2 w' ∧ Kp [pb] w w' ∧ w'.heap.size = w.heap.size := by
  have HT := Lib.hid (take_any 58 h)
  have HL := Lib.hid (Nat.le_trans (take_len 58 x) hx)
  have hi : idP x = (wrd (takeP 58 x).1, rst (takeP 58 x).1, (takeP 58 x).2) := rfl
  rw [hi]
  clear hi h hx
  generalize takeP 58 x = y at *
  go_enter Tryd.func44, Tryd.ntmps44
  go_wp2_with fail
  refine HT.out.mono ?_
  rintro r w1 ⟨rfl, hp1, hk1, hs1⟩
  have HW := Lib.hid (word_any hp1 HL.out)
  have K1 := Lib.hid hk1
  have S1 := Lib.hid hs1
  clear hp1 hk1 hs1
  go_wp2_with fail
  refine HW.out.mono ?_
  rintro r w2 ⟨rfl, hp2, hk2, hs2⟩
  have P2 := Lib.hid hp2
  have K2 := Lib.hid (K1.out.trans hk2)
  have S2 := Lib.hid (hs2.trans S1.out)
  clear hp2 hk2 hs2
  go_wp2
  go_ret
  exact ⟨rfl, P2.out, K2.out, S2.out⟩

set_option maxHeartbeats 2000000 in
set_option maxRecDepth 100000 in
theorem slot_any {pb : Nat} {x : St} {w : World} (h : Par pb x w) (hE : Env w) (hpb : 6 ≤ pb) (hx : x.1.length ≤ 1000000) : Calls Tryd.prog 61 #[.pointer (some ⟨pb, 0, none⟩)] w fun r w' => r = .returned (.tuple #[.int .i64 (slotP x).1, .int .i64 (slotP x).2.1]) ∧ Par pb (slotP x).2.2 w' ∧ Kp [pb] w w' := by
  have HT := Lib.hid (take_any 58 h)
  have hl1 := Nat.le_trans (take_len 58 x) hx
  have hl2 := Nat.le_trans (num_len (takeP 58 x)) hl1
  have hl3 := Nat.le_trans (take_len 47 (numP (takeP 58 x)).2) hl2
  have HL1 := Lib.hid hl1
  have HL3 := Lib.hid hl3
  have HE := Lib.hid hE
  have hi : slotP x = ((numP (takeP 58 x)).1, (numP (takeP 47 (numP (takeP 58 x)).2)).1, (numP (takeP 47 (numP (takeP 58 x)).2)).2) := rfl
  rw [hi]
  clear hi h hx hl1 hl2 hl3 hE
  generalize takeP 58 x = y at *
  obtain ⟨n1, z1, hnz⟩ : ∃ n1 z1, numP y = (n1, z1) := ⟨_, _, rfl⟩
  have HN := Lib.hid hnz
  rw [hnz] at HL3 ⊢
  clear hnz
  simp only at HL3 ⊢
  generalize hz2 : takeP 47 z1 = z2 at *
  have HZ2 := Lib.hid hz2
  clear hz2
  generalize hn2 : numP z2 = m2 at *
  have HN2 := Lib.hid hn2
  clear hn2
  go_enter Tryd.func61, Tryd.ntmps61
  go_wp2_with fail
  refine HT.out.mono ?_
  rintro r w1 ⟨rfl, hp1, hk1, hs1⟩
  have E1 := Lib.hid (HE.out.kp hk1 (by simp; exact hpb))
  have HW := Lib.hid (number_any hp1 E1.out hpb HL1.out)
  have K1 := Lib.hid hk1
  clear hp1 hk1 hs1
  rw [HN.out] at HW
  go_wp2_with fail
  refine HW.out.mono ?_
  rintro r w2 ⟨rfl, hp2, hk2⟩
  have HT2 := Lib.hid (take_any 47 hp2)
  rw [HZ2.out] at HT2
  have K2 := Lib.hid (K1.out.trans hk2)
  have E2 := Lib.hid (E1.out.kp hk2 (by simp; exact hpb))
  clear hp2 hk2
  go_wp2_with fail
  refine HT2.out.mono ?_
  rintro r w3 ⟨rfl, hp3, hk3, hs3⟩
  have K3 := Lib.hid (K2.out.trans hk3)
  have E3 := Lib.hid (E2.out.kp hk3 (by simp; exact hpb))
  have HW3 := Lib.hid (number_any hp3 E3.out hpb HL3.out)
  rw [HN2.out] at HW3
  clear hp3 hk3 hs3
  go_wp2_with fail
  refine HW3.out.mono ?_
  rintro r w4 ⟨rfl, hp4, hk4⟩
  have P4 := Lib.hid hp4
  have K4 := Lib.hid (K3.out.trans hk4)
  clear hp4 hk4
  go_wp2
  go_ret2
  exact ⟨rfl, P4.out, K4.out⟩

/-- What a method that reads a content leaves. -/
def ContPost (pb : Nat) (r : Con × St) (w : World) (e : Ending) (w' : World) : Prop :=
  ∃ v, e = .returned (.agg #[.int .i64 r.1.kind, .string (bs r.1.id), .string (bs r.1.lab), .int .i64 r.1.slot, .int .i64 r.1.tot, .int .i64 r.1.lst, v]) ∧ CHas (fun b => w.heap.size ≤ b) w' v r.1.inner ∧ Tx r.1 ∧ Par pb r.2 w' ∧ Kp [pb] w w'

/-- The box of a content that is being made. -/
def BoxV (b : Nat) (v0 v1 v2 v3 v4 v5 v6 : Value) (w : World) : Prop := w.heap[b]? = some (.cells #[v0, v1, v2, v3, v4, v5, v6] 24 (0, 0))
theorem BoxV.kp {b : Nat} {v0 v1 v2 v3 v4 v5 v6 : Value} {w w' : World} {S : List Nat} (h : BoxV b v0 v1 v2 v3 v4 v5 v6 w) (hk : Kp S w w') (hS : b ∉ S) : BoxV b v0 v1 v2 v3 v4 v5 v6 w' := (hk.block b (block_lt h) hS).trans h
theorem BoxV.cells {b : Nat} {v0 v1 v2 v3 v4 v5 v6 : Value} {w : World} (h : BoxV b v0 v1 v2 v3 v4 v5 v6 w) :
    w.cell? ⟨b, 0, none⟩ = some v0 ∧ w.cell? ⟨b, 1, none⟩ = some v1 ∧ w.cell? ⟨b, 2, none⟩ = some v2 ∧ w.cell? ⟨b, 3, none⟩ = some v3 ∧ w.cell? ⟨b, 4, none⟩ = some v4 ∧ w.cell? ⟨b, 5, none⟩ = some v5 ∧ w.cell? ⟨b, 6, none⟩ = some v6 := cells7 h
theorem BoxV.frozen {b : Nat} {v0 v1 v2 v3 v4 v5 v6 : Value} {w : World} (h : BoxV b v0 v1 v2 v3 v4 v5 v6 w) (k : Nat) : w.frozen? ⟨b, k, none⟩ = false := by simp [World.frozen?, show w.heap[b]? = _ from h]
def put7 (w : World) (A : Nat) (u0 u1 u2 u3 u4 u5 u6 : Value) : World :=
  (((((((w.setCell ⟨A, 0, none⟩ u0).setCell ⟨A, 1, none⟩ u1).setCell ⟨A, 2, none⟩ u2).setCell ⟨A, 3, none⟩ u3).setCell ⟨A, 4, none⟩ u4).setCell ⟨A, 5, none⟩ u5).setCell ⟨A, 6, none⟩ u6)
theorem put7_box {A : Nat} {v0 v1 v2 v3 v4 v5 v6 : Value} {w : World} (h : BoxV A v0 v1 v2 v3 v4 v5 v6 w) (u0 u1 u2 u3 u4 u5 u6 : Value) : BoxV A u0 u1 u2 u3 u4 u5 u6 (put7 w A u0 u1 u2 u3 u4 u5 u6) := by
  unfold BoxV at h ⊢
  simp [put7, World.setCell, Array.getElem?_modify, h]
theorem put7_kp {A : Nat} {w0 w : World} {S : List Nat} (h : Kp S w0 w) (hA : A ∈ S ∨ w0.heap.size ≤ A) (u0 u1 u2 u3 u4 u5 u6 : Value) : Kp S w0 (put7 w A u0 u1 u2 u3 u4 u5 u6) :=
  (((((((h.setCell hA _).setCell hA _).setCell hA _).setCell hA _).setCell hA _).setCell hA _).setCell hA _)
theorem BoxV.set {A : Nat} {v0 v1 v2 v3 v4 v5 v6 : Value} {w : World} (h : BoxV A v0 v1 v2 v3 v4 v5 v6 w) (k : Nat) (u : Value) :
    (w.setCell ⟨A, k, none⟩ u).heap[A]? = some (.cells ((#[v0, v1, v2, v3, v4, v5, v6]).setIfInBounds k u) 24 (0, 0)) := by
  unfold BoxV at h
  simp [World.setCell, Array.getElem?_modify, h]
theorem res24 {fn : Func} (h : fn.results = #[.cell 2 24]) {tmps : Array Value} {A : Nat} {u0 u1 u2 u3 u4 u5 u6 : Value} {w : World} (h2 : tmps.getD 2 undef = .pointer (some ⟨A, 0, none⟩)) (hb : BoxV A u0 u1 u2 u3 u4 u5 u6 w) :
    (results fn tmps).run Tryd.prog w = .ok (.agg #[u0, u1, u2, u3, u4, u5, u6]) w := by
  obtain ⟨c0, c1, c2, c3, c4, c5, c6⟩ := hb.cells
  rw [Array.getD_eq_getD_getElem?] at h2
  simp only [results, h]
  simp [go_sem, h2, c0, c1, c2, c3, c4, c5, c6]
theorem Kp.apart {S : List Nat} {a b : World} (h : Kp S a b) {T : List Nat} {c : World} (g : Kp T b c) (hT : ∀ x ∈ T, x ∈ S ∨ a.heap.size ≤ x) : Kp S a c := h.up g hT
def Zero7 (b : Nat) (w : World) : Prop := BoxV b (.int .i64 0) (.string ⟨#[]⟩) (.string ⟨#[]⟩) (.int .i64 0) (.int .i64 0) (.int .i64 0) (.slice none 0 0) w

set_option maxHeartbeats 2000000 in
set_option maxRecDepth 100000 in
theorem file_any {pb : Nat} {x : St} {w : World} (h : Par pb x w) (hx : x.1.length ≤ 1000000) : Calls Tryd.prog 42 #[.pointer (some ⟨pb, 0, none⟩)] w (ContPost pb (fileP x) w) := by
  have hpl := block_lt h
  obtain ⟨w1, hw1⟩ : ∃ w1, w.alloc (.cells #[.int .i64 0, .string ⟨#[]⟩, .string ⟨#[]⟩, .int .i64 0, .int .i64 0, .int .i64 0, .slice none 0 0] 24) = w1 := ⟨_, rfl⟩
  have hk1 : Kp [] w w1 := by rw [← hw1]; exact (Kp.refl [] w).alloc _
  have hz1 : Zero7 w.heap.size w1 := by rw [← hw1]; exact al_new _ _
  have hs1 : w1.heap.size = w.heap.size + 1 := by rw [← hw1]; exact al_size _ _
  obtain ⟨A, hA⟩ : ∃ A, w.heap.size = A := ⟨_, rfl⟩
  rw [hA] at hz1 hs1 hpl
  have hi := id_len x
  have hw : (takeP 58 (idP x).2).1.length ≤ 1000000 := Nat.le_trans (take_len _ _) (Nat.le_trans hi hx)
  have hf : fileP x = (.mk 1 (idP x).1 (wrd (takeP 58 (idP x).2).1) 0 0 0 [], rst (takeP 58 (idP x).2).1, (takeP 58 (idP x).2).2) := rfl
  have hil : (idP x).1.length ≤ 1000000 := Nat.le_trans (wrd_le _) (Nat.le_trans (take_len 58 x) hx)
  have HI := Lib.hid (id_any (h.kp hk1 (by simp)) hx)
  have K1 := Lib.hid hk1
  have Z1 := Lib.hid hz1
  have S1 := Lib.hid hs1
  have HX := Lib.hid hw
  have HF := Lib.hid hf
  have HIL := Lib.hid hil
  clear h hk1 hz1 hs1 hx hi hw hf hil
  generalize hid : idP x = y at *
  clear hid
  generalize hty : takeP 58 y.2 = z at *
  have HTY := Lib.hid hty
  clear hty
  generalize fileP x = fp at *
  go_enter Tryd.func42, Tryd.ntmps42
  go_wp2_with fail
  refine HI.out.mono ?_
  rintro r w2 ⟨rfl, hp2, hk2, hs2⟩
  obtain ⟨w3, hw3⟩ : ∃ w3, w2.alloc (.cells #[.int .i64 1, .string (bs y.1), .string ⟨#[]⟩, .int .i64 0, .int .i64 0, .int .i64 0, .slice none 0 0] 24) = w3 := ⟨_, rfl⟩
  have hk3 : Kp [] w2 w3 := by rw [← hw3]; exact (Kp.refl [] w2).alloc _
  have hb3 : BoxV w2.heap.size (.int .i64 1) (.string (bs y.1)) (.string ⟨#[]⟩) (.int .i64 0) (.int .i64 0) (.int .i64 0) (.slice none 0 0) w3 := by rw [← hw3]; exact al_new _ _
  have hA2 : w2.heap.size = A + 1 := by rw [hs2, S1.out]
  rw [hA2] at hb3
  have Z3 := Lib.hid ((Z1.out.kp hk2 (by simp; omega)).kp hk3 (by simp))
  have B3 := Lib.hid hb3
  have K3 := Lib.hid ((K1.out.mono (by simp)).trans (hk2.trans (hk3.mono (by simp))))
  have HT := Lib.hid (take_any 58 (hp2.kp hk3 (by simp)))
  clear hp2 hk2 hs2 hk3 hb3
  subst hw3
  go_wp2_with fail
  refine HT.out.mono ?_
  rintro r w4 ⟨rfl, hp4, hk4, hs4⟩
  rw [HTY.out] at hp4
  have Z4 := Lib.hid (Z3.out.kp hk4 (by simp; omega))
  have B4 := Lib.hid (B3.out.kp hk4 (by simp; omega))
  have K4 := Lib.hid (K3.out.trans hk4)
  have HW := Lib.hid (word_any hp4 HX.out)
  clear hp4 hk4 hs4 hw1
  go_wp2_with fail
  refine HW.out.mono ?_
  rintro r w5 ⟨rfl, hp5, hk5, hs5⟩
  have hz5 := Z4.out.kp hk5 (by simp; omega)
  have hb5 := B4.out.kp hk5 (by simp; omega)
  have K5 := Lib.hid (K4.out.trans hk5)
  have P5 := Lib.hid hp5
  obtain ⟨c0, c1, c2, c3, c4, c5, c6⟩ := hb5.cells
  have f2 := hb5.frozen 2
  obtain ⟨d0, d1, d2, d3, d4, d5, d6⟩ := BoxV.cells hz5
  have g0 := BoxV.frozen hz5 0
  have g1 := BoxV.frozen hz5 1
  have g2 := BoxV.frozen hz5 2
  have g3 := BoxV.frozen hz5 3
  have g4 := BoxV.frozen hz5 4
  have g5 := BoxV.frozen hz5 5
  have g6 := BoxV.frozen hz5 6
  have Z5 := Lib.hid hz5
  have B5 := Lib.hid hb5
  clear hz5 hb5 hp5 hk5 hs5
  go_wp2_with fail
  have hk6 : Kp [A, A + 1] w5 (put7 (w5.setCell ⟨A + 1, 2, none⟩ (.string (bs (wrd z.1)))) A (.int .i64 1) (.string (bs y.1)) (.string (bs (wrd z.1))) (.int .i64 0) (.int .i64 0) (.int .i64 0) (.slice none 0 0)) :=
    put7_kp ((Kp.refl _ w5).setCell (.inl (by simp)) _) (.inl (by simp)) _ _ _ _ _ _ _
  have hz6 := BoxV.kp Z5.out ((Kp.refl [A + 1] w5).setCell (p := ⟨A + 1, 2, none⟩) (.inl (by simp)) (.string (bs (wrd z.1)))) (by simp)
  refine bodyPost_ret (res24 Tryd.results42 rfl (put7_box hz6 _ _ _ _ _ _ _)) rfl ?_
  rw [HF.out]
  exact ⟨_, rfl, CHas.nil _ _, ⟨by show y.1.length ≤ _; have := HIL.out; unfold maxLen; omega, by show (wrd z.1).length ≤ _; have := wrd_le z.1; have := HX.out; unfold maxLen; omega⟩, P5.out.kp hk6 (by simp; omega), K5.out.up hk6 (by simp; omega)⟩
end Go.Proofs.YtoohnjlghjapnaaDoor
