/- The text of a valid content. -/
import Derived.Test.YtoohnjlghjapnaaDoorN
namespace Go.Proofs.YtoohnjlghjapnaaDoor
open Go.RowKit

theorem run_add_str {P : Program} (W : World) (a b : ByteArray) (h : a.size + b.size ≤ 100000000000) : (Op.stringOp .add a b).run P W = .ok (.string (a ++ b)) W :=
  run_string_add_sum W a b (by omega)
theorem lastS {w1 W : World} {p0 p1 p2 p3 p4 p5 p6 : Prop} (h : p0 ∧ p1 ∧ p2 ∧ p3 ∧ p4 ∧ p5 ∧ p6 ∧ Kp [] w1 W) : Kp [] w1 W := h.2.2.2.2.2.2.2
/-- Box and world as the call found them. -/
theorem kp_box {w1 W : World} {A : Nat} {v0 v1 v2 v3 v4 v5 v6 : Value} (h : BoxV A v0 v1 v2 v3 v4 v5 v6 w1) (hk : Kp [] w1 W) :
    W.cell? ⟨A, 0, none⟩ = some v0 ∧ W.cell? ⟨A, 1, none⟩ = some v1 ∧ W.cell? ⟨A, 2, none⟩ = some v2 ∧ W.cell? ⟨A, 3, none⟩ = some v3 ∧ W.cell? ⟨A, 4, none⟩ = some v4 ∧ W.cell? ⟨A, 5, none⟩ = some v5 ∧ W.cell? ⟨A, 6, none⟩ = some v6 ∧ Kp [] w1 W := by
  obtain ⟨c0, c1, c2, c3, c4, c5, c6⟩ := (h.kp hk (by simp)).cells
  exact ⟨c0, c1, c2, c3, c4, c5, c6, hk⟩

set_option maxHeartbeats 4000000 in
set_option maxRecDepth 100000 in
theorem text1 {d : Nat} (hd : d ≤ 5) (_ht : TextOK d) {Q : Nat → Prop} (c : Con) (a : Option Addr) (n : Nat) (w : World) (hk : c.kind = 1) (hv : valN (d + 1) c = true) (_hh : CHas Q w (.slice a c.inner.length n) c.inner) :
    Calls Tryd.prog 26 #[.agg #[.int .i64 c.kind, .string (bs c.id), .string (bs c.lab), .int .i64 c.slot, .int .i64 c.tot, .int .i64 c.lst, .slice a c.inner.length n]] w fun r w' => r = .returned (.string (bs c.txt)) ∧ Kp [] w w' := by
  have hv1 := hv
  unfold valN at hv1
  rw [if_neg (by rw [hk]; decide)] at hv1
  simp only [Bool.and_eq_true] at hv1
  obtain ⟨⟨hi, hho⟩, ha⟩ := hv1
  have h16 := inner_len hho
  have hil : (bs c.id).size ≤ 16 := isID_len hi
  have hll : (bs c.lab).size ≤ 16 := lab_len hho
  have htl := Nat.le_trans (txt_len (d + 1) c hv) (tlen6 (d + 1) (by omega))

  have htx : c.txt = wFs ++ 58 :: (c.id ++ 58 :: c.lab) := by rw [txt_eq, if_neg (by rw [hk]; decide), if_pos hk]; unfold headT; rw [if_pos hk]
  have HF := Lib.hid (show (⟨#[102, 115, 58]⟩ : ByteArray) ++ bs c.id ++ (⟨#[58]⟩ : ByteArray) ++ bs c.lab = bs c.txt by
    rw [show (⟨#[102, 115, 58]⟩ : ByteArray) = bs [102, 115, 58] from rfl, show (⟨#[58]⟩ : ByteArray) = bs [58] from rfl, bs_app, bs_app, bs_app, htx]; simp [wFs])
  rw [hk]
  generalize bs c.txt = R at *
  generalize bs c.id = I at *
  generalize bs c.lab = L at *
  clear hv ha hho hi htl htx hk
  go_enter Tryd.func26, Tryd.ntmps26
  go_wp2
  go_ret
  rw [HF.out]
  exact ⟨rfl, (Kp.refl [] w).alloc _⟩

set_option maxHeartbeats 4000000 in
set_option maxRecDepth 100000 in
theorem text2 {d : Nat} (hd : d ≤ 5) (ht : TextOK d) {Q : Nat → Prop} (c : Con) (a : Option Addr) (n : Nat) (w : World) (hk : c.kind = 2) (hv : valN (d + 1) c = true) (hh : CHas Q w (.slice a c.inner.length n) c.inner) :
    Calls Tryd.prog 26 #[.agg #[.int .i64 c.kind, .string (bs c.id), .string (bs c.lab), .int .i64 c.slot, .int .i64 c.tot, .int .i64 c.lst, .slice a c.inner.length n]] w fun r w' => r = .returned (.string (bs c.txt)) ∧ Kp [] w w' := by
  have hv1 := hv
  unfold valN at hv1
  rw [if_neg (by rw [hk]; decide)] at hv1
  simp only [Bool.and_eq_true] at hv1
  obtain ⟨⟨hi, hho⟩, ha⟩ := hv1
  have h16 := inner_len hho
  have hil : (bs c.id).size ≤ 16 := isID_len hi
  have hll : (bs c.lab).size ≤ 16 := lab_len hho
  have htl := Nat.le_trans (txt_len (d + 1) c hv) (tlen6 (d + 1) (by omega))

  obtain ⟨w1, hw1⟩ : ∃ w1, w.alloc (.cells #[.int .i64 c.kind, .string (bs c.id), .string (bs c.lab), .int .i64 c.slot, .int .i64 c.tot, .int .i64 c.lst, .slice a c.inner.length n] 24) = w1 := ⟨_, rfl⟩
  have hk1 : Kp [] w w1 := by rw [← hw1]; exact (Kp.refl [] w).alloc _
  have hb1 : BoxV w.heap.size (.int .i64 c.kind) (.string (bs c.id)) (.string (bs c.lab)) (.int .i64 c.slot) (.int .i64 c.tot) (.int .i64 c.lst) (.slice a c.inner.length n) w1 := by rw [← hw1]; exact al_new _ _
  obtain ⟨A, hA⟩ : ∃ A, w.heap.size = A := ⟨_, rfl⟩
  rw [hA] at hb1
  have hne : c.inner ≠ [] := by
    intro e
    unfold headOK at hho
    simp [hk, e] at hho
  have HINN := Lib.hid (fun W (hS : W.cell? ⟨A, 0, none⟩ = some (.int .i64 c.kind) ∧ W.cell? ⟨A, 1, none⟩ = some (.string (bs c.id)) ∧ W.cell? ⟨A, 2, none⟩ = some (.string (bs c.lab)) ∧ W.cell? ⟨A, 3, none⟩ = some (.int .i64 c.slot) ∧ W.cell? ⟨A, 4, none⟩ = some (.int .i64 c.tot) ∧ W.cell? ⟨A, 5, none⟩ = some (.int .i64 c.lst) ∧ W.cell? ⟨A, 6, none⟩ = some (.slice a c.inner.length n) ∧ Kp [] w1 W) => ((innerText_any (Q := Q) (by omega) ht c a n W hne h16 ha (kp_has hh (hk1.trans hS.2.2.2.2.2.2.2))).mono fun r w' h => (⟨h.1, kp_box hb1 (hS.2.2.2.2.2.2.2.trans h.2)⟩ : r = _ ∧ w'.cell? ⟨A, 0, none⟩ = some (.int .i64 c.kind) ∧ w'.cell? ⟨A, 1, none⟩ = some (.string (bs c.id)) ∧ w'.cell? ⟨A, 2, none⟩ = some (.string (bs c.lab)) ∧ w'.cell? ⟨A, 3, none⟩ = some (.int .i64 c.slot) ∧ w'.cell? ⟨A, 4, none⟩ = some (.int .i64 c.tot) ∧ w'.cell? ⟨A, 5, none⟩ = some (.int .i64 c.lst) ∧ w'.cell? ⟨A, 6, none⟩ = some (.slice a c.inner.length n) ∧ Kp [] w1 w')))

  have htx : c.txt = headT c ++ 40 :: (joinC (c.inner.map Con.txt) ++ [41]) := by rw [txt_eq, if_neg (by rw [hk]; decide), if_neg (by rw [hk]; decide)]
  unfold headOK at hho
  simp only [hk, show ((2 : Int) = 1) = False by decide, if_true, if_false, Bool.and_eq_true, slotsOK_iff] at hho
  obtain ⟨⟨⟨-, g1, g2, g3, g4⟩, g56⟩, -⟩ := hho
  have g5 : 1 ≤ c.lst ∧ c.lst ≤ c.tot := of_decide_eq_true g56
  have HSL := Lib.hid (fun W (hS : W.cell? ⟨A, 0, none⟩ = some (.int .i64 c.kind) ∧ W.cell? ⟨A, 1, none⟩ = some (.string (bs c.id)) ∧ W.cell? ⟨A, 2, none⟩ = some (.string (bs c.lab)) ∧ W.cell? ⟨A, 3, none⟩ = some (.int .i64 c.slot) ∧ W.cell? ⟨A, 4, none⟩ = some (.int .i64 c.tot) ∧ W.cell? ⟨A, 5, none⟩ = some (.int .i64 c.lst) ∧ W.cell? ⟨A, 6, none⟩ = some (.slice a c.inner.length n) ∧ Kp [] w1 W) => ((slotText_any c.kind c.id c.lab c.slot c.tot c.lst a c.inner.length n W g3 (by omega) g1 g2).mono fun r w' h => (⟨h.1, kp_box hb1 (hS.2.2.2.2.2.2.2.trans h.2)⟩ : r = _ ∧ w'.cell? ⟨A, 0, none⟩ = some (.int .i64 c.kind) ∧ w'.cell? ⟨A, 1, none⟩ = some (.string (bs c.id)) ∧ w'.cell? ⟨A, 2, none⟩ = some (.string (bs c.lab)) ∧ w'.cell? ⟨A, 3, none⟩ = some (.int .i64 c.slot) ∧ w'.cell? ⟨A, 4, none⟩ = some (.int .i64 c.tot) ∧ w'.cell? ⟨A, 5, none⟩ = some (.int .i64 c.lst) ∧ w'.cell? ⟨A, 6, none⟩ = some (.slice a c.inner.length n) ∧ Kp [] w1 w')))
  have HIT := Lib.hid (fun W (hS : W.cell? ⟨A, 0, none⟩ = some (.int .i64 c.kind) ∧ W.cell? ⟨A, 1, none⟩ = some (.string (bs c.id)) ∧ W.cell? ⟨A, 2, none⟩ = some (.string (bs c.lab)) ∧ W.cell? ⟨A, 3, none⟩ = some (.int .i64 c.slot) ∧ W.cell? ⟨A, 4, none⟩ = some (.int .i64 c.tot) ∧ W.cell? ⟨A, 5, none⟩ = some (.int .i64 c.lst) ∧ W.cell? ⟨A, 6, none⟩ = some (.slice a c.inner.length n) ∧ Kp [] w1 W) => ((itoa_small c.lst g5.1 (by omega) W).mono fun r w' h => (⟨h.1, by rw [h.2]; exact hS⟩ : r = _ ∧ w'.cell? ⟨A, 0, none⟩ = some (.int .i64 c.kind) ∧ w'.cell? ⟨A, 1, none⟩ = some (.string (bs c.id)) ∧ w'.cell? ⟨A, 2, none⟩ = some (.string (bs c.lab)) ∧ w'.cell? ⟨A, 3, none⟩ = some (.int .i64 c.slot) ∧ w'.cell? ⟨A, 4, none⟩ = some (.int .i64 c.tot) ∧ w'.cell? ⟨A, 5, none⟩ = some (.int .i64 c.lst) ∧ w'.cell? ⟨A, 6, none⟩ = some (.slice a c.inner.length n) ∧ Kp [] w1 w')))
  have hsl : (bs (dec2 c.slot ++ 47 :: dec2 c.tot)).size ≤ 5 := by rw [bs_size]; have := dec2_len c.slot; have := dec2_len c.tot; simp; omega
  have hdl : (bs (dec2 c.lst)).size ≤ 2 := by rw [bs_size]; exact dec2_len c.lst
  have HF := Lib.hid (show (⟨#[114, 97, 105, 100, 58]⟩ : ByteArray) ++ bs c.id ++ (⟨#[58]⟩ : ByteArray) ++ bs (dec2 c.slot ++ 47 :: dec2 c.tot) ++ (⟨#[47]⟩ : ByteArray) ++ bs (dec2 c.lst) ++ bs (40 :: (joinC (c.inner.map Con.txt) ++ [41])) = bs c.txt by
    rw [show (⟨#[114, 97, 105, 100, 58]⟩ : ByteArray) = bs [114, 97, 105, 100, 58] from rfl, show (⟨#[58]⟩ : ByteArray) = bs [58] from rfl, show (⟨#[47]⟩ : ByteArray) = bs [47] from rfl, bs_app, bs_app, bs_app, bs_app, bs_app, bs_app, htx]
    unfold headT
    rw [if_neg (by rw [hk]; decide), if_pos hk]
    simp [wRaid])

  have HST := Lib.hid (kp_box (W := w1.drew) hb1 ((Kp.refl [] w1).drew 1))
  have K1 := Lib.hid hk1
  have hjl : (bs (40 :: (joinC (c.inner.map Con.txt) ++ [41]))).size ≤ 4000000000 := by
    rw [bs_size]
    have := htl
    rw [htx, List.length_append] at this
    omega
  obtain ⟨c0, c1, c2, c3, c4, c5, c6⟩ := hb1.cells
  generalize bs c.txt = R at *
  generalize bs (40 :: (joinC (c.inner.map Con.txt) ++ [41])) = J at *
  generalize bs (dec2 c.slot ++ 47 :: dec2 c.tot) = SL at *
  generalize bs (dec2 c.lst) = DL at *
  clear g1 g2 g3 g4 g56 g5

  generalize bs c.id = I at *
  generalize bs c.lab = L at *
  have hkk : c.kind = 2 := hk
  rw [hk] at *
  have q0 : (⟨#[114, 97, 105, 100, 58]⟩ : ByteArray).size = 5 := rfl
  have q2 : (⟨#[58]⟩ : ByteArray).size = 1 := rfl
  have q4 : (⟨#[47]⟩ : ByteArray).size = 1 := rfl
  have r1 := fun W : World => @run_add_str Tryd.prog W (⟨#[114, 97, 105, 100, 58]⟩ : ByteArray) I (by show _ + _ ≤ _; omega)
  obtain ⟨X1, x1⟩ : ∃ X, (⟨#[114, 97, 105, 100, 58]⟩ : ByteArray) ++ I = X := ⟨_, rfl⟩
  have z1 : X1.size ≤ 21 := by rw [← x1, ByteArray.size_append]; show _ + _ ≤ _; omega
  rw [x1] at r1 HF
  clear x1
  have r2 := fun W : World => @run_add_str Tryd.prog W X1 (⟨#[58]⟩ : ByteArray) (by show _ + _ ≤ _; omega)
  obtain ⟨X2, x2⟩ : ∃ X, X1 ++ (⟨#[58]⟩ : ByteArray) = X := ⟨_, rfl⟩
  have z2 : X2.size ≤ 22 := by rw [← x2, ByteArray.size_append]; show _ + _ ≤ _; omega
  rw [x2] at r2 HF
  clear x2
  have r3 := fun W : World => @run_add_str Tryd.prog W X2 SL (by show _ + _ ≤ _; omega)
  obtain ⟨X3, x3⟩ : ∃ X, X2 ++ SL = X := ⟨_, rfl⟩
  have z3 : X3.size ≤ 27 := by rw [← x3, ByteArray.size_append]; show _ + _ ≤ _; omega
  rw [x3] at r3 HF
  clear x3
  have r4 := fun W : World => @run_add_str Tryd.prog W X3 (⟨#[47]⟩ : ByteArray) (by show _ + _ ≤ _; omega)
  obtain ⟨X4, x4⟩ : ∃ X, X3 ++ (⟨#[47]⟩ : ByteArray) = X := ⟨_, rfl⟩
  have z4 : X4.size ≤ 28 := by rw [← x4, ByteArray.size_append]; show _ + _ ≤ _; omega
  rw [x4] at r4 HF
  clear x4
  have r5 := fun W : World => @run_add_str Tryd.prog W X4 DL (by show _ + _ ≤ _; omega)
  obtain ⟨X5, x5⟩ : ∃ X, X4 ++ DL = X := ⟨_, rfl⟩
  have z5 : X5.size ≤ 30 := by rw [← x5, ByteArray.size_append]; show _ + _ ≤ _; omega
  rw [x5] at r5 HF
  clear x5
  have r6 := fun W : World => @run_add_str Tryd.prog W X5 J (by show _ + _ ≤ _; omega)
  obtain ⟨X6, x6⟩ : ∃ X, X5 ++ J = X := ⟨_, rfl⟩
  have z6 : X6.size ≤ 4000000030 := by rw [← x6, ByteArray.size_append]; show _ + _ ≤ _; omega
  rw [x6] at r6 HF
  clear x6
  clear q0 q2 q4
  clear hv hh ha hi htl htx hk hk1 hb1 hne ht h16 hkk
  go_enter Tryd.func26, Tryd.ntmps26
  go_wp2
  go_region_held3 (fun W => W.cell? ⟨A, 0, none⟩ = some (.int .i64 2) ∧ W.cell? ⟨A, 1, none⟩ = some (.string I) ∧ W.cell? ⟨A, 2, none⟩ = some (.string L) ∧ W.cell? ⟨A, 3, none⟩ = some (.int .i64 c.slot) ∧ W.cell? ⟨A, 4, none⟩ = some (.int .i64 c.tot) ∧ W.cell? ⟨A, 5, none⟩ = some (.int .i64 c.lst) ∧ W.cell? ⟨A, 6, none⟩ = some (.slice a c.inner.length n) ∧ Kp [] w1 W) (first | exact HST.out | assumption) (first
    | (go_at_call 35; refine Calls.mono (by with_reducible exact HSL.out _ (by assumption)) ?_; rintro e W ⟨rfl, hb⟩)
    | (go_at_call 36; refine Calls.mono (by with_reducible exact HIT.out _ (by assumption)) ?_; rintro e W ⟨rfl, hb⟩)
    | (go_at_call 37; refine Calls.mono (by with_reducible exact HINN.out _ (by assumption)) ?_; rintro e W ⟨rfl, hb⟩))
  all_goals
    go_wp2
    go_ret
    rw [HF.out]
    exact ⟨rfl, K1.out.trans (lastS (by assumption))⟩

set_option maxHeartbeats 4000000 in
set_option maxRecDepth 100000 in
theorem text3 {d : Nat} (hd : d ≤ 5) (ht : TextOK d) {Q : Nat → Prop} (c : Con) (a : Option Addr) (n : Nat) (w : World) (hk : c.kind = 3) (hv : valN (d + 1) c = true) (hh : CHas Q w (.slice a c.inner.length n) c.inner) :
    Calls Tryd.prog 26 #[.agg #[.int .i64 c.kind, .string (bs c.id), .string (bs c.lab), .int .i64 c.slot, .int .i64 c.tot, .int .i64 c.lst, .slice a c.inner.length n]] w fun r w' => r = .returned (.string (bs c.txt)) ∧ Kp [] w w' := by
  have hv1 := hv
  unfold valN at hv1
  rw [if_neg (by rw [hk]; decide)] at hv1
  simp only [Bool.and_eq_true] at hv1
  obtain ⟨⟨hi, hho⟩, ha⟩ := hv1
  have h16 := inner_len hho
  have hil : (bs c.id).size ≤ 16 := isID_len hi
  have hll : (bs c.lab).size ≤ 16 := lab_len hho
  have htl := Nat.le_trans (txt_len (d + 1) c hv) (tlen6 (d + 1) (by omega))

  obtain ⟨w1, hw1⟩ : ∃ w1, w.alloc (.cells #[.int .i64 c.kind, .string (bs c.id), .string (bs c.lab), .int .i64 c.slot, .int .i64 c.tot, .int .i64 c.lst, .slice a c.inner.length n] 24) = w1 := ⟨_, rfl⟩
  have hk1 : Kp [] w w1 := by rw [← hw1]; exact (Kp.refl [] w).alloc _
  have hb1 : BoxV w.heap.size (.int .i64 c.kind) (.string (bs c.id)) (.string (bs c.lab)) (.int .i64 c.slot) (.int .i64 c.tot) (.int .i64 c.lst) (.slice a c.inner.length n) w1 := by rw [← hw1]; exact al_new _ _
  obtain ⟨A, hA⟩ : ∃ A, w.heap.size = A := ⟨_, rfl⟩
  rw [hA] at hb1
  have hne : c.inner ≠ [] := by
    intro e
    unfold headOK at hho
    simp [hk, e] at hho
  have HINN := Lib.hid (fun W (hS : W.cell? ⟨A, 0, none⟩ = some (.int .i64 c.kind) ∧ W.cell? ⟨A, 1, none⟩ = some (.string (bs c.id)) ∧ W.cell? ⟨A, 2, none⟩ = some (.string (bs c.lab)) ∧ W.cell? ⟨A, 3, none⟩ = some (.int .i64 c.slot) ∧ W.cell? ⟨A, 4, none⟩ = some (.int .i64 c.tot) ∧ W.cell? ⟨A, 5, none⟩ = some (.int .i64 c.lst) ∧ W.cell? ⟨A, 6, none⟩ = some (.slice a c.inner.length n) ∧ Kp [] w1 W) => ((innerText_any (Q := Q) (by omega) ht c a n W hne h16 ha (kp_has hh (hk1.trans hS.2.2.2.2.2.2.2))).mono fun r w' h => (⟨h.1, kp_box hb1 (hS.2.2.2.2.2.2.2.trans h.2)⟩ : r = _ ∧ w'.cell? ⟨A, 0, none⟩ = some (.int .i64 c.kind) ∧ w'.cell? ⟨A, 1, none⟩ = some (.string (bs c.id)) ∧ w'.cell? ⟨A, 2, none⟩ = some (.string (bs c.lab)) ∧ w'.cell? ⟨A, 3, none⟩ = some (.int .i64 c.slot) ∧ w'.cell? ⟨A, 4, none⟩ = some (.int .i64 c.tot) ∧ w'.cell? ⟨A, 5, none⟩ = some (.int .i64 c.lst) ∧ w'.cell? ⟨A, 6, none⟩ = some (.slice a c.inner.length n) ∧ Kp [] w1 w')))

  have htx : c.txt = headT c ++ 40 :: (joinC (c.inner.map Con.txt) ++ [41]) := by rw [txt_eq, if_neg (by rw [hk]; decide), if_neg (by rw [hk]; decide)]
  have HF := Lib.hid (show (⟨#[99, 114, 121, 112, 116, 58]⟩ : ByteArray) ++ bs c.id ++ bs (40 :: (joinC (c.inner.map Con.txt) ++ [41])) = bs c.txt by
    rw [show (⟨#[99, 114, 121, 112, 116, 58]⟩ : ByteArray) = bs [99, 114, 121, 112, 116, 58] from rfl, bs_app, bs_app, htx]
    unfold headT
    rw [if_neg (by rw [hk]; decide), if_neg (by rw [hk]; decide), if_pos hk]
    simp [wCrypt])

  have HST := Lib.hid (kp_box (W := w1.drew) hb1 ((Kp.refl [] w1).drew 1))
  have K1 := Lib.hid hk1
  have hjl : (bs (40 :: (joinC (c.inner.map Con.txt) ++ [41]))).size ≤ 4000000000 := by
    rw [bs_size]
    have := htl
    rw [htx, List.length_append] at this
    omega
  obtain ⟨c0, c1, c2, c3, c4, c5, c6⟩ := hb1.cells
  generalize bs c.txt = R at *
  generalize bs (40 :: (joinC (c.inner.map Con.txt) ++ [41])) = J at *

  generalize bs c.id = I at *
  generalize bs c.lab = L at *
  have hkk : c.kind = 3 := hk
  rw [hk] at *
  have q0 : (⟨#[99, 114, 121, 112, 116, 58]⟩ : ByteArray).size = 6 := rfl
  have r1 := fun W : World => @run_add_str Tryd.prog W (⟨#[99, 114, 121, 112, 116, 58]⟩ : ByteArray) I (by show _ + _ ≤ _; omega)
  obtain ⟨X1, x1⟩ : ∃ X, (⟨#[99, 114, 121, 112, 116, 58]⟩ : ByteArray) ++ I = X := ⟨_, rfl⟩
  have z1 : X1.size ≤ 22 := by rw [← x1, ByteArray.size_append]; show _ + _ ≤ _; omega
  rw [x1] at r1 HF
  clear x1
  have r2 := fun W : World => @run_add_str Tryd.prog W X1 J (by show _ + _ ≤ _; omega)
  obtain ⟨X2, x2⟩ : ∃ X, X1 ++ J = X := ⟨_, rfl⟩
  have z2 : X2.size ≤ 4000000022 := by rw [← x2, ByteArray.size_append]; show _ + _ ≤ _; omega
  rw [x2] at r2 HF
  clear x2
  clear q0
  clear hv hh ha hho hi htl htx hk hk1 hb1 hne ht h16 hkk
  go_enter Tryd.func26, Tryd.ntmps26
  go_wp2
  go_region_held3 (fun W => W.cell? ⟨A, 0, none⟩ = some (.int .i64 3) ∧ W.cell? ⟨A, 1, none⟩ = some (.string I) ∧ W.cell? ⟨A, 2, none⟩ = some (.string L) ∧ W.cell? ⟨A, 3, none⟩ = some (.int .i64 c.slot) ∧ W.cell? ⟨A, 4, none⟩ = some (.int .i64 c.tot) ∧ W.cell? ⟨A, 5, none⟩ = some (.int .i64 c.lst) ∧ W.cell? ⟨A, 6, none⟩ = some (.slice a c.inner.length n) ∧ Kp [] w1 W) (first | exact HST.out | assumption) (first
    | (go_at_call 37; refine Calls.mono (by with_reducible exact HINN.out _ (by assumption)) ?_; rintro e W ⟨rfl, hb⟩))
  all_goals
    go_wp2
    go_ret
    rw [HF.out]
    exact ⟨rfl, K1.out.trans (lastS (by assumption))⟩

set_option maxHeartbeats 4000000 in
set_option maxRecDepth 100000 in
theorem text4 {d : Nat} (hd : d ≤ 5) (ht : TextOK d) {Q : Nat → Prop} (c : Con) (a : Option Addr) (n : Nat) (w : World) (hk : c.kind = 4) (hv : valN (d + 1) c = true) (hh : CHas Q w (.slice a c.inner.length n) c.inner) :
    Calls Tryd.prog 26 #[.agg #[.int .i64 c.kind, .string (bs c.id), .string (bs c.lab), .int .i64 c.slot, .int .i64 c.tot, .int .i64 c.lst, .slice a c.inner.length n]] w fun r w' => r = .returned (.string (bs c.txt)) ∧ Kp [] w w' := by
  have hv1 := hv
  unfold valN at hv1
  rw [if_neg (by rw [hk]; decide)] at hv1
  simp only [Bool.and_eq_true] at hv1
  obtain ⟨⟨hi, hho⟩, ha⟩ := hv1
  have h16 := inner_len hho
  have hil : (bs c.id).size ≤ 16 := isID_len hi
  have hll : (bs c.lab).size ≤ 16 := lab_len hho
  have htl := Nat.le_trans (txt_len (d + 1) c hv) (tlen6 (d + 1) (by omega))

  obtain ⟨w1, hw1⟩ : ∃ w1, w.alloc (.cells #[.int .i64 c.kind, .string (bs c.id), .string (bs c.lab), .int .i64 c.slot, .int .i64 c.tot, .int .i64 c.lst, .slice a c.inner.length n] 24) = w1 := ⟨_, rfl⟩
  have hk1 : Kp [] w w1 := by rw [← hw1]; exact (Kp.refl [] w).alloc _
  have hb1 : BoxV w.heap.size (.int .i64 c.kind) (.string (bs c.id)) (.string (bs c.lab)) (.int .i64 c.slot) (.int .i64 c.tot) (.int .i64 c.lst) (.slice a c.inner.length n) w1 := by rw [← hw1]; exact al_new _ _
  obtain ⟨A, hA⟩ : ∃ A, w.heap.size = A := ⟨_, rfl⟩
  rw [hA] at hb1
  have hne : c.inner ≠ [] := by
    intro e
    unfold headOK at hho
    simp [hk, e] at hho
  have HINN := Lib.hid (fun W (hS : W.cell? ⟨A, 0, none⟩ = some (.int .i64 c.kind) ∧ W.cell? ⟨A, 1, none⟩ = some (.string (bs c.id)) ∧ W.cell? ⟨A, 2, none⟩ = some (.string (bs c.lab)) ∧ W.cell? ⟨A, 3, none⟩ = some (.int .i64 c.slot) ∧ W.cell? ⟨A, 4, none⟩ = some (.int .i64 c.tot) ∧ W.cell? ⟨A, 5, none⟩ = some (.int .i64 c.lst) ∧ W.cell? ⟨A, 6, none⟩ = some (.slice a c.inner.length n) ∧ Kp [] w1 W) => ((innerText_any (Q := Q) (by omega) ht c a n W hne h16 ha (kp_has hh (hk1.trans hS.2.2.2.2.2.2.2))).mono fun r w' h => (⟨h.1, kp_box hb1 (hS.2.2.2.2.2.2.2.trans h.2)⟩ : r = _ ∧ w'.cell? ⟨A, 0, none⟩ = some (.int .i64 c.kind) ∧ w'.cell? ⟨A, 1, none⟩ = some (.string (bs c.id)) ∧ w'.cell? ⟨A, 2, none⟩ = some (.string (bs c.lab)) ∧ w'.cell? ⟨A, 3, none⟩ = some (.int .i64 c.slot) ∧ w'.cell? ⟨A, 4, none⟩ = some (.int .i64 c.tot) ∧ w'.cell? ⟨A, 5, none⟩ = some (.int .i64 c.lst) ∧ w'.cell? ⟨A, 6, none⟩ = some (.slice a c.inner.length n) ∧ Kp [] w1 w')))

  have htx : c.txt = headT c ++ 40 :: (joinC (c.inner.map Con.txt) ++ [41]) := by rw [txt_eq, if_neg (by rw [hk]; decide), if_neg (by rw [hk]; decide)]
  unfold headOK at hho
  simp only [hk, show ((4 : Int) = 1) = False by decide, show ((4 : Int) = 2) = False by decide, show ((4 : Int) = 3) = False by decide, if_true, if_false, Bool.and_eq_true, slotsOK_iff] at hho
  obtain ⟨⟨⟨-, g1, g2, g3, g4⟩, -⟩, -⟩ := hho
  have HSL := Lib.hid (fun W (hS : W.cell? ⟨A, 0, none⟩ = some (.int .i64 c.kind) ∧ W.cell? ⟨A, 1, none⟩ = some (.string (bs c.id)) ∧ W.cell? ⟨A, 2, none⟩ = some (.string (bs c.lab)) ∧ W.cell? ⟨A, 3, none⟩ = some (.int .i64 c.slot) ∧ W.cell? ⟨A, 4, none⟩ = some (.int .i64 c.tot) ∧ W.cell? ⟨A, 5, none⟩ = some (.int .i64 c.lst) ∧ W.cell? ⟨A, 6, none⟩ = some (.slice a c.inner.length n) ∧ Kp [] w1 W) => ((slotText_any c.kind c.id c.lab c.slot c.tot c.lst a c.inner.length n W g3 (by omega) g1 g2).mono fun r w' h => (⟨h.1, kp_box hb1 (hS.2.2.2.2.2.2.2.trans h.2)⟩ : r = _ ∧ w'.cell? ⟨A, 0, none⟩ = some (.int .i64 c.kind) ∧ w'.cell? ⟨A, 1, none⟩ = some (.string (bs c.id)) ∧ w'.cell? ⟨A, 2, none⟩ = some (.string (bs c.lab)) ∧ w'.cell? ⟨A, 3, none⟩ = some (.int .i64 c.slot) ∧ w'.cell? ⟨A, 4, none⟩ = some (.int .i64 c.tot) ∧ w'.cell? ⟨A, 5, none⟩ = some (.int .i64 c.lst) ∧ w'.cell? ⟨A, 6, none⟩ = some (.slice a c.inner.length n) ∧ Kp [] w1 w')))
  have hsl : (bs (dec2 c.slot ++ 47 :: dec2 c.tot)).size ≤ 5 := by rw [bs_size]; have := dec2_len c.slot; have := dec2_len c.tot; simp; omega
  have HF := Lib.hid (show (⟨#[112, 118, 58]⟩ : ByteArray) ++ bs c.id ++ (⟨#[58]⟩ : ByteArray) ++ bs (dec2 c.slot ++ 47 :: dec2 c.tot) ++ bs (40 :: (joinC (c.inner.map Con.txt) ++ [41])) = bs c.txt by
    rw [show (⟨#[112, 118, 58]⟩ : ByteArray) = bs [112, 118, 58] from rfl, show (⟨#[58]⟩ : ByteArray) = bs [58] from rfl, bs_app, bs_app, bs_app, bs_app, htx]
    unfold headT
    rw [if_neg (by rw [hk]; decide), if_neg (by rw [hk]; decide), if_neg (by rw [hk]; decide), if_pos hk]
    simp [wPv])

  have HST := Lib.hid (kp_box (W := w1.drew) hb1 ((Kp.refl [] w1).drew 1))
  have K1 := Lib.hid hk1
  have hjl : (bs (40 :: (joinC (c.inner.map Con.txt) ++ [41]))).size ≤ 4000000000 := by
    rw [bs_size]
    have := htl
    rw [htx, List.length_append] at this
    omega
  obtain ⟨c0, c1, c2, c3, c4, c5, c6⟩ := hb1.cells
  generalize bs c.txt = R at *
  generalize bs (40 :: (joinC (c.inner.map Con.txt) ++ [41])) = J at *
  generalize bs (dec2 c.slot ++ 47 :: dec2 c.tot) = SL at *
  clear g1 g2 g3 g4

  generalize bs c.id = I at *
  generalize bs c.lab = L at *
  have hkk : c.kind = 4 := hk
  rw [hk] at *
  have q0 : (⟨#[112, 118, 58]⟩ : ByteArray).size = 3 := rfl
  have q2 : (⟨#[58]⟩ : ByteArray).size = 1 := rfl
  have r1 := fun W : World => @run_add_str Tryd.prog W (⟨#[112, 118, 58]⟩ : ByteArray) I (by show _ + _ ≤ _; omega)
  obtain ⟨X1, x1⟩ : ∃ X, (⟨#[112, 118, 58]⟩ : ByteArray) ++ I = X := ⟨_, rfl⟩
  have z1 : X1.size ≤ 19 := by rw [← x1, ByteArray.size_append]; show _ + _ ≤ _; omega
  rw [x1] at r1 HF
  clear x1
  have r2 := fun W : World => @run_add_str Tryd.prog W X1 (⟨#[58]⟩ : ByteArray) (by show _ + _ ≤ _; omega)
  obtain ⟨X2, x2⟩ : ∃ X, X1 ++ (⟨#[58]⟩ : ByteArray) = X := ⟨_, rfl⟩
  have z2 : X2.size ≤ 20 := by rw [← x2, ByteArray.size_append]; show _ + _ ≤ _; omega
  rw [x2] at r2 HF
  clear x2
  have r3 := fun W : World => @run_add_str Tryd.prog W X2 SL (by show _ + _ ≤ _; omega)
  obtain ⟨X3, x3⟩ : ∃ X, X2 ++ SL = X := ⟨_, rfl⟩
  have z3 : X3.size ≤ 25 := by rw [← x3, ByteArray.size_append]; show _ + _ ≤ _; omega
  rw [x3] at r3 HF
  clear x3
  have r4 := fun W : World => @run_add_str Tryd.prog W X3 J (by show _ + _ ≤ _; omega)
  obtain ⟨X4, x4⟩ : ∃ X, X3 ++ J = X := ⟨_, rfl⟩
  have z4 : X4.size ≤ 4000000025 := by rw [← x4, ByteArray.size_append]; show _ + _ ≤ _; omega
  rw [x4] at r4 HF
  clear x4
  clear q0 q2
  clear hv hh ha hi htl htx hk hk1 hb1 hne ht h16 hkk
  go_enter Tryd.func26, Tryd.ntmps26
  go_wp2
  go_region_held3 (fun W => W.cell? ⟨A, 0, none⟩ = some (.int .i64 4) ∧ W.cell? ⟨A, 1, none⟩ = some (.string I) ∧ W.cell? ⟨A, 2, none⟩ = some (.string L) ∧ W.cell? ⟨A, 3, none⟩ = some (.int .i64 c.slot) ∧ W.cell? ⟨A, 4, none⟩ = some (.int .i64 c.tot) ∧ W.cell? ⟨A, 5, none⟩ = some (.int .i64 c.lst) ∧ W.cell? ⟨A, 6, none⟩ = some (.slice a c.inner.length n) ∧ Kp [] w1 W) (first | exact HST.out | assumption) (first
    | (go_at_call 35; refine Calls.mono (by with_reducible exact HSL.out _ (by assumption)) ?_; rintro e W ⟨rfl, hb⟩)
    | (go_at_call 37; refine Calls.mono (by with_reducible exact HINN.out _ (by assumption)) ?_; rintro e W ⟨rfl, hb⟩))
  all_goals
    go_wp2
    go_ret
    rw [HF.out]
    exact ⟨rfl, K1.out.trans (lastS (by assumption))⟩

set_option maxHeartbeats 4000000 in
set_option maxRecDepth 100000 in
theorem text5 {d : Nat} (hd : d ≤ 5) (ht : TextOK d) {Q : Nat → Prop} (c : Con) (a : Option Addr) (n : Nat) (w : World) (hk : c.kind = 5) (hv : valN (d + 1) c = true) (hh : CHas Q w (.slice a c.inner.length n) c.inner) :
    Calls Tryd.prog 26 #[.agg #[.int .i64 c.kind, .string (bs c.id), .string (bs c.lab), .int .i64 c.slot, .int .i64 c.tot, .int .i64 c.lst, .slice a c.inner.length n]] w fun r w' => r = .returned (.string (bs c.txt)) ∧ Kp [] w w' := by
  have hv1 := hv
  unfold valN at hv1
  rw [if_neg (by rw [hk]; decide)] at hv1
  simp only [Bool.and_eq_true] at hv1
  obtain ⟨⟨hi, hho⟩, ha⟩ := hv1
  have h16 := inner_len hho
  have hil : (bs c.id).size ≤ 16 := isID_len hi
  have hll : (bs c.lab).size ≤ 16 := lab_len hho
  have htl := Nat.le_trans (txt_len (d + 1) c hv) (tlen6 (d + 1) (by omega))

  obtain ⟨w1, hw1⟩ : ∃ w1, w.alloc (.cells #[.int .i64 c.kind, .string (bs c.id), .string (bs c.lab), .int .i64 c.slot, .int .i64 c.tot, .int .i64 c.lst, .slice a c.inner.length n] 24) = w1 := ⟨_, rfl⟩
  have hk1 : Kp [] w w1 := by rw [← hw1]; exact (Kp.refl [] w).alloc _
  have hb1 : BoxV w.heap.size (.int .i64 c.kind) (.string (bs c.id)) (.string (bs c.lab)) (.int .i64 c.slot) (.int .i64 c.tot) (.int .i64 c.lst) (.slice a c.inner.length n) w1 := by rw [← hw1]; exact al_new _ _
  obtain ⟨A, hA⟩ : ∃ A, w.heap.size = A := ⟨_, rfl⟩
  rw [hA] at hb1
  have hne : c.inner ≠ [] := by
    intro e
    unfold headOK at hho
    simp [hk, e] at hho
  have HINN := Lib.hid (fun W (hS : W.cell? ⟨A, 0, none⟩ = some (.int .i64 c.kind) ∧ W.cell? ⟨A, 1, none⟩ = some (.string (bs c.id)) ∧ W.cell? ⟨A, 2, none⟩ = some (.string (bs c.lab)) ∧ W.cell? ⟨A, 3, none⟩ = some (.int .i64 c.slot) ∧ W.cell? ⟨A, 4, none⟩ = some (.int .i64 c.tot) ∧ W.cell? ⟨A, 5, none⟩ = some (.int .i64 c.lst) ∧ W.cell? ⟨A, 6, none⟩ = some (.slice a c.inner.length n) ∧ Kp [] w1 W) => ((innerText_any (Q := Q) (by omega) ht c a n W hne h16 ha (kp_has hh (hk1.trans hS.2.2.2.2.2.2.2))).mono fun r w' h => (⟨h.1, kp_box hb1 (hS.2.2.2.2.2.2.2.trans h.2)⟩ : r = _ ∧ w'.cell? ⟨A, 0, none⟩ = some (.int .i64 c.kind) ∧ w'.cell? ⟨A, 1, none⟩ = some (.string (bs c.id)) ∧ w'.cell? ⟨A, 2, none⟩ = some (.string (bs c.lab)) ∧ w'.cell? ⟨A, 3, none⟩ = some (.int .i64 c.slot) ∧ w'.cell? ⟨A, 4, none⟩ = some (.int .i64 c.tot) ∧ w'.cell? ⟨A, 5, none⟩ = some (.int .i64 c.lst) ∧ w'.cell? ⟨A, 6, none⟩ = some (.slice a c.inner.length n) ∧ Kp [] w1 w')))

  have htx : c.txt = headT c ++ 40 :: (joinC (c.inner.map Con.txt) ++ [41]) := by rw [txt_eq, if_neg (by rw [hk]; decide), if_neg (by rw [hk]; decide)]
  have HF := Lib.hid (show (⟨#[116, 97, 98, 108, 101, 58]⟩ : ByteArray) ++ bs c.id ++ bs (40 :: (joinC (c.inner.map Con.txt) ++ [41])) = bs c.txt by
    rw [show (⟨#[116, 97, 98, 108, 101, 58]⟩ : ByteArray) = bs [116, 97, 98, 108, 101, 58] from rfl, bs_app, bs_app, htx]
    unfold headT
    rw [if_neg (by rw [hk]; decide), if_neg (by rw [hk]; decide), if_neg (by rw [hk]; decide), if_neg (by rw [hk]; decide)]
    simp [wTable])

  have HST := Lib.hid (kp_box (W := w1.drew) hb1 ((Kp.refl [] w1).drew 1))
  have K1 := Lib.hid hk1
  have hjl : (bs (40 :: (joinC (c.inner.map Con.txt) ++ [41]))).size ≤ 4000000000 := by
    rw [bs_size]
    have := htl
    rw [htx, List.length_append] at this
    omega
  obtain ⟨c0, c1, c2, c3, c4, c5, c6⟩ := hb1.cells
  generalize bs c.txt = R at *
  generalize bs (40 :: (joinC (c.inner.map Con.txt) ++ [41])) = J at *

  generalize bs c.id = I at *
  generalize bs c.lab = L at *
  have hkk : c.kind = 5 := hk
  rw [hk] at *
  have q0 : (⟨#[116, 97, 98, 108, 101, 58]⟩ : ByteArray).size = 6 := rfl
  have r1 := fun W : World => @run_add_str Tryd.prog W (⟨#[116, 97, 98, 108, 101, 58]⟩ : ByteArray) I (by show _ + _ ≤ _; omega)
  obtain ⟨X1, x1⟩ : ∃ X, (⟨#[116, 97, 98, 108, 101, 58]⟩ : ByteArray) ++ I = X := ⟨_, rfl⟩
  have z1 : X1.size ≤ 22 := by rw [← x1, ByteArray.size_append]; show _ + _ ≤ _; omega
  rw [x1] at r1 HF
  clear x1
  have r2 := fun W : World => @run_add_str Tryd.prog W X1 J (by show _ + _ ≤ _; omega)
  obtain ⟨X2, x2⟩ : ∃ X, X1 ++ J = X := ⟨_, rfl⟩
  have z2 : X2.size ≤ 4000000022 := by rw [← x2, ByteArray.size_append]; show _ + _ ≤ _; omega
  rw [x2] at r2 HF
  clear x2
  clear q0
  clear hv hh ha hho hi htl htx hk hk1 hb1 hne ht h16 hkk
  go_enter Tryd.func26, Tryd.ntmps26
  go_wp2
  go_region_held3 (fun W => W.cell? ⟨A, 0, none⟩ = some (.int .i64 5) ∧ W.cell? ⟨A, 1, none⟩ = some (.string I) ∧ W.cell? ⟨A, 2, none⟩ = some (.string L) ∧ W.cell? ⟨A, 3, none⟩ = some (.int .i64 c.slot) ∧ W.cell? ⟨A, 4, none⟩ = some (.int .i64 c.tot) ∧ W.cell? ⟨A, 5, none⟩ = some (.int .i64 c.lst) ∧ W.cell? ⟨A, 6, none⟩ = some (.slice a c.inner.length n) ∧ Kp [] w1 W) (first | exact HST.out | assumption) (first
    | (go_at_call 37; refine Calls.mono (by with_reducible exact HINN.out _ (by assumption)) ?_; rintro e W ⟨rfl, hb⟩))
  all_goals
    go_wp2
    go_ret
    rw [HF.out]
    exact ⟨rfl, K1.out.trans (lastS (by assumption))⟩

set_option maxHeartbeats 1000000 in
set_option maxRecDepth 100000 in
theorem text0 (c : Con) (a : Option Addr) (n : Nat) (w : World) (hk : c.kind = 0) :
    Calls Tryd.prog 26 #[.agg #[.int .i64 c.kind, .string (bs c.id), .string (bs c.lab), .int .i64 c.slot, .int .i64 c.tot, .int .i64 c.lst, .slice a c.inner.length n]] w fun r w' => r = .returned (.string (bs c.txt)) ∧ Kp [] w w' := by
  have HT := Lib.hid (show c.txt = [] by rw [txt_eq, if_pos hk])
  rw [hk]
  clear hk
  go_enter Tryd.func26, Tryd.ntmps26
  go_wp2
  go_ret
  rw [HT.out]
  exact ⟨rfl, (Kp.refl [] w).alloc _⟩
/-- THE TEXT OF A VALID CONTENT. -/
theorem text_any : ∀ d, d ≤ 6 → TextOK d
  | 0, _ => fun Q c a n W hv _ => by
    refine text0 c a n W ?_
    unfold valN at hv
    split at hv
    · assumption
    · cases hv
  | d + 1, hd => fun Q c a n W hv hh => by
    have ih := text_any d (by omega)
    by_cases h0 : c.kind = 0
    · exact text0 c a n W h0
    by_cases h1 : c.kind = 1
    · exact text1 (by omega) ih c a n W h1 hv hh
    by_cases h2 : c.kind = 2
    · exact text2 (by omega) ih c a n W h2 hv hh
    by_cases h3 : c.kind = 3
    · exact text3 (by omega) ih c a n W h3 hv hh
    by_cases h4 : c.kind = 4
    · exact text4 (by omega) ih c a n W h4 hv hh
    by_cases h5 : c.kind = 5
    · exact text5 (by omega) ih c a n W h5 hv hh
    · unfold valN at hv
      rw [if_neg h0] at hv
      unfold headOK at hv
      simp [h1, h2, h3, h4, h5] at hv
end Go.Proofs.YtoohnjlghjapnaaDoor
