/- Whether the fields of a content fit. -/
import Derived.Test.YtoohnjlghjapnaaDoorB
namespace Go.Proofs.YtoohnjlghjapnaaDoor
open Go.RowKit

theorem cells7 {w : World} {b : Nat} {v0 v1 v2 v3 v4 v5 v6 : Value} {t : TypeId} (h : w.heap[b]? = some (.cells #[v0, v1, v2, v3, v4, v5, v6] t (0, 0))) :
    w.cell? ⟨b, 0, none⟩ = some v0 ∧ w.cell? ⟨b, 1, none⟩ = some v1 ∧ w.cell? ⟨b, 2, none⟩ = some v2 ∧ w.cell? ⟨b, 3, none⟩ = some v3 ∧ w.cell? ⟨b, 4, none⟩ = some v4 ∧ w.cell? ⟨b, 5, none⟩ = some v5 ∧ w.cell? ⟨b, 6, none⟩ = some v6 := by
  refine ⟨?_, ?_, ?_, ?_, ?_, ?_, ?_⟩ <;> rw [cell_of_row _ _ _ _ _ _ h] <;> rfl
theorem al_size (w : World) (o : Obj) : (w.alloc o).heap.size = w.heap.size + 1 := by unfold World.alloc; exact Array.size_push ..
theorem al_new (w : World) (o : Obj) : (w.alloc o).heap[w.heap.size]? = some o := by unfold World.alloc; exact Array.getElem?_push_size ..
theorem al_old (w : World) (o : Obj) {k : Nat} (h : k < w.heap.size) : (w.alloc o).heap[k]? = w.heap[k]? := by unfold World.alloc; exact Array.getElem?_push_lt h |>.trans (Array.getElem?_eq_getElem h).symm
theorem ret_b {x y : Bool} (h : x = y) : Ending.returned (.bool x) = .returned (.bool y) := by rw [h]
theorem nat_beq (m n : Nat) : ((m : Int) == (n : Int)) = (m == n) := by rw [Bool.eq_iff_iff]; simp only [beq_iff_eq]; omega
def innF (k : Int) (n : Nat) : Bool := if k = 0 ∨ k = 1 then n == 0 else if k = 2 ∨ k = 3 then n == 1 else if k = 4 ∨ k = 5 then decide (1 ≤ n) && decide (n ≤ 16) else false
def idF (k : Int) (i : List UInt8) : Bool := if k = 0 then i.isEmpty else isID i
def labF (k : Int) (l : List UInt8) : Bool := l.isEmpty || (k == 1 && isID l)
def slotF (k s t : Int) : Bool := if k = 2 ∨ k = 4 then (decide (1 ≤ t) && decide (t ≤ 16)) && (decide (1 ≤ s) && decide (s ≤ t)) else s == 0 && t == 0
def leastF (k t e : Int) : Bool := if k = 2 then decide (1 ≤ e) && decide (e ≤ t) else e == 0
def agg7 (k : Int) (i lab : ByteArray) (s t e : Int) (a : Option Addr) (n c : Nat) : Value := .agg #[.int .i64 k, .string i, .string lab, .int .i64 s, .int .i64 t, .int .i64 e, .slice a n c]

section
variable (k : Int) (i lab : ByteArray) (s t e : Int) (a : Option Addr) (n c : Nat) (w : World)

def W7 : World := w.alloc (.cells #[.int .i64 k, .string i, .string lab, .int .i64 s, .int .i64 t, .int .i64 e, .slice a n c] 24)
set_option maxHeartbeats 1000000 in
set_option maxRecDepth 100000 in
theorem innerFits_any : Calls Tryd.prog 54 #[.agg #[.int .i64 k, .string i, .string lab, .int .i64 s, .int .i64 t, .int .i64 e, .slice a n c]] w fun r w' => r = .returned (.bool (innF k n)) ∧ Kp [] w w' := by
  have hz : ((n : Int) == 0) = (n == 0) := nat_beq n 0
  have ho : ((n : Int) == 1) = (n == 1) := nat_beq n 1
  have h1 : decide (1 ≤ (n : Int)) = decide (1 ≤ n) := by rw [Bool.eq_iff_iff]; simp; omega
  have h2 : decide ((n : Int) ≤ 16) = decide (n ≤ 16) := by rw [Bool.eq_iff_iff]; simp; omega
  have HZ := Lib.hid hz
  have HO := Lib.hid ho
  have H1 := Lib.hid h1
  have H2 := Lib.hid h2
  clear hz ho h1 h2
  go_enter Tryd.func54, Tryd.ntmps54
  go_wp2_with (go_at_call 69; refine (isCount_any _ _ _).mono ?_; rintro r w' ⟨rfl, rfl⟩)
  all_goals
    go_ret
    refine ⟨ret_b ?_, (Kp.refl [] w).alloc _⟩
    have hz := HZ.out
    have ho := HO.out
    have h1 := H1.out
    have h2 := H2.out
    simp_all [innF]
set_option maxHeartbeats 1000000 in
set_option maxRecDepth 100000 in
theorem idFits_any (hi : i.size ≤ 9223372036854775807) : Calls Tryd.prog 55 #[.agg #[.int .i64 k, .string i, .string lab, .int .i64 s, .int .i64 t, .int .i64 e, .slice a n c]] w fun r w' => r = .returned (.bool (idF k i.data.toList)) ∧ Kp [] w w' := by
  have HI := Lib.hid (isID_any i · hi)
  clear hi
  go_enter Tryd.func55, Tryd.ntmps55
  go_wp2_with (go_at_call 70; refine (HI.out _).mono ?_; rintro r w' ⟨rfl, rfl⟩)
  all_goals
    go_ret
    refine ⟨ret_b ?_, (Kp.refl [] w).alloc _⟩
    simp_all [idF, Lib.toList_data]
set_option maxHeartbeats 1000000 in
set_option maxRecDepth 100000 in
theorem labelFits_any (hi : lab.size ≤ 9223372036854775807) : Calls Tryd.prog 56 #[.agg #[.int .i64 k, .string i, .string lab, .int .i64 s, .int .i64 t, .int .i64 e, .slice a n c]] w fun r w' => r = .returned (.bool (labF k lab.data.toList)) ∧ Kp [] w w' := by
  have HI := Lib.hid (isID_any lab · hi)
  clear hi
  go_enter Tryd.func56, Tryd.ntmps56
  go_wp2_with (go_at_call 70; refine (HI.out _).mono ?_; rintro r w' ⟨rfl, rfl⟩)
  all_goals
    go_ret
    refine ⟨ret_b ?_, (Kp.refl [] w).alloc _⟩
    simp_all [labF, Lib.toList_data]
set_option maxHeartbeats 1000000 in
set_option maxRecDepth 100000 in
theorem slotFits_any : Calls Tryd.prog 57 #[.agg #[.int .i64 k, .string i, .string lab, .int .i64 s, .int .i64 t, .int .i64 e, .slice a n c]] w fun r w' => r = .returned (.bool (slotF k s t)) ∧ Kp [] w w' := by
  go_enter Tryd.func57, Tryd.ntmps57
  go_wp2_with (go_at_call 69; refine (isCount_any _ _ _).mono ?_; rintro r w' ⟨rfl, rfl⟩)
  all_goals
    go_ret
    refine ⟨ret_b ?_, (Kp.refl [] w).alloc _⟩
    simp_all [slotF] <;> omega
set_option maxHeartbeats 1000000 in
set_option maxRecDepth 100000 in
theorem leastFits_any : Calls Tryd.prog 58 #[.agg #[.int .i64 k, .string i, .string lab, .int .i64 s, .int .i64 t, .int .i64 e, .slice a n c]] w fun r w' => r = .returned (.bool (leastF k t e)) ∧ Kp [] w w' := by
  go_enter Tryd.func58, Tryd.ntmps58
  go_wp2_with (go_at_call 69; refine (isCount_any _ _ _).mono ?_; rintro r w' ⟨rfl, rfl⟩)
  all_goals
    go_ret
    refine ⟨ret_b ?_, (Kp.refl [] w).alloc _⟩
    simp_all [leastF]

/-- The box of a content. -/
def Box (A : Nat) (W : World) : Prop := W.heap[A]? = some (.cells #[.int .i64 k, .string i, .string lab, .int .i64 s, .int .i64 t, .int .i64 e, .slice a n c] 24 (0, 0))
variable {k i lab s t e a n c} in
theorem Box.kp {A : Nat} {W W' : World} {S : List Nat} (h : Box k i lab s t e a n c A W) (hk : Kp S W W') (hA : A ∉ S) : Box k i lab s t e a n c A W' := (hk.block A (block_lt h) hA).trans h
variable {k i lab s t e a n c} in
theorem Box.cells {A : Nat} {W : World} (h : Box k i lab s t e a n c A W) : W.cell? ⟨A, 0, none⟩ = some (.int .i64 k) ∧ W.cell? ⟨A, 1, none⟩ = some (.string i) ∧ W.cell? ⟨A, 2, none⟩ = some (.string lab) ∧ W.cell? ⟨A, 3, none⟩ = some (.int .i64 s) ∧ W.cell? ⟨A, 4, none⟩ = some (.int .i64 t) ∧ W.cell? ⟨A, 5, none⟩ = some (.int .i64 e) ∧ W.cell? ⟨A, 6, none⟩ = some (.slice a n c) := cells7 h
/-- A call that leaves all as it was leaves the box. -/
theorem box_call {f : Nat} {args : Array Value} {A : Nat} {W : World} {b : Bool} (h : Calls Tryd.prog f args W fun r w' => r = .returned (.bool b) ∧ Kp [] W w') (hb : Box k i lab s t e a n c A W) :
    Calls Tryd.prog f args W fun r w' => r = .returned (.bool b) ∧ Kp [] W w' ∧ Box k i lab s t e a n c A w' :=
  h.mono fun r w' ⟨h1, h2⟩ => ⟨h1, h2, hb.kp h2 (by simp)⟩
def fitF : Bool := innF k n && idF k i.data.toList && labF k lab.data.toList && slotF k s t && leastF k t e
set_option maxHeartbeats 2000000 in
set_option maxRecDepth 100000 in
theorem fieldsFit_any (hi : i.size ≤ 9223372036854775807) (hl : lab.size ≤ 9223372036854775807) : Calls Tryd.prog 40 #[.agg #[.int .i64 k, .string i, .string lab, .int .i64 s, .int .i64 t, .int .i64 e, .slice a n c]] w fun r w' => r = .returned (.bool (fitF k i lab s t e n)) ∧ Kp [] w w' := by
  have H1 := Lib.hid (fun W A hb => box_call k i lab s t e a n c (A := A) (innerFits_any k i lab s t e a n c W) hb)
  have H2 := Lib.hid (fun W A hb => box_call k i lab s t e a n c (A := A) (idFits_any k i lab s t e a n c W hi) hb)
  have H3 := Lib.hid (fun W A hb => box_call k i lab s t e a n c (A := A) (labelFits_any k i lab s t e a n c W hl) hb)
  have H4 := Lib.hid (fun W A hb => box_call k i lab s t e a n c (A := A) (slotFits_any k i lab s t e a n c W) hb)
  have H5 := Lib.hid (fun W A hb => box_call k i lab s t e a n c (A := A) (leastFits_any k i lab s t e a n c W) hb)
  unfold fitF
  generalize innF k n = b1 at *
  generalize idF k i.data.toList = b2 at *
  generalize labF k lab.data.toList = b3 at *
  generalize slotF k s t = b4 at *
  generalize leastF k t e = b5 at *
  obtain ⟨w1, hw1⟩ : ∃ w1, w.alloc (.cells #[.int .i64 k, .string i, .string lab, .int .i64 s, .int .i64 t, .int .i64 e, .slice a n c] 24) = w1 := ⟨_, rfl⟩
  have hb1 : Box k i lab s t e a n c w.heap.size w1 := by rw [← hw1]; exact al_new _ _
  have hk1 : Kp [] w w1 := by rw [← hw1]; exact (Kp.refl [] w).alloc _
  obtain ⟨A, hA⟩ : ∃ A, w.heap.size = A := ⟨_, rfl⟩
  rw [hA] at hb1
  obtain ⟨c0, c1, c2, c3, c4, c5, c6⟩ := hb1.cells
  have B1 := Lib.hid hb1
  have K1 := Lib.hid hk1
  clear hb1 hk1 hi hl
  go_enter Tryd.func40, Tryd.ntmps40
  go_wp2_with fail
  refine (H1.out _ _ B1.out).mono ?_
  rintro r w2 ⟨rfl, hk2, hb2⟩
  obtain ⟨d0, d1, d2, d3, d4, d5, d6⟩ := hb2.cells
  have B2 := Lib.hid hb2
  have K2 := Lib.hid (K1.out.trans hk2)
  clear hb2 hk2 c0 c1 c2 c3 c4 c5 c6
  cases b1 with
  | false =>
    go_wp2
    go_ret
    exact ⟨ret_b (by simp), K2.out⟩
  | true =>
  go_wp2_with fail
  refine (H2.out _ _ B2.out).mono ?_
  rintro r w3 ⟨rfl, hk3, hb3⟩
  obtain ⟨c0, c1, c2, c3, c4, c5, c6⟩ := hb3.cells
  have B3 := Lib.hid hb3
  have K3 := Lib.hid (K2.out.trans hk3)
  clear hb3 hk3 d0 d1 d2 d3 d4 d5 d6
  cases b2 with
  | false =>
    go_wp2
    go_ret
    exact ⟨ret_b (by simp), K3.out⟩
  | true =>
  go_wp2_with fail
  refine (H3.out _ _ B3.out).mono ?_
  rintro r w4 ⟨rfl, hk4, hb4⟩
  obtain ⟨d0, d1, d2, d3, d4, d5, d6⟩ := hb4.cells
  have B4 := Lib.hid hb4
  have K4 := Lib.hid (K3.out.trans hk4)
  clear hb4 hk4 c0 c1 c2 c3 c4 c5 c6
  cases b3 with
  | false =>
    go_wp2
    go_ret
    exact ⟨ret_b (by simp), K4.out⟩
  | true =>
  go_wp2_with fail
  refine (H4.out _ _ B4.out).mono ?_
  rintro r w5 ⟨rfl, hk5, hb5⟩
  obtain ⟨c0, c1, c2, c3, c4, c5, c6⟩ := hb5.cells
  have B5 := Lib.hid hb5
  have K5 := Lib.hid (K4.out.trans hk5)
  clear hb5 hk5 d0 d1 d2 d3 d4 d5 d6
  cases b4 with
  | false =>
    go_wp2
    go_ret
    exact ⟨ret_b (by simp), K5.out⟩
  | true =>
  go_wp2_with fail
  refine (H5.out _ _ B5.out).mono ?_
  rintro r w6 ⟨rfl, hk6, hb6⟩
  have K6 := Lib.hid (K5.out.trans hk6)
  clear hb6 hk6
  go_wp2
  go_ret
  exact ⟨ret_b (by simp), K6.out⟩
end
end Go.Proofs.YtoohnjlghjapnaaDoor
