/- The tape's pieces; SubstituteFormats: the walk; arguments that are lists of pieces. -/
import Derived.Test.YtfpkppgecmbglaaGreatDoorY
import Derived.Test.YtfpkppgecmbglaaGreatDoorV
import Derived.Deep.CutBlock
import Derived.Test.YtfpkppgecmbglaaGreatDoorZS2
import Derived.Test.YtfpkppgecmbglaaGreatDoorFrame
import Derived.Test.YtfpkppgecmbglaaGreatDoorZF
import Derived.Deep.Slices
import Derived.Deep.Fields
import Derived.ChangeSame
namespace Go.Proofs.YtfpkppgecmbglaaGreatDoor
open Go.RowKit

theorem one_bd (B : Nat) {w : World} {tb k : Nat} (xs : List (List UInt8)) (h1 : 1 ≤ xs.length) (h2 : xs.length ≤ 1000000) (hk : k ≤ 1000000) (h : Tp w tb k) (hx : ∀ x ∈ xs, x.length ≤ B) :
    Calls Tryz.prog 28 #[.pointer (some ⟨tb, 0, none⟩), .slice (some ⟨w.heap.size, 0, none⟩) xs.length xs.length] (w.alloc (.cells (xs.map fun x => Value.string (bs x)).toArray 9)) fun e w' =>
      ∃ x : List UInt8, x.length ≤ B ∧ e = .returned (.string (bs x)) ∧ Tp w' tb (k + 1) ∧ Kp [tb] w w' :=
  (one_new xs h1 h2 hk h).mono fun _ _ ⟨x, h, r⟩ => ⟨x, hx x h, r⟩
theorem oneP0 {w : World} {tb k : Nat} (hk : k ≤ 1000000) (h : Tp w tb k) : Calls Tryz.prog 28 #[.pointer (some ⟨tb, 0, none⟩), .slice (some ⟨w.heap.size, 0, none⟩) 5 5] (w.alloc (.cells #[.string ⟨#[97]⟩, .string ⟨#[65, 36, 37]⟩, .string ⟨#[123, 49, 125]⟩, .string ⟨#[45]⟩, .string ⟨#[122, 57]⟩] 9)) fun e w' =>
    ∃ x : List UInt8, x.length ≤ 10 ∧ e = .returned (.string (bs x)) ∧ Tp w' tb (k + 1) ∧ Kp [tb] w w' := one_bd 10 [[97], [65, 36, 37], [123, 49, 125], [45], [122, 57]] (by decide) (by decide) hk h (by decide)
theorem oneP1 {w : World} {tb k : Nat} (hk : k ≤ 1000000) (h : Tp w tb k) : Calls Tryz.prog 28 #[.pointer (some ⟨tb, 0, none⟩), .slice (some ⟨w.heap.size, 0, none⟩) 4 4] (w.alloc (.cells #[.string ⟨#[]⟩, .string ⟨#[120]⟩, .string ⟨#[97, 32, 98]⟩, .string ⟨#[10]⟩] 9)) fun e w' =>
    ∃ x : List UInt8, x.length ≤ 10 ∧ e = .returned (.string (bs x)) ∧ Tp w' tb (k + 1) ∧ Kp [tb] w w' := one_bd 10 [[], [120], [97, 32, 98], [10]] (by decide) (by decide) hk h (by decide)
theorem nx2 {w : World} {tb k : Nat} (hk : k ≤ 1000000) (h : Tp w tb k) : Calls Tryz.prog 27 #[.pointer (some ⟨tb, 0, none⟩), .int .i64 2] w fun e w' => ∃ r : Nat, r < 2 ∧ e = .returned (.int .i64 r) ∧ Tp w' tb (k + 1) ∧ Kp [tb] w w' := next_kp 2 (by decide) (by decide) hk h
theorem nx4 {w : World} {tb k : Nat} (hk : k ≤ 1000000) (h : Tp w tb k) : Calls Tryz.prog 27 #[.pointer (some ⟨tb, 0, none⟩), .int .i64 4] w fun e w' => ∃ r : Nat, r < 4 ∧ e = .returned (.int .i64 r) ∧ Tp w' tb (k + 1) ∧ Kp [tb] w w' := next_kp 4 (by decide) (by decide) hk h
theorem nx5 {w : World} {tb k : Nat} (hk : k ≤ 1000000) (h : Tp w tb k) : Calls Tryz.prog 27 #[.pointer (some ⟨tb, 0, none⟩), .int .i64 5] w fun e w' => ∃ r : Nat, r < 5 ∧ e = .returned (.int .i64 r) ∧ Tp w' tb (k + 1) ∧ Kp [tb] w w' := next_kp 5 (by decide) (by decide) hk h
theorem nx11 {w : World} {tb k : Nat} (hk : k ≤ 1000000) (h : Tp w tb k) : Calls Tryz.prog 27 #[.pointer (some ⟨tb, 0, none⟩), .int .i64 11] w fun e w' => ∃ r : Nat, r < 11 ∧ e = .returned (.int .i64 r) ∧ Tp w' tb (k + 1) ∧ Kp [tb] w w' := next_kp 11 (by decide) (by decide) hk h
theorem nx14 {w : World} {tb k : Nat} (hk : k ≤ 1000000) (h : Tp w tb k) : Calls Tryz.prog 27 #[.pointer (some ⟨tb, 0, none⟩), .int .i64 14] w fun e w' => ∃ r : Nat, r < 14 ∧ e = .returned (.int .i64 r) ∧ Tp w' tb (k + 1) ∧ Kp [tb] w w' := next_kp 14 (by decide) (by decide) hk h
theorem nx16 {w : World} {tb k : Nat} (hk : k ≤ 1000000) (h : Tp w tb k) : Calls Tryz.prog 27 #[.pointer (some ⟨tb, 0, none⟩), .int .i64 16] w fun e w' => ∃ r : Nat, r < 16 ∧ e = .returned (.int .i64 r) ∧ Tp w' tb (k + 1) ∧ Kp [tb] w w' := next_kp 16 (by decide) (by decide) hk h
theorem nx103 {w : World} {tb k : Nat} (hk : k ≤ 1000000) (h : Tp w tb k) : Calls Tryz.prog 27 #[.pointer (some ⟨tb, 0, none⟩), .int .i64 103] w fun e w' => ∃ r : Nat, r < 103 ∧ e = .returned (.int .i64 r) ∧ Tp w' tb (k + 1) ∧ Kp [tb] w w' := next_kp 103 (by decide) (by decide) hk h
/-- A piece in its box, while it is made, beside the pieces that are made. -/
structure BxS (w : World) (tb P B : Nat) (v : Value) (xs : List Gp) (q : Nat) (wx : World) (x : Gp) : Prop where
  t : x.text.length ≤ 10
  p : PAt wx P x
  T : Tp wx tb q
  k : Kp [tb] w wx
  a : tb < P
  b : w.heap.size ≤ P
  o : gpT.Own wx B v xs
  n : ∀ b, v.ownBlock = some b → tb < b ∧ b < P
section
variable {w wx w' : World} {tb P B q q' : Nat} {v : Value} {xs : List Gp} {x y : Gp}
theorem BxS.step (h : BxS w tb P B v xs q wx x) (hT : Tp w' tb q') (hk : Kp [tb] wx w') : BxS w tb P B v xs q' w' x :=
  ⟨h.t, h.p.kp hk (by have := h.a; simp; omega), hT, h.k.trans hk, h.a, h.b, h.o.kp hk (fun b hb => by have := (h.n b hb).1; simp; omega), h.n⟩
theorem BxS.set (h : BxS w tb P B v xs q wx x) (o : Nat) (u : Value) (hy : PAt (wx.setCell ⟨P, o, none⟩ u) P y) (ht : y.text.length ≤ 10) : BxS w tb P B v xs q (wx.setCell ⟨P, o, none⟩ u) y :=
  ⟨ht, hy, h.T.kp ((Kp.refl [P] wx).setCell (p := ⟨P, o, none⟩) (.inl (by simp)) u) (by have := h.a; simp; omega), h.k.setCell (p := ⟨P, o, none⟩) (.inr h.b) u, h.a, h.b, h.o.set (p := ⟨P, o, none⟩) (fun b hb => by have := (h.n b hb).2; show b ≠ P; omega) u, h.n⟩
theorem BxS.cells {k n : Int} {t : List UInt8} {m : Bool} (h : BxS w tb P B v xs q wx ⟨k, t, n, m⟩) : wx.cell? ⟨P, 0, none⟩ = some (.int .i64 k) ∧ wx.cell? ⟨P, 1, none⟩ = some (.string (bs t)) ∧ wx.cell? ⟨P, 2, none⟩ = some (.int .i64 n) ∧ wx.cell? ⟨P, 3, none⟩ = some (.bool m) := h.p.cells
theorem BxS.frz (h : BxS w tb P B v xs q wx x) (o : Nat) : wx.frozen? ⟨P, o, none⟩ = false := h.p.frz
end
theorem kp_grownT {tb : Nat} {w W W' : World} {ob : Option Nat} (h : Kp [tb] w W) (hg : W.grownBy W' ob) (hv : ∀ b, ob = some b → w.heap.size ≤ b) : Kp [tb] w W' :=
  ⟨hg.os.trans h.os, hg.tape.trans h.tape, hg.output.trans h.output, Nat.le_trans h.size hg.size, fun k hk hn => (hg.block k (Nat.lt_of_lt_of_le hk h.size) fun e => by have := hv k e.symm; omega).trans (h.block k hk hn)⟩
def PiecesPost (tb k : Nat) (w : World) (e : Ending) (w' : World) : Prop := ∃ (v : Value) (xs : List Gp) (q : Nat), e = .returned v ∧ Hid (gpT.Own w' w.heap.size v xs) ∧ Hid (xs.length ≤ 4 ∧ ∀ x ∈ xs, x.text.length ≤ 10) ∧ Hid (q ≤ k + 60) ∧ Hid (Tp w' tb q) ∧ Hid (Kp [tb] w w')
set_option maxHeartbeats 16000000 in
set_option maxRecDepth 100000 in
theorem pieces_any {w : World} {tb k : Nat} (hk : k ≤ 1000) (h : Tp w tb k) : Calls Tryz.prog 17 #[.pointer (some ⟨tb, 0, none⟩)] w (PiecesPost tb k w) := by
  have HN := Lib.hid (show Calls Tryz.prog 27 #[.pointer (some ⟨tb, 0, none⟩), .int .i64 5] w (fun e w' => ∃ r : Nat, r < 5 ∧ e = .returned (.int .i64 r) ∧ Tp w' tb (k + 1) ∧ Kp [tb] w w') from next_kp 5 (by decide) (by decide) (by omega) h)
  obtain ⟨B, hB⟩ : ∃ B, w.heap.size = B := ⟨_, rfl⟩
  have HON := Lib.hid (RT.Own.nil gpT)
  have HtB := Lib.hid (show tb < B from hB ▸ h.lt)
  unfold PiecesPost
  rw [hB]
  have HB := Lib.hid hB
  clear h hB
  go_enter Tryz.func17, Tryz.ntmps17
  go_wp2_with fail
  refine Calls.mono (by with_reducible exact HN.out) ?_
  rintro e w1 ⟨r, hr, rfl, hT1, hk1⟩
  have HT1 := Lib.hid hT1
  have HK1 := Lib.hid hk1
  clear HN hT1 hk1
  go_wp2
  go_loopg [3, 4] r (fun g s3 s4 wx => ∃ (xs : List Gp) (q : Nat), s4 = .int .i64 (g : Int) ∧ xs.length + g ≤ 4 ∧ gpT.Own wx B s3 xs ∧ Hid (∀ x ∈ xs, x.text.length ≤ 10) ∧ Hid (q + 8 * g ≤ k + 41) ∧ Hid (Tp wx tb q) ∧ Hid (Kp [tb] w wx))
  case atStart => exact ⟨[], k + 1, rfl, by simp; omega, HON.out _ _, Lib.hid (by simp), Lib.hid (by omega), HT1, HK1⟩
  case round =>
    obtain ⟨xs, q, rfl, hxl, hO, hxs, hq, hT, hK⟩ := hrel
    cases gk with
    | zero =>
      have hz : ¬ ((0 : Int) < ((0 : Nat) : Int)) := by omega
      have HO := Lib.hid hO
      clear hO
      go_wp2
      go_ret
      first | exact ⟨xs, q, HO, Lib.hid ⟨by omega, hxs.out⟩, Lib.hid (by have := hq.out; omega), hT, hK⟩ | exact ⟨_, rfl, xs, HO, Lib.hid ⟨by omega, hxs.out⟩, q, Lib.hid (by have := hq.out; omega), hT, hK⟩
    | succ gk =>
      have hz : (0 : Int) < ((gk + 1 : Nat) : Int) := by omega
      have HO := Lib.hid hO
      obtain ⟨va, vc, rfl⟩ := hO.form
      have hqb : q ≤ 100000 := by have := hq.out; omega
      clear hO
      go_wp2_with fail
      refine Calls.mono (by with_reducible exact nx11 (by omega) hT.out) ?_
      rintro e w2 ⟨r2, hr2, rfl, hT2, hk2⟩
      obtain ⟨kd, hkd⟩ : ∃ z : Int, 1 + (r2 : Int) = z := ⟨_, rfl⟩
      have hw1 : wrap64 (1 + (r2 : Int)) = kd := by unfold wrap64; omega
      obtain ⟨P, hP⟩ : ∃ P, w2.heap.size = P := ⟨_, rfl⟩
      obtain ⟨W3, hW3⟩ : ∃ W3, w2.alloc (.cells #[.int .i64 kd, .string ⟨#[]⟩, .int .i64 0, .bool false] 61) = W3 := ⟨_, rfl⟩
      have hk3 : Kp [] w2 W3 := by rw [← hW3]; exact (Kp.refl [] w2).alloc _
      have hp3 : PAt W3 P ⟨kd, [], 0, false⟩ := by rw [← hW3, ← hP]; exact heap_alloc_last w2 _
      have hkw2 := hK.out.trans hk2
      have HX3 := Lib.hid (show BxS w tb P B (.slice va xs.length vc) xs (q + 1) W3 ⟨kd, [], 0, false⟩ from
        ⟨by simp, hp3, hT2.kp hk3 (by simp), hkw2.trans (hk3.mono (by simp)), by have := hT2.lt; omega, by have := hkw2.size; omega,
          HO.out.kp (hk2.trans (hk3.mono (by simp))) (fun b hb => by have := (HO.out.ge b hb).1; have := HtB.out; simp; omega), fun b hb => by have h1 := HO.out.ge b hb; have := HtB.out; have := hk2.size; omega⟩)
      obtain ⟨d0, d1, d2, d3⟩ := HX3.out.cells
      have HW3 := Lib.hid hW3
      have HP := Lib.hid hP
      have HKD := Lib.hid hkd
      clear hW3 hP hk3 hp3 hT2 hk2 HO hT hK hkw2 hkd
      go_upto_region 6 with fail
      rw [HKD.out, HP.out, HW3.out]
      go_upto_block 2 with fail
      clear d0 d1 d2 d3 hw1
      go_cut [] (fun wx => ∃ (x : Gp) (q' : Nat), Hid (q' ≤ q + 3) ∧ Hid (BxS w tb P B (.slice va xs.length vc) xs q' wx x))
      case first =>
        by_cases e1 : kd = 1
        · subst e1
          go_wp2_with fail
          refine Calls.mono (by with_reducible exact oneP0 (by omega) HX3.out.T) ?_
          rintro e w4 ⟨x, hx, rfl, hT4, hk4⟩
          have HX4 := Lib.hid (HX3.out.step hT4 hk4)
          obtain ⟨d0, d1, d2, d3⟩ := HX4.out.cells
          have hf := HX4.out.frz
          clear hT4 hk4
          go_wp2
          go_meet
          exact ⟨⟨1, x, 0, false⟩, q + 1 + 1, Lib.hid (by omega), Lib.hid (HX4.out.set 1 _ (PAt.put1 HX4.out.p x) hx)⟩
        have n1 : (kd == 1) = false := beq_eq_false_iff_ne.2 e1
        by_cases e7 : kd = 7
        · subst e7
          obtain ⟨d0, d1, d2, d3⟩ := HX3.out.cells
          have hf := HX3.out.frz
          go_wp2
          go_meet
          exact ⟨⟨7, [115, 105, 122, 101], 0, false⟩, q + 1, Lib.hid (by omega), Lib.hid (HX3.out.set 1 _ (PAt.put1 HX3.out.p [115, 105, 122, 101]) (by simp))⟩
        have n7 : (kd == 7) = false := beq_eq_false_iff_ne.2 e7
        by_cases e8 : kd = 8
        · subst e8
          obtain ⟨d0, d1, d2, d3⟩ := HX3.out.cells
          have hf := HX3.out.frz
          go_wp2
          go_meet
          exact ⟨⟨8, [73, 68, 95, 88], 0, false⟩, q + 1, Lib.hid (by omega), Lib.hid (HX3.out.set 1 _ (PAt.put1 HX3.out.p [73, 68, 95, 88]) (by simp))⟩
        have n8 : (kd == 8) = false := beq_eq_false_iff_ne.2 e8
        by_cases e9 : kd = 9
        · subst e9
          go_wp2_with fail
          refine Calls.mono (by with_reducible exact nx4 (by omega) HX3.out.T) ?_
          rintro e w4 ⟨r4, hr4, rfl, hT4, hk4⟩
          have HX4 := Lib.hid (HX3.out.step hT4 hk4)
          obtain ⟨d0, d1, d2, d3⟩ := HX4.out.cells
          have hf := HX4.out.frz
          clear hT4 hk4
          go_upto_region 15 with fail
          have hX5 := HX4.out.set 2 _ (PAt.put2 HX4.out.p (r4 : Int)) (by simp)
          generalize w4.setCell ⟨P, 2, none⟩ (.int .i64 (r4 : Int)) = w5 at *
          have HX5 := Lib.hid (show BxS w tb P B (.slice va xs.length vc) xs (q + 1 + 1) w5 ⟨9, [], (r4 : Int), false⟩ from hX5)
          clear d0 d1 d2 d3 hf hX5
          obtain ⟨d0, d1, d2, d3⟩ := HX5.out.cells
          by_cases h40 : r4 = 0
          · subst h40
            have hf := HX5.out.frz
            go_wp2
            go_meet
            exact ⟨⟨9, [], 0, false⟩, q + 1 + 1, Lib.hid (by omega), Lib.hid (HX5.out.set 3 _ (PAt.put3 HX5.out.p false) (by simp))⟩
          · have hgz : (0 : Int) < (r4 : Int) := by omega
            go_wp2_with fail
            refine Calls.mono (by with_reducible exact nx2 (by omega) HX5.out.T) ?_
            rintro e w6 ⟨r5, hr5, rfl, hT6, hk6⟩
            have HX6 := Lib.hid (HX5.out.step hT6 hk6)
            clear d0 d1 d2 d3 hT6 hk6
            obtain ⟨d0, d1, d2, d3⟩ := HX6.out.cells
            have hf := HX6.out.frz
            obtain ⟨b5, hb5⟩ : ∃ b, ((r5 : Int) == 0) = b := ⟨_, rfl⟩
            go_wp2
            go_meet
            exact ⟨⟨9, [], (r4 : Int), b5⟩, q + 1 + 1 + 1, Lib.hid (by omega), Lib.hid (HX6.out.set 3 _ (PAt.put3 HX6.out.p b5) (by simp))⟩
        have n9 : (kd == 9) = false := beq_eq_false_iff_ne.2 e9
        go_wp2
        go_meet
        exact ⟨⟨kd, [], 0, false⟩, q + 1, Lib.hid (by omega), HX3⟩
      obtain ⟨⟨xk, xt, xn, xm⟩, q2, hq2, hX⟩ := hcut
      have HX := hX
      have hq2b : q2 ≤ 100003 := by have := hq2.out; omega
      clear hX HX3
      go_wp2_with fail
      refine Calls.mono (by with_reducible exact nx16 (by omega) HX.out.T) ?_
      rintro e w7 ⟨r7, hr7, rfl, hT7, hk7⟩
      have HX7 := Lib.hid (HX.out.step hT7 hk7)
      clear hT7 hk7 HX
      go_upto_block 3 with fail
      go_cut [] (fun wx => ∃ (x : Gp) (q' : Nat), Hid (q' ≤ q2 + 3) ∧ Hid (BxS w tb P B (.slice va xs.length vc) xs q' wx x))
      case first =>
        by_cases e0 : r7 = 0
        · subst e0
          go_wp2_with fail
          refine Calls.mono (by with_reducible exact nx14 (by omega) HX7.out.T) ?_
          rintro e w8 ⟨r8, hr8, rfl, hT8, hk8⟩
          have HX8 := Lib.hid (HX7.out.step hT8 hk8)
          obtain ⟨d0, d1, d2, d3⟩ := HX8.out.cells
          have hf := HX8.out.frz
          obtain ⟨z8, hz8⟩ : ∃ z : Int, (r8 : Int) - 1 = z := ⟨_, rfl⟩
          have hw8 : wrap64 z8 = z8 := by unfold wrap64; omega
          clear hT8 hk8
          go_wp2
          go_meet
          exact ⟨⟨z8, xt, xn, xm⟩, q2 + 1 + 1, Lib.hid (by omega), Lib.hid (HX8.out.set 0 _ (PAt.put0 HX8.out.p z8) HX8.out.t)⟩
        have n0 : ((r7 : Int) == 0) = false := by rw [beq_eq_false_iff_ne]; omega
        by_cases e1 : r7 = 1
        · subst e1
          go_wp2_with fail
          refine Calls.mono (by with_reducible exact oneP1 (by omega) HX7.out.T) ?_
          rintro e w8 ⟨x, hx, rfl, hT8, hk8⟩
          have HX8 := Lib.hid (HX7.out.step hT8 hk8)
          obtain ⟨d0, d1, d2, d3⟩ := HX8.out.cells
          have hf := HX8.out.frz
          clear hT8 hk8
          go_wp2
          go_meet
          exact ⟨⟨xk, x, xn, xm⟩, q2 + 1 + 1, Lib.hid (by omega), Lib.hid (HX8.out.set 1 _ (PAt.put1 HX8.out.p x) hx)⟩
        have n1 : ((r7 : Int) == 1) = false := by rw [beq_eq_false_iff_ne]; omega
        by_cases e2 : r7 = 2
        · subst e2
          go_wp2_with fail
          refine Calls.mono (by with_reducible exact nx103 (by omega) HX7.out.T) ?_
          rintro e w8 ⟨r8, hr8, rfl, hT8, hk8⟩
          have HX8 := Lib.hid (HX7.out.step hT8 hk8)
          obtain ⟨z8, hz8⟩ : ∃ z : Int, (r8 : Int) - 2 = z := ⟨_, rfl⟩
          have hw8 : wrap64 z8 = z8 := by unfold wrap64; omega
          clear hT8 hk8
          go_wp2_with fail
          refine Calls.mono (by with_reducible exact nx2 (by omega) HX8.out.T) ?_
          rintro e w9 ⟨r9, hr9, rfl, hT9, hk9⟩
          have HX9 := Lib.hid (HX8.out.step hT9 hk9)
          obtain ⟨d0, d1, d2, d3⟩ := HX9.out.cells
          have hf := HX9.out.frz
          obtain ⟨b9, hb9⟩ : ∃ b, ((r9 : Int) == 0) = b := ⟨_, rfl⟩
          have hX1 := HX9.out.set 2 _ (PAt.put2 HX9.out.p z8) HX9.out.t
          have hf2 := hX1.frz
          obtain ⟨f0, f1, f2, f3⟩ := hX1.p.cells
          simp only at f0 f1 f2 f3
          have hX2 := hX1.set 3 _ (PAt.put3 hX1.p b9) HX9.out.t
          have HX2 := Lib.hid hX2
          clear hX1 hX2 hT9 hk9
          go_wp2
          go_meet
          exact ⟨_, q2 + 1 + 1 + 1, Lib.hid (by omega), HX2⟩
        have n2 : ((r7 : Int) == 2) = false := by rw [beq_eq_false_iff_ne]; omega
        go_wp2
        go_meet
        exact ⟨⟨xk, xt, xn, xm⟩, q2 + 1, Lib.hid (by omega), HX7⟩
      obtain ⟨⟨yk, yt, yn, ym⟩, q3, hq3, hX⟩ := hcut
      have HX := hX
      obtain ⟨d0, d1, d2, d3⟩ := HX.out.cells
      obtain ⟨Nb, hNb⟩ : ∃ n, wc.heap.size = n := ⟨_, rfl⟩
      obtain ⟨W5, hW5⟩ : ∃ W, wc.alloc (.cells #[.int .i64 yk, .string (bs yt), .int .i64 yn, .bool ym] 61) = W := ⟨_, rfl⟩
      have hk5 : Kp [] wc W5 := by rw [← hW5]; exact (Kp.refl [] wc).alloc _
      have HPN := Lib.hid (show W5.rangeAt Nb 0 (gpT.cf ⟨yk, yt, yn, ym⟩) from PAt.range (b := Nb) (by rw [← hW5, ← hNb]; exact heap_alloc_last wc _))
      have HO5 := Lib.hid (HX.out.o.kp0 hk5)
      have HK5 := Lib.hid (HX.out.k.trans (hk5.mono (by simp)))
      have HT5 := Lib.hid (HX.out.T.kp hk5 (by simp))
      have HNb := Lib.hid hNb
      have HW5 := Lib.hid hW5
      have HB5 := Lib.hid (show B ≤ W5.heap.size by rw [← HB.out]; exact HK5.out.size)
      have HTL := Lib.hid (show ∀ z ∈ xs ++ [(⟨yk, yt, yn, ym⟩ : Gp)], z.text.length ≤ 10 from fun z hz => by
        rcases List.mem_append.1 hz with hz | hz
        · exact hxs.out z hz
        · rw [List.mem_singleton] at hz; subst hz; exact HX.out.t)
      have HNB := Lib.hid HX.out.n
      have hqe : q3 + 8 * gk ≤ k + 41 := by have := hq.out; have := hq2.out; have := hq3.out; omega
      clear hX HX hk5 hNb hW5 hq2 hq3 hq
      go_wp2_with (at_builtin; rw [HNb.out, HW5.out]; refine wpList_append_r (r := gpT) rfl (.tmp 68) (.tmp 70) rfl B (.slice va xs.length vc) xs rfl HO5.out Nb 1 ⟨yk, yt, yn, ym⟩ rfl HPN.out (by omega) HB5.out ?_; intro v8 w8 hown8 hgr8; have HO8 := Lib.hid hown8; have HG8 := Lib.hid hgr8; clear hown8 hgr8)
      go_roundg gk
      case measure => omega
      case rel => exact ⟨xs ++ [⟨yk, yt, yn, ym⟩], q3, by go_num, by rw [List.length_append, List.length_singleton]; omega, HO8.out, HTL, Lib.hid hqe,
        Lib.hid (HT5.out.keep fun b hb => HG8.out.block b (Nat.lt_of_le_of_lt hb HT5.out.lt) (fun e => by have := (HNB.out b e.symm).1; omega)),
        Lib.hid (kp_grownT HK5.out HG8.out (fun b hb => by rw [HB.out]; exact (HO5.out.ge b hb).1))⟩
end Go.Proofs.YtfpkppgecmbglaaGreatDoor

namespace Go.Proofs.YtfpkppgecmbglaaGreatDoor
open Go.RowKit

set_option maxHeartbeats 16000000 in
set_option maxRecDepth 100000 in
theorem substituteFormats_walk {l0 : List Gp} (v : Value) (a : Option Addr) (n c : Nat) (w : World) (hE : Env w) (h0 : gpT.Has w v l0 ∧ ∀ x ∈ l0, x.text.length ≤ 1048576) (g : Ints w w.heap.size (.slice a n c)) : Calls Tryz.prog 4 #[v, .slice a n c] w fun e w' => e = .returned (.bool true) ∧ Below w.heap.size w w' := by
  have HKN := Lib.hid (known_any hE)
  obtain ⟨hh, hsz⟩ := h0
  obtain ⟨va, vc, rfl, -⟩ := hh.form
  obtain ⟨m, hm⟩ : ∃ m, l0.length = m := ⟨_, rfl⟩
  by_cases hraw : 30 < m
  · have hrz : (30 : Int) < (m : Int) := by omega
    rw [hm]
    clear hraw hE g hh hsz hm
    go_enter Tryz.func4, Tryz.ntmps4
    go_wp2_with (go_at_call 11; refine Calls.mono (by with_reducible exact HKN.out) ?_; rintro r w1 ⟨rfl, hkp⟩)
    go_ret
    exact ⟨rfl, hkp.below (Nat.le_refl _) (by simp)⟩
  have hrz : ¬ (30 : Int) < (m : Int) := by omega
  have HRW := Lib.hid (show m ≤ 30 by omega)
  obtain ⟨tb, htb⟩ : ∃ tb, w.heap.size = tb := ⟨_, rfl⟩
  obtain ⟨W0, hW0⟩ : ∃ W0, w.alloc (.cells #[.slice a n c, .int .i64 0] 27) = W0 := ⟨_, rfl⟩
  have hk0 : Kp [] w W0 := by rw [← hW0]; exact (Kp.refl [] w).alloc _
  have hT0 : Tp W0 tb 0 := ⟨_, by rw [← hW0, ← htb]; exact heap_alloc_last w _, by rw [← htb]; exact g.keep fun b hb => hk0.block b hb (by simp)⟩
  have h8 : 8 ≤ tb := by rw [← htb]; exact hE.size
  have HE := Lib.hid (show ∀ W, Kp [tb] w W → Env W from fun W hk => hE.kp hk (by intro x hx; simp at hx; omega))
  have HK0 := Lib.hid (hk0.mono (t := [tb]) (by simp))
  have HPc := Lib.hid (pieces_any (by omega) hT0)
  unfold PiecesPost at HPc
  have HTB := Lib.hid htb
  have HW0 := Lib.hid hW0
  have HH := Lib.hid hh
  have hob : ∀ b, (Value.slice va l0.length vc).ownBlock = some b → l0 ≠ [] → b < w.heap.size := fun b hb hne => by
    rcases hh with ⟨a', c', h1, h2⟩ | ⟨b', o', c', h1, h2, h3⟩
    · exact absurd h2 hne
    · rw [h1] at hb
      simp [Value.ownBlock] at hb
      omega
  have HOb := Lib.hid hob
  have HSZ := Lib.hid hsz
  have HM := Lib.hid hm
  rw [htb, hm]
  clear hE hk0 hT0 h8 g hW0 htb hraw HKN hh hob hsz hm
  go_enter Tryz.func4, Tryz.ntmps4
  go_wp2_with fail
  rw [HTB.out, HW0.out]
  refine Calls.mono (by with_reducible exact HPc.out) ?_
  rintro e w1 ⟨v1, xs, q1, rfl, ho1, hxs, hq1, hT1, hk1⟩
  obtain ⟨xa, xc, rfl⟩ := ho1.out.form
  obtain ⟨L, hL⟩ : ∃ L, w1.heap.size = L := ⟨_, rfl⟩
  obtain ⟨W3, hW3⟩ : ∃ W3, w1.alloc (.cells #[.slice va m vc, .slice xa xs.length xc] 29) = W3 := ⟨_, rfl⟩
  have hk3 : Kp [] w1 W3 := by rw [← hW3]; exact (Kp.refl [] w1).alloc _
  have hLb : W3.heap[L]? = some (.cells #[.slice va m vc, .slice xa xs.length xc] 29 (0, 0)) := by rw [← hW3, ← hL]; exact heap_alloc_last w1 _
  have HK3 := Lib.hid (HK0.out.trans (hk1.out.trans (hk3.mono (by simp))))
  have hraw3 : gpT.Has W3 (.slice va m vc) l0 := by
    rw [← HM.out]
    have hob2 := HOb.out
    by_cases hne : l0 = []
    · subst hne
      exact .inl ⟨_, _, rfl, rfl⟩
    · exact HH.out.kp HK3.out (fun b hb => by have h1 := hob2 b hb hne; have h2 := HTB.out; simp; omega)
  have HROW := Lib.hid (show ∀ i, i < 2 → ∃ (ya : Option Addr) (yn yc : Nat) (y : List Gp), y.length ≤ 40 ∧ (∀ z ∈ y, z.text.length ≤ 1048576) ∧ gpT.Has W3 (.slice ya yn yc) y ∧ ∀ W, Kp [] W3 W → W.cell? ⟨L, i, none⟩ = some (.slice ya yn yc) from fun i hi => by
    have h01 : i = 0 ∨ i = 1 := by omega
    rcases h01 with rfl | rfl
    · exact ⟨va, m, vc, l0, by have := HM.out; have := HRW.out; omega, HSZ.out, hraw3, fun W hk => by rw [cell_of_row _ _ _ _ _ _ ((hk.block L (block_lt hLb) (by simp)).trans hLb)]; rfl⟩
    · exact ⟨xa, xs.length, xc, xs, by have := hxs.out.1; omega, fun z hz => by have := hxs.out.2 z hz; omega, ho1.out.has.kp0 hk3, fun W hk => by rw [cell_of_row _ _ _ _ _ _ ((hk.block L (block_lt hLb) (by simp)).trans hLb)]; rfl⟩)
  have HE3 := Lib.hid (show ∀ W, Kp [] W3 W → Env W from fun W hk => HE.out W (HK3.out.trans (hk.mono (by simp))))
  have HW3 := Lib.hid hW3
  have HL := Lib.hid hL
  clear hT1 hk1 hk3 hLb hW3 hL HPc HE hraw3 ho1 hxs hq1 HOb
  go_upto_region 4 with fail
  rw [HL.out, HW3.out]
  go_wp2
  go_loopg [6, 7, 8, 9, 10] 2 (fun g s6 s7 s8 s9 s10 wx => ∃ i : Nat, s6 = .int .i64 (i : Int) ∧ i + g = 2 ∧ Hid (Kp [] W3 wx))
  case atStart => exact ⟨0, rfl, by omega, Lib.hid (Kp.refl _ _)⟩
  case round =>
    obtain ⟨i, rfl, hig, HK⟩ := hrel
    have HIG := Lib.hid hig
    cases gk with
    | zero =>
      have hiz : ¬ (i : Int) < (2 : Int) := by omega
      have HKF := Lib.hid (known_any (HE3.out _ HK.out))
      clear hig
      go_wp2_with (go_at_call 11; refine Calls.mono (by with_reducible exact HKF.out) ?_; rintro r w7 ⟨rfl, hkp⟩; have HK7 := Lib.hid (HK.out.trans hkp); clear hkp)
      go_ret
      exact ⟨rfl, (HK3.out.trans (HK7.out.mono (by simp))).below (by rw [HTB.out]; exact Nat.le_refl _) (by simp)⟩
    | succ gk =>
      have hil : i < 2 := by omega
      have hiz : (i : Int) < (2 : Int) := by omega
      obtain ⟨ya, yn, yc, y, hyl, hys, hyh, hx⟩ := HROW.out i hil
      have HCL := Lib.hid (show ∀ W, Kp [] wr W → W.cell? ⟨L, i, none⟩ = some (.slice ya yn yc) from fun W h => hx W (HK.out.trans h))
      have q0 := HCL.out _ (Kp.refl [] wr)
      have HP := Lib.hid fun W (h : Kp [] wr W) => format_any (HE3.out W (HK.out.trans h)) (by omega) (hyh.kp0 (HK.out.trans h)) (fun z hz => by have := hys z hz; omega)
      have HR := Lib.hid fun W (h : Kp [] wr W) => refFormat_any (HE3.out W (HK.out.trans h)) hyl (hyh.kp0 (HK.out.trans h)) hys
      obtain ⟨P, e, hpe⟩ : ∃ P e, formatE y = (P, e) := ⟨_, _, rfl⟩
      rw [hpe] at HP HR
      simp only at HP HR
      have HKr := Lib.hid (Kp.refl [] wr)
      clear hig hil hx hpe hyl hys hyh
      go_wp2_with (first
        | (go_at_call 18; refine Calls.mono (by with_reducible exact HP.out _ HKr.out) ?_; rintro r w6 ⟨rfl, hkp⟩; have HK6 := Lib.hid hkp; have q1 := HCL.out _ hkp; clear hkp)
        | (go_at_call 19; refine Calls.mono (by with_reducible exact HR.out _ HK6.out) ?_; rintro r w7 ⟨rfl, hkp⟩; have HK7 := Lib.hid (HK6.out.trans hkp); clear hkp))
      go_roundg gk
      case measure => omega
      case rel => exact ⟨i + 1, by go_num, by have := HIG.out; omega, Lib.hid (HK.out.trans HK7.out)⟩
end Go.Proofs.YtfpkppgecmbglaaGreatDoor

namespace Go.Proofs.YtfpkppgecmbglaaGreatDoor
open Go.ChangeShapes Go.WideShapes Go.ChangeAt Go.RowKit Go.Deep

/-- A list of things, one for each number below n. -/
theorem list_of {α : Type} {Q : Nat → α → Prop} : ∀ n : Nat, (∀ i, i < n → ∃ x, Q i x) → ∃ l : List α, l.length = n ∧ ∀ (j : Nat) x, l[j]? = some x → Q j x
  | 0, _ => ⟨[], rfl, fun j x h => by simp at h⟩
  | n + 1, h => by
    obtain ⟨l, hl, hq⟩ := list_of n fun i hi => h i (by omega)
    obtain ⟨x, hx⟩ := h n (by omega)
    refine ⟨l ++ [x], by simp [hl], fun j y hy => ?_⟩
    rcases Nat.lt_or_ge j l.length with hj | hj
    · rw [List.getElem?_append_left hj] at hy
      exact hq j y hy
    · rw [List.getElem?_append_right hj] at hy
      have hj0 : j - l.length = 0 := by
        have := (List.getElem?_eq_some_iff.1 hy).1
        simp at this
        omega
      rw [hj0] at hy
      simp at hy
      subst hy
      rw [show j = n by omega]
      exact hx
theorem bulk_part {H : Type} {d : DataW H} : ∀ {l : List (DataW H)}, d ∈ l → Rows.uptoBulk d ≤ Rows.uptoBulkAll l
  | x :: r, h => by
    simp only [Rows.uptoBulkAll]
    rcases List.mem_cons.1 h with e | e
    · subst e
      omega
    · have := bulk_part e
      omega
theorem four_of {α : Type} : ∀ {l : List α}, l.length = 4 → ∃ a b c d, l = [a, b, c, d]
  | [a, b, c, d], _ => ⟨a, b, c, d, rfl⟩
theorem cells61 : Tryz.prog.cellsOf 61 = 4 := by kernel_rfl
theorem cells4 : Tryz.prog.cellsOf 4 = 1 := by kernel_rfl
theorem fields61 : ∃ f0 f1 f2 f3 : Field, Tryz.prog.underlying 61 = some (.struct #[f0, f1, f2, f3]) ∧ f0.type = 3 ∧ f0.offset = 0 ∧ f1.type = 9 ∧ f1.offset = 1 ∧ f2.type = 3 ∧ f2.offset = 2 ∧ f3.type = 4 ∧ f3.offset = 3 := ⟨_, _, _, _, Tryz.underlying61, rfl, rfl, rfl, rfl, rfl, rfl, rfl, rfl⟩

section
variable {H : Type} {enc : TypeId × Value → H} {W : World} {base : Nat} {spare : Nat → Bool} {held : Bool}
theorem gp_bulk {fuel : Nat} {cs : List Value} {x : DataW H × List MemPlace} (h : DataW.trod enc Tryz.prog W base spare held fuel 61 cs = some x) : ∃ y : Gp, cs = gpT.cf y ∧ y.text.length ≤ Rows.uptoBulk x.1 := by
  obtain ⟨f0, f1, f2, f3, hs, t0, o0, t1, o1, t2, o2, t3, o3⟩ := fields61
  obtain ⟨xs, n, _, hx, hcl, hxl, hf⟩ := DataW.trod_struct hs h
  rw [cells61] at hcl
  have h0 := hf 0 f0 rfl
  have h1 := hf 1 f1 rfl
  have h2 := hf 2 f2 rfl
  have h3 := hf 3 f3 rfl
  rw [t0, o0, cells3] at h0
  rw [t1, o1, cells9] at h1
  rw [t2, o2, cells3] at h2
  rw [t3, o3, cells4] at h3
  have hl2 : xs.length = 4 := hxl
  obtain ⟨x0, x1, x2, x3, rfl⟩ := four_of hl2
  obtain ⟨z0, e0, y0, _⟩ := DataW.trod_int Tryz.underlying3 h0
  obtain ⟨s1, e1, y1, _⟩ := DataW.trod_string Tryz.underlying9 h1
  obtain ⟨z2, e2, y2, _⟩ := DataW.trod_int Tryz.underlying3 h2
  obtain ⟨b3, e3, y3⟩ := DataW.trod_bool Tryz.underlying4 h3
  obtain ⟨c0, c1, c2, c3, rfl⟩ := four_of hcl
  refine ⟨⟨z0, s1.data.toList, z2, b3⟩, ?_, ?_⟩
  · simp at e0 e1 e2 e3
    rw [e0, e1, e2, e3]
    show _ = [Value.int .i64 z0, Value.string (bs _), Value.int .i64 z2, Value.bool b3]
    rw [bs_of]
  · rw [hx, y0, y1, y2, y3]
    simp only [List.map_cons, List.map_nil, Rows.uptoBulk, Rows.uptoBulkAll]
    omega
theorem gps_bulk {fuel : Nat} {v : Value} {x : DataW H × List MemPlace} (h : DataW.trod enc Tryz.prog W base spare held fuel 29 [v] = some x) : ∃ l : List Gp, gpT.Has W v l ∧ ∀ a ∈ l, a.text.length ≤ Rows.uptoBulk x.1 := by
  rcases open_slice Tryz.underlying29 h with ⟨hcs, hx⟩ | ⟨ad, len, cap, m, k, D, Pl, hcs, _, hl, hm, hmm, hx, hi⟩
  · simp at hcs
    subst hcs
    exact ⟨[], .inl ⟨none, 0, rfl, rfl⟩, fun a ha => by cases ha⟩
  · simp at hcs
    subst hcs
    by_cases hn : len = 0
    · subst hn
      exact ⟨[], .inl ⟨_, _, rfl, rfl⟩, fun a ha => by cases ha⟩
    · have hlm : len ≤ m := by rw [hmm]; split <;> omega
      have hel : ∀ i, i < len → ∃ y : Gp, (∀ j, j < 4 → W.cell? ((ad.add (i * 4)).add j) = (gpT.cf y)[j]?) ∧ y.text.length ≤ Rows.uptoBulk x.1 := fun i hi' => by
        obtain ⟨cs', hc, ht⟩ := hi i (by omega)
        rw [cells61] at hc
        obtain ⟨_, _, hat⟩ := World.cells?_some hc
        obtain ⟨y, rfl, b1⟩ := gp_bulk ht
        have hb : Rows.uptoBulk (D i) ≤ Rows.uptoBulk x.1 := by
          have h1 : Rows.uptoBulk (D i) ≤ Rows.uptoBulkAll ((List.range len).map D) := bulk_part (List.mem_map.2 ⟨i, List.mem_range.2 hi', rfl⟩)
          rw [hx]
          simp only [Rows.uptoBulk]
          omega
        exact ⟨y, hat, Nat.le_trans b1 hb⟩
      obtain ⟨y0, hy0, _⟩ := hel 0 (by omega)
      have hy1 : W.cell? ((ad.add (0 * 4)).add 0) = some (.int .i64 y0.kind) := hy0 0 (by omega)
      have hplain : ∃ b o, ad = ⟨b, o, none⟩ ∧ b < W.heap.size := by
        rw [Nat.zero_mul] at hy1
        have e : (ad.add 0).add 0 = ad := by
          cases ad with
          | mk b o i => cases i <;> rfl
        rw [e] at hy1
        exact plain_addr (by rw [show ad.add 0 = ad by cases ad with | mk b o i => cases i <;> rfl]; exact hy1)
      obtain ⟨b, o, rfl, hb⟩ := hplain
      obtain ⟨l, hll, hq⟩ := list_of len hel
      refine ⟨l, .inr ⟨b, o, cap, by rw [hll], hb, fun j y hy i v hv => ?_⟩, fun a ha => ?_⟩
      · have hi4 : i < 4 := by have := (List.getElem?_eq_some_iff.1 hv).1; rwa [gpT.len y] at this
        have := (hq j y hy).1 i hi4
        rw [add_plain, add_plain] at this
        rw [← hv, ← this]
        rfl
      · obtain ⟨j, hj, rfl⟩ := List.getElem_of_mem ha
        exact (hq j _ (List.getElem?_eq_getElem hj)).2
theorem gps_of_arg {v : Value} {d : DataW H} {p : List MemPlace} (h : DataW.Trod enc Tryz.prog W base spare held 29 v d p) (hv : v.cells = #[v]) (hb : Rows.uptoBulk d ≤ 1048576) : ∃ l : List Gp, gpT.Has W v l ∧ ∀ x ∈ l, x.text.length ≤ 1048576 := by
  obtain ⟨fuel, hf⟩ := h
  rw [hv] at hf
  obtain ⟨l, h1, h2⟩ := gps_bulk hf
  exact ⟨l, h1, fun x hx => by have := h2 x hx; simp only at this; omega⟩
end
end Go.Proofs.YtfpkppgecmbglaaGreatDoor
