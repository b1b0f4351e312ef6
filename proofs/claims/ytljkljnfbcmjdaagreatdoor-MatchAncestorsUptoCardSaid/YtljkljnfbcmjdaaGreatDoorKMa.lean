/- Which terms are static, upward, looked at on a draft: both. What terms look at; the tables of the functions that get it. -/
import Derived.Test.YtljkljnfbcmjdaaGreatDoorKGa
import Derived.Test.YtljkljnfbcmjdaaGreatDoorKDeH
open Go.Lib renaming hid → qH
set_option maxRecDepth 100000
set_option maxHeartbeats 16000000
namespace Go.Proofs.YtljkljnfbcmjdaaGreatDoor
open Go.RowKit
def stK (k : Int) : Bool := k == 2 || (k == 3 || (k == 4 || k == 5))
def upK (k : Int) : Bool := k == 8 || (k == 9 || (k == 10 || k == 11))
def drK (k : Int) : Bool := k == 1 || (k == 6 || (k == 7 || k == 13))
def statB (t : Tm) : Bool := stK t.key && matchB t.op
def upB (t : Tm) : Bool := upK t.key && matchB t.op
def drB (t : Tm) : Bool := drK t.key && matchB t.op
theorem stK_no {k : Int} (h2 : ¬ k = 2) (h3 : ¬ k = 3) (h4 : ¬ k = 4) (h5 : ¬ k = 5) : stK k = false := by simp [stK, h2, h3, h4, h5]
theorem upK_no {k : Int} (h2 : ¬ k = 8) (h3 : ¬ k = 9) (h4 : ¬ k = 10) (h5 : ¬ k = 11) : upK k = false := by simp [upK, h2, h3, h4, h5]
theorem drK_no {k : Int} (h2 : ¬ k = 1) (h3 : ¬ k = 6) (h4 : ¬ k = 7) (h5 : ¬ k = 13) : drK k = false := by simp [drK, h2, h3, h4, h5]
theorem static_any (t : Tm) (w : World) : Calls Tryz.prog 34 #[.agg (tmC t)] w fun e w' => e = .returned (.bool (statB t)) ∧ Kp [] w w' := by
 obtain ⟨k, n, o, v⟩ := t
 have hk := (Kp.refl [] w).alloc (.cells (tmC ⟨k, n, o, v⟩) 46)
 have HK := qH hk
 have HM := qH fun W => match_any ⟨k, n, o, v⟩ W
 clear hk
 unfold statB
 generalize matchB (Tm.op ⟨k, n, o, v⟩) = m at *
 unfold tmC at *
 simp only at *
 by_cases h2 : k = 2
 ·subst h2
  go_enter Tryz.func34, Tryz.ntmps34
  go_wp2_with (first | (go_at_call 33; refine (HM.out _).mono ?_; rintro e w2 ⟨rfl, hk2⟩))
  go_ret
  exact ⟨rfl, HK.out.trans hk2⟩
 by_cases h3 : k = 3
 ·subst h3
  go_enter Tryz.func34, Tryz.ntmps34
  go_wp2_with (first | (go_at_call 33; refine (HM.out _).mono ?_; rintro e w2 ⟨rfl, hk2⟩))
  go_ret
  exact ⟨rfl, HK.out.trans hk2⟩
 by_cases h4 : k = 4
 ·subst h4
  go_enter Tryz.func34, Tryz.ntmps34
  go_wp2_with (first | (go_at_call 33; refine (HM.out _).mono ?_; rintro e w2 ⟨rfl, hk2⟩))
  go_ret
  exact ⟨rfl, HK.out.trans hk2⟩
 by_cases h5 : k = 5
 ·subst h5
  go_enter Tryz.func34, Tryz.ntmps34
  go_wp2_with (first | (go_at_call 33; refine (HM.out _).mono ?_; rintro e w2 ⟨rfl, hk2⟩))
  go_ret
  exact ⟨rfl, HK.out.trans hk2⟩
 have HB := qH (stK_no h2 h3 h4 h5)
 go_enter Tryz.func34, Tryz.ntmps34
 go_wp2
 go_ret
 exact ⟨by rw [HB.out]; rfl, HK.out⟩
theorem upward_any (t : Tm) (w : World) : Calls Tryz.prog 13 #[.agg (tmC t)] w fun e w' => e = .returned (.bool (upB t)) ∧ Kp [] w w' := by
 obtain ⟨k, n, o, v⟩ := t
 have hk := (Kp.refl [] w).alloc (.cells (tmC ⟨k, n, o, v⟩) 46)
 have HK := qH hk
 have HM := qH fun W => match_any ⟨k, n, o, v⟩ W
 clear hk
 unfold upB
 generalize matchB (Tm.op ⟨k, n, o, v⟩) = m at *
 unfold tmC at *
 simp only at *
 by_cases h8 : k = 8
 ·subst h8
  go_enter Tryz.func13, Tryz.ntmps13
  go_wp2_with (first | (go_at_call 33; refine (HM.out _).mono ?_; rintro e w2 ⟨rfl, hk2⟩))
  go_ret
  exact ⟨rfl, HK.out.trans hk2⟩
 by_cases h9 : k = 9
 ·subst h9
  go_enter Tryz.func13, Tryz.ntmps13
  go_wp2_with (first | (go_at_call 33; refine (HM.out _).mono ?_; rintro e w2 ⟨rfl, hk2⟩))
  go_ret
  exact ⟨rfl, HK.out.trans hk2⟩
 by_cases h10 : k = 10
 ·subst h10
  go_enter Tryz.func13, Tryz.ntmps13
  go_wp2_with (first | (go_at_call 33; refine (HM.out _).mono ?_; rintro e w2 ⟨rfl, hk2⟩))
  go_ret
  exact ⟨rfl, HK.out.trans hk2⟩
 by_cases h11 : k = 11
 ·subst h11
  go_enter Tryz.func13, Tryz.ntmps13
  go_wp2_with (first | (go_at_call 33; refine (HM.out _).mono ?_; rintro e w2 ⟨rfl, hk2⟩))
  go_ret
  exact ⟨rfl, HK.out.trans hk2⟩
 have HB := qH (upK_no h8 h9 h10 h11)
 go_enter Tryz.func13, Tryz.ntmps13
 go_wp2
 go_ret
 exact ⟨by rw [HB.out]; rfl, HK.out⟩
theorem looks_any (t : Tm) (w : World) : Calls Tryz.prog 37 #[.agg (tmC t)] w fun e w' => e = .returned (.bool (drB t)) ∧ Kp [] w w' := by
 obtain ⟨k, n, o, v⟩ := t
 have hk := (Kp.refl [] w).alloc (.cells (tmC ⟨k, n, o, v⟩) 46)
 have HK := qH hk
 have HM := qH fun W => match_any ⟨k, n, o, v⟩ W
 clear hk
 unfold drB
 generalize matchB (Tm.op ⟨k, n, o, v⟩) = m at *
 unfold tmC at *
 simp only at *
 by_cases h1 : k = 1
 ·subst h1
  go_enter Tryz.func37, Tryz.ntmps37
  go_wp2_with (first | (go_at_call 33; refine (HM.out _).mono ?_; rintro e w2 ⟨rfl, hk2⟩))
  go_ret
  exact ⟨rfl, HK.out.trans hk2⟩
 by_cases h6 : k = 6
 ·subst h6
  go_enter Tryz.func37, Tryz.ntmps37
  go_wp2_with (first | (go_at_call 33; refine (HM.out _).mono ?_; rintro e w2 ⟨rfl, hk2⟩))
  go_ret
  exact ⟨rfl, HK.out.trans hk2⟩
 by_cases h7 : k = 7
 ·subst h7
  go_enter Tryz.func37, Tryz.ntmps37
  go_wp2_with (first | (go_at_call 33; refine (HM.out _).mono ?_; rintro e w2 ⟨rfl, hk2⟩))
  go_ret
  exact ⟨rfl, HK.out.trans hk2⟩
 by_cases h13 : k = 13
 ·subst h13
  go_enter Tryz.func37, Tryz.ntmps37
  go_wp2_with (first | (go_at_call 33; refine (HM.out _).mono ?_; rintro e w2 ⟨rfl, hk2⟩))
  go_ret
  exact ⟨rfl, HK.out.trans hk2⟩
 have HB := qH (drK_no h1 h6 h7 h13)
 go_enter Tryz.func37, Tryz.ntmps37
 go_wp2
 go_ret
 exact ⟨by rw [HB.out]; rfl, HK.out⟩
theorem refStatic_any (t : Tm) (w : World) : Calls Tryz.prog 54 #[.agg (tmC t)] w fun e w' => e = .returned (.bool (statB t)) ∧ Kp [] w w' := by
 obtain ⟨W0, hW⟩ : ∃ W0, w.alloc (.cells (tmC t) 46) = W0 := ⟨_, rfl⟩
 obtain ⟨R, hR⟩ : ∃ R, w.heap.size = R := ⟨_, rfl⟩
 have HK := qH (show Kp [] w W0 by rw [← hW]; exact (Kp.refl [] w).alloc _)
 have HR := qH (show MAt W0 R t by rw [← hW, ← hR]; exact MAt.new w t)
 obtain ⟨t0, t1, t2, t3⟩ := HR.out.cells
 have HM := qH fun W => refMatch_any t W
 obtain ⟨k, n, o, v⟩ := t
 unfold statB
 generalize matchB (Tm.op ⟨k, n, o, v⟩) = m at *
 unfold tmC at hW ⊢
 simp only at *
 cases m
 ·have HB := qH (Bool.and_false (stK k))
  go_enter Tryz.func54, Tryz.ntmps54
  go_wp2_with (first | (go_at_call 53; refine (HM.out _).mono ?_; rintro e w2 ⟨rfl, hk2⟩; obtain ⟨t0, t1, t2, t3⟩ := (HR.out.kp hk2 (by simp)).cells))
  go_ret
  exact ⟨by rw [HB.out]; rfl, HK.out.trans hk2⟩
 by_cases h2 : k = 2
 ·subst h2
  go_enter Tryz.func54, Tryz.ntmps54
  go_wp2_with (first | (go_at_call 53; refine (HM.out _).mono ?_; rintro e w2 ⟨rfl, hk2⟩; obtain ⟨t0, t1, t2, t3⟩ := (HR.out.kp hk2 (by simp)).cells))
  go_ret
  exact ⟨rfl, HK.out.trans hk2⟩
 by_cases h3 : k = 3
 ·subst h3
  go_enter Tryz.func54, Tryz.ntmps54
  go_wp2_with (first | (go_at_call 53; refine (HM.out _).mono ?_; rintro e w2 ⟨rfl, hk2⟩; obtain ⟨t0, t1, t2, t3⟩ := (HR.out.kp hk2 (by simp)).cells))
  go_ret
  exact ⟨rfl, HK.out.trans hk2⟩
 by_cases h4 : k = 4
 ·subst h4
  go_enter Tryz.func54, Tryz.ntmps54
  go_wp2_with (first | (go_at_call 53; refine (HM.out _).mono ?_; rintro e w2 ⟨rfl, hk2⟩; obtain ⟨t0, t1, t2, t3⟩ := (HR.out.kp hk2 (by simp)).cells))
  go_ret
  exact ⟨rfl, HK.out.trans hk2⟩
 by_cases h5 : k = 5
 ·subst h5
  go_enter Tryz.func54, Tryz.ntmps54
  go_wp2_with (first | (go_at_call 53; refine (HM.out _).mono ?_; rintro e w2 ⟨rfl, hk2⟩; obtain ⟨t0, t1, t2, t3⟩ := (HR.out.kp hk2 (by simp)).cells))
  go_ret
  exact ⟨rfl, HK.out.trans hk2⟩
 have HB := qH (stK_no h2 h3 h4 h5)
 have HC := qH (show (k == 2 || k == 3 || k == 4 || k == 5) = false by simp [h2, h3, h4, h5])
 go_enter Tryz.func54, Tryz.ntmps54
 go_wp2_with (first | (go_at_call 53; refine (HM.out _).mono ?_; rintro e w2 ⟨rfl, hk2⟩; obtain ⟨t0, t1, t2, t3⟩ := (HR.out.kp hk2 (by simp)).cells))
 go_ret
 exact ⟨(by show Ending.returned (.bool (k == 2 || k == 3 || k == 4 || k == 5)) = Ending.returned (.bool (stK k && true)); rw [HC.out, HB.out]; rfl), HK.out.trans hk2⟩
theorem refUpward_any (t : Tm) (w : World) : Calls Tryz.prog 25 #[.agg (tmC t)] w fun e w' => e = .returned (.bool (upB t)) ∧ Kp [] w w' := by
 obtain ⟨W0, hW⟩ : ∃ W0, w.alloc (.cells (tmC t) 46) = W0 := ⟨_, rfl⟩
 obtain ⟨R, hR⟩ : ∃ R, w.heap.size = R := ⟨_, rfl⟩
 have HK := qH (show Kp [] w W0 by rw [← hW]; exact (Kp.refl [] w).alloc _)
 have HR := qH (show MAt W0 R t by rw [← hW, ← hR]; exact MAt.new w t)
 obtain ⟨t0, t1, t2, t3⟩ := HR.out.cells
 have HM := qH fun W => refMatch_any t W
 obtain ⟨k, n, o, v⟩ := t
 unfold upB
 generalize matchB (Tm.op ⟨k, n, o, v⟩) = m at *
 unfold tmC at hW ⊢
 simp only at *
 cases m
 ·have HB := qH (Bool.and_false (upK k))
  go_enter Tryz.func25, Tryz.ntmps25
  go_wp2_with (first | (go_at_call 53; refine (HM.out _).mono ?_; rintro e w2 ⟨rfl, hk2⟩; obtain ⟨t0, t1, t2, t3⟩ := (HR.out.kp hk2 (by simp)).cells))
  go_ret
  exact ⟨by rw [HB.out]; rfl, HK.out.trans hk2⟩
 by_cases h8 : k = 8
 ·subst h8
  go_enter Tryz.func25, Tryz.ntmps25
  go_wp2_with (first | (go_at_call 53; refine (HM.out _).mono ?_; rintro e w2 ⟨rfl, hk2⟩; obtain ⟨t0, t1, t2, t3⟩ := (HR.out.kp hk2 (by simp)).cells))
  go_ret
  exact ⟨rfl, HK.out.trans hk2⟩
 by_cases h9 : k = 9
 ·subst h9
  go_enter Tryz.func25, Tryz.ntmps25
  go_wp2_with (first | (go_at_call 53; refine (HM.out _).mono ?_; rintro e w2 ⟨rfl, hk2⟩; obtain ⟨t0, t1, t2, t3⟩ := (HR.out.kp hk2 (by simp)).cells))
  go_ret
  exact ⟨rfl, HK.out.trans hk2⟩
 by_cases h10 : k = 10
 ·subst h10
  go_enter Tryz.func25, Tryz.ntmps25
  go_wp2_with (first | (go_at_call 53; refine (HM.out _).mono ?_; rintro e w2 ⟨rfl, hk2⟩; obtain ⟨t0, t1, t2, t3⟩ := (HR.out.kp hk2 (by simp)).cells))
  go_ret
  exact ⟨rfl, HK.out.trans hk2⟩
 by_cases h11 : k = 11
 ·subst h11
  go_enter Tryz.func25, Tryz.ntmps25
  go_wp2_with (first | (go_at_call 53; refine (HM.out _).mono ?_; rintro e w2 ⟨rfl, hk2⟩; obtain ⟨t0, t1, t2, t3⟩ := (HR.out.kp hk2 (by simp)).cells))
  go_ret
  exact ⟨rfl, HK.out.trans hk2⟩
 have HB := qH (upK_no h8 h9 h10 h11)
 have HC := qH (show (k == 8 || k == 9 || k == 10 || k == 11) = false by simp [h8, h9, h10, h11])
 go_enter Tryz.func25, Tryz.ntmps25
 go_wp2_with (first | (go_at_call 53; refine (HM.out _).mono ?_; rintro e w2 ⟨rfl, hk2⟩; obtain ⟨t0, t1, t2, t3⟩ := (HR.out.kp hk2 (by simp)).cells))
 go_ret
 exact ⟨(by show Ending.returned (.bool (k == 8 || k == 9 || k == 10 || k == 11)) = Ending.returned (.bool (upK k && true)); rw [HC.out, HB.out]; rfl), HK.out.trans hk2⟩
end Go.Proofs.YtljkljnfbcmjdaaGreatDoor
namespace Go.Proofs.YtljkljnfbcmjdaaGreatDoor
open Go.RowKit
theorem wpList_store_new {P : Program} {ops : Array Oper} {rest : List Oper} {o : Oper} {a : Act} {Q : Exit → Act → World → Prop} (w : World) (t : TypeId) (c c' : Array Value) (hgd : o.guard = none) (x y : Operand) (ho : o.op = .store t x y)
  (hx : a.eval x = .pointer (some ⟨w.heap.size, 0, none⟩)) (hy : a.eval y = .agg c') (hi : (P.info? t).map (·.size) = some c'.size) (hc : c.size = c'.size) (h1 : c'.all (·.oneCell') = true)
  (h : wpList P ops Q rest (a.put o.dst undef) (w.alloc (.cells c' t))) : wpList P ops Q (o :: rest) a (w.alloc (.cells c t)) := by
 refine wpList_store_row hgd t x y ho w.heap.size c' hx hy t c (heap_alloc_last w _) hi hc h1 ?_
 rw [World.setRow_alloc_new]
 exact h
def getO (n : ByteArray) (l : List De.Atr) : ByteArray := (De.getP n l).getD ⟨#[]⟩
theorem original_any (d : De.Dev) (n : ByteArray) (w : World) : Calls Tryz.prog 63 #[De.devV d, .string n] w fun e w' => e = .returned (.string d.orig) ∧ Kp [] w w' := by
 have HK := qH ((Kp.refl [] w).alloc (.cells (De.devC d) 40))
 unfold De.devV
 unfold De.devC at *
 go_enter Tryz.func63, Tryz.ntmps63
 go_wp2
 go_ret
 exact ⟨rfl, HK.out⟩
theorem subsystem_any (d : De.Dev) (n : ByteArray) (w : World) : Calls Tryz.prog 64 #[De.devV d, .string n] w fun e w' => e = .returned (.string d.sub) ∧ Kp [] w w' := by
 have HK := qH ((Kp.refl [] w).alloc (.cells (De.devC d) 40))
 unfold De.devV
 unfold De.devC at *
 go_enter Tryz.func64, Tryz.ntmps64
 go_wp2
 go_ret
 exact ⟨rfl, HK.out⟩
theorem driver_any (d : De.Dev) (n : ByteArray) (w : World) : Calls Tryz.prog 65 #[De.devV d, .string n] w fun e w' => e = .returned (.string d.drv) ∧ Kp [] w w' := by
 have HK := qH ((Kp.refl [] w).alloc (.cells (De.devC d) 40))
 unfold De.devV
 unfold De.devC at *
 go_enter Tryz.func65, Tryz.ntmps65
 go_wp2
 go_ret
 exact ⟨rfl, HK.out⟩
theorem valueIn_any (n : ByteArray) (sv : Value) (l : List De.Atr) (w : World) (hl : l.length ≤ 9223372036854775807) (h : De.Has w sv l) : Calls Tryz.prog 85 #[sv, .string n] w fun e w' => e = .returned (.string (getO n l)) ∧ Kp [] w w' := by
 have HG := qH (De.get_any n sv l w hl h)
 unfold De.getR at HG
 unfold getO
 go_enter Tryz.func85, Tryz.ntmps85
 go_wp2_with (go_at_call 102; refine HG.out.mono ?_; rintro e w2 ⟨rfl, hb⟩)
 go_ret
 exact ⟨rfl, Kp.of_bel hb⟩
theorem attr_any (d : De.Dev) (n : ByteArray) (l : List De.Atr) (w : World) (hl : l.length ≤ 9223372036854775807) (h : De.Has w d.av l) : Calls Tryz.prog 66 #[De.devV d, .string n] w fun e w' => e = .returned (.string (getO n l)) ∧ Kp [] w w' := by
 obtain ⟨x1, x2, x3, x4, x5, x6, x7, x8, x9, av⟩ := d
 have hf := h.form
 simp only at h hf
 obtain ⟨ad, cp, rfl, -⟩ := hf
 obtain ⟨W1, hW1⟩ : ∃ W1, w.alloc (.cells (De.devC ⟨x1, x2, x3, x4, x5, x6, x7, x8, x9, .slice ad l.length cp⟩) 40) = W1 := ⟨_, rfl⟩
 have HK := qH (show Kp [] w W1 by rw [← hW1]; exact (Kp.refl [] w).alloc _)
 have HV := qH (valueIn_any n _ l W1 hl (h.below (by rw [← hW1]; exact (Below.refl _ w).alloc (Nat.le_refl _) _)))
 have hbx : De.BoxAt W1 w.heap.size (De.devC ⟨x1, x2, x3, x4, x5, x6, x7, x8, x9, .slice ad l.length cp⟩) := by rw [← hW1]; exact heap_alloc_last w _
 have hc : W1.cell? ⟨w.heap.size, 9, none⟩ = some (.slice ad l.length cp) := hbx.cell 9
 clear hbx
 clear h
 unfold De.devV
 unfold De.devC at *
 simp only at *
 go_enter Tryz.func66, Tryz.ntmps66
 go_wp2_with (go_at_call 85; refine HV.out.mono ?_; rintro e w2 ⟨rfl, hb⟩)
 go_ret
 exact ⟨rfl, HK.out.trans hb⟩
def dvA : Array Value := #[.nilFunc, .nilFunc, .func (.func 63) #[] #[], .func (.func 64) #[] #[], .func (.func 65) #[] #[], .func (.func 66) #[] #[], .nilFunc, .nilFunc, .func (.func 63) #[] #[], .func (.func 64) #[] #[], .func (.func 65) #[] #[], .func (.func 66) #[] #[]]
theorem dvA_hi : (Tryz.prog.info? 79).map (·.size) = some dvA.size := by kernel_rfl
theorem dvA_one : dvA.all (fun v => v.oneCell') = true := by kernel_rfl
theorem dvA_any (w : World) : Calls Tryz.prog 35 #[] w fun e w' => e = .returned (.agg dvA) ∧ w' = w.alloc (.cells dvA 79) := by
 have HI := qH dvA_hi
 have HO := qH dvA_one
 go_enter Tryz.func35, Tryz.ntmps35
 go_wp2_with (refine wpList_store_new w 79 _ dvA rfl _ _ rfl ?_ ?_ ?_ ?_ ?_ ?_; (case refine_1 => simp [Act.eval]); (case refine_2 => rfl); (case refine_3 => exact HI.out); (case refine_4 => rfl); (case refine_5 => exact HO.out))
 exact bodyPost_ret (v := .agg dvA) (results_cell_row rfl _ _ w.heap.size 79 _ _ _ rfl (heap_alloc_last w _) Tryz.underlying79 rfl HI.out) rfl ⟨rfl, rfl⟩
theorem dvA_2 (W : World) : (Instr.index 79 (.agg dvA) (.int .i64 2)).run Tryz.prog W = .ok (.func (.func 63) #[] #[]) W := by kernel_rfl
theorem dvA_3 (W : World) : (Instr.index 79 (.agg dvA) (.int .i64 3)).run Tryz.prog W = .ok (.func (.func 64) #[] #[]) W := by kernel_rfl
theorem dvA_4 (W : World) : (Instr.index 79 (.agg dvA) (.int .i64 4)).run Tryz.prog W = .ok (.func (.func 65) #[] #[]) W := by kernel_rfl
theorem dvA_5 (W : World) : (Instr.index 79 (.agg dvA) (.int .i64 5)).run Tryz.prog W = .ok (.func (.func 66) #[] #[]) W := by kernel_rfl
theorem dvA_8 (W : World) : (Instr.index 79 (.agg dvA) (.int .i64 8)).run Tryz.prog W = .ok (.func (.func 63) #[] #[]) W := by kernel_rfl
theorem dvA_9 (W : World) : (Instr.index 79 (.agg dvA) (.int .i64 9)).run Tryz.prog W = .ok (.func (.func 64) #[] #[]) W := by kernel_rfl
theorem dvA_10 (W : World) : (Instr.index 79 (.agg dvA) (.int .i64 10)).run Tryz.prog W = .ok (.func (.func 65) #[] #[]) W := by kernel_rfl
theorem dvA_11 (W : World) : (Instr.index 79 (.agg dvA) (.int .i64 11)).run Tryz.prog W = .ok (.func (.func 66) #[] #[]) W := by kernel_rfl
def drA : Array Value := #[.nilFunc, .func (.func 70) #[] #[], .nilFunc, .nilFunc, .nilFunc, .nilFunc, .func (.func 71) #[] #[], .func (.func 72) #[] #[], .nilFunc, .nilFunc, .nilFunc, .nilFunc, .nilFunc, .func (.func 73) #[] #[]]
theorem drA_hi : (Tryz.prog.info? 84).map (·.size) = some drA.size := by kernel_rfl
theorem drA_one : drA.all (fun v => v.oneCell') = true := by kernel_rfl
theorem drA_any (w : World) : Calls Tryz.prog 38 #[] w fun e w' => e = .returned (.agg drA) ∧ w' = w.alloc (.cells drA 84) := by
 have HI := qH drA_hi
 have HO := qH drA_one
 go_enter Tryz.func38, Tryz.ntmps38
 go_wp2_with (refine wpList_store_new w 84 _ drA rfl _ _ rfl ?_ ?_ ?_ ?_ ?_ ?_; (case refine_1 => simp [Act.eval]); (case refine_2 => rfl); (case refine_3 => exact HI.out); (case refine_4 => rfl); (case refine_5 => exact HO.out))
 exact bodyPost_ret (v := .agg drA) (results_cell_row rfl _ _ w.heap.size 84 _ _ _ rfl (heap_alloc_last w _) Tryz.underlying84 rfl HI.out) rfl ⟨rfl, rfl⟩
theorem drA_1 (W : World) : (Instr.index 84 (.agg drA) (.int .i64 1)).run Tryz.prog W = .ok (.func (.func 70) #[] #[]) W := by kernel_rfl
theorem drA_6 (W : World) : (Instr.index 84 (.agg drA) (.int .i64 6)).run Tryz.prog W = .ok (.func (.func 71) #[] #[]) W := by kernel_rfl
theorem drA_7 (W : World) : (Instr.index 84 (.agg drA) (.int .i64 7)).run Tryz.prog W = .ok (.func (.func 72) #[] #[]) W := by kernel_rfl
theorem drA_13 (W : World) : (Instr.index 84 (.agg drA) (.int .i64 13)).run Tryz.prog W = .ok (.func (.func 73) #[] #[]) W := by kernel_rfl
end Go.Proofs.YtljkljnfbcmjdaaGreatDoor
