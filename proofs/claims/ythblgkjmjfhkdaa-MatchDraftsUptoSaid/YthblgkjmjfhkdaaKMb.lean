/- What terms look at; the tables of the functions that get it. -/
import Derived.Test.YthblgkjmjfhkdaaKMa
import Derived.Test.YthblgkjmjfhkdaaKDeH
namespace Go.Proofs.Ythblgkjmjfhkdaa
open Go.RowKit
/-- A whole array stored into the block that was made last. -/
theorem wpList_store_new {P : Program} {ops : Array Oper} {rest : List Oper} {o : Oper} {a : Act} {Q : Exit → Act → World → Prop} (w : World) (t : TypeId) (c c' : Array Value) (hgd : o.guard = none) (x y : Operand) (ho : o.op = .store t x y)
    (hx : a.eval x = .pointer (some ⟨w.heap.size, 0, none⟩)) (hy : a.eval y = .agg c') (hi : (P.info? t).map (·.size) = some c'.size) (hc : c.size = c'.size) (h1 : c'.all (·.oneCell') = true)
    (h : wpList P ops Q rest (a.put o.dst undef) (w.alloc (.cells c' t))) : wpList P ops Q (o :: rest) a (w.alloc (.cells c t)) := by
  refine wpList_store_row hgd t x y ho w.heap.size c' hx hy t c (heap_alloc_last w _) hi hc h1 ?_
  rw [World.setRow_alloc_new]
  exact h


def getO (n : ByteArray) (l : List De.Atr) : ByteArray := (De.getP n l).getD ⟨#[]⟩
theorem original_any (d : De.Dev) (n : ByteArray) (w : World) : Calls Try.prog 47 #[De.devV d, .string n] w fun e w' => e = .returned (.string d.orig) ∧ Kp [] w w' := by
  have HK := Lib.hid ((Kp.refl [] w).alloc (.cells (De.devC d) 26))
  unfold De.devV
  unfold De.devC at *
  go_enter Try.func47, Try.ntmps47
  go_wp2
  go_ret
  exact ⟨rfl, HK.out⟩
theorem subsystem_any (d : De.Dev) (n : ByteArray) (w : World) : Calls Try.prog 48 #[De.devV d, .string n] w fun e w' => e = .returned (.string d.sub) ∧ Kp [] w w' := by
  have HK := Lib.hid ((Kp.refl [] w).alloc (.cells (De.devC d) 26))
  unfold De.devV
  unfold De.devC at *
  go_enter Try.func48, Try.ntmps48
  go_wp2
  go_ret
  exact ⟨rfl, HK.out⟩
theorem driver_any (d : De.Dev) (n : ByteArray) (w : World) : Calls Try.prog 49 #[De.devV d, .string n] w fun e w' => e = .returned (.string d.drv) ∧ Kp [] w w' := by
  have HK := Lib.hid ((Kp.refl [] w).alloc (.cells (De.devC d) 26))
  unfold De.devV
  unfold De.devC at *
  go_enter Try.func49, Try.ntmps49
  go_wp2
  go_ret
  exact ⟨rfl, HK.out⟩
theorem valueIn_any (n : ByteArray) (sv : Value) (l : List De.Atr) (w : World) (hl : l.length ≤ 9223372036854775807) (h : De.Has w sv l) : Calls Try.prog 73 #[sv, .string n] w fun e w' => e = .returned (.string (getO n l)) ∧ Kp [] w w' := by
  have HG := Lib.hid (De.get_any n sv l w hl h)
  unfold De.getR at HG
  unfold getO
  go_enter Try.func73, Try.ntmps73
  go_wp2_with (go_at_call 91; refine HG.out.mono ?_; rintro e w2 ⟨rfl, hb⟩)
  go_ret
  exact ⟨rfl, Kp.of_bel hb⟩
theorem attr_any (d : De.Dev) (n : ByteArray) (l : List De.Atr) (w : World) (hl : l.length ≤ 9223372036854775807) (h : De.Has w d.av l) : Calls Try.prog 50 #[De.devV d, .string n] w fun e w' => e = .returned (.string (getO n l)) ∧ Kp [] w w' := by
  obtain ⟨x1, x2, x3, x4, x5, x6, x7, x8, x9, av⟩ := d
  have hf := h.form
  simp only at h hf
  obtain ⟨ad, cp, rfl, -⟩ := hf
  obtain ⟨W1, hW1⟩ : ∃ W1, w.alloc (.cells (De.devC ⟨x1, x2, x3, x4, x5, x6, x7, x8, x9, .slice ad l.length cp⟩) 26) = W1 := ⟨_, rfl⟩
  have HK := Lib.hid (show Kp [] w W1 by rw [← hW1]; exact (Kp.refl [] w).alloc _)
  have HV := Lib.hid (valueIn_any n _ l W1 hl (h.below (by rw [← hW1]; exact (Below.refl _ w).alloc (Nat.le_refl _) _)))
  have hbx : De.BoxAt W1 w.heap.size (De.devC ⟨x1, x2, x3, x4, x5, x6, x7, x8, x9, .slice ad l.length cp⟩) := by rw [← hW1]; exact heap_alloc_last w _
  have hc : W1.cell? ⟨w.heap.size, 9, none⟩ = some (.slice ad l.length cp) := hbx.cell 9
  clear hbx
  clear h
  unfold De.devV
  unfold De.devC at *
  simp only at *
  go_enter Try.func50, Try.ntmps50
  go_wp2_with (go_at_call 73; refine HV.out.mono ?_; rintro e w2 ⟨rfl, hb⟩)
  go_ret
  exact ⟨rfl, HK.out.trans hb⟩
def dvA : Array Value := #[.nilFunc, .nilFunc, .func (.func 47) #[] #[], .func (.func 48) #[] #[], .func (.func 49) #[] #[], .func (.func 50) #[] #[], .nilFunc, .nilFunc, .func (.func 47) #[] #[], .func (.func 48) #[] #[], .func (.func 49) #[] #[], .func (.func 50) #[] #[]]
theorem dvA_hi : (Try.prog.info? 60).map (·.size) = some dvA.size := by kernel_rfl
theorem dvA_one : dvA.all (fun v => v.oneCell') = true := by kernel_rfl
set_option maxRecDepth 100000 in
set_option maxHeartbeats 4000000 in
theorem dvA_any (w : World) : Calls Try.prog 30 #[] w fun e w' => e = .returned (.agg dvA) ∧ w' = w.alloc (.cells dvA 60) := by
  have HI := Lib.hid dvA_hi
  have HO := Lib.hid dvA_one
  go_enter Try.func30, Try.ntmps30
  go_wp2_with (refine wpList_store_new w 60 _ dvA rfl _ _ rfl ?_ ?_ ?_ ?_ ?_ ?_; (case refine_1 => simp [Act.eval]); (case refine_2 => rfl); (case refine_3 => exact HI.out); (case refine_4 => rfl); (case refine_5 => exact HO.out))
  exact bodyPost_ret (v := .agg dvA) (results_cell_row rfl _ _ w.heap.size 60 _ _ _ rfl (heap_alloc_last w _) Try.underlying60 rfl HI.out) rfl ⟨rfl, rfl⟩
theorem dvA_2 (W : World) : (Instr.index 60 (.agg dvA) (.int .i64 2)).run Try.prog W = .ok (.func (.func 47) #[] #[]) W := by kernel_rfl
theorem dvA_3 (W : World) : (Instr.index 60 (.agg dvA) (.int .i64 3)).run Try.prog W = .ok (.func (.func 48) #[] #[]) W := by kernel_rfl
theorem dvA_4 (W : World) : (Instr.index 60 (.agg dvA) (.int .i64 4)).run Try.prog W = .ok (.func (.func 49) #[] #[]) W := by kernel_rfl
theorem dvA_5 (W : World) : (Instr.index 60 (.agg dvA) (.int .i64 5)).run Try.prog W = .ok (.func (.func 50) #[] #[]) W := by kernel_rfl
theorem dvA_8 (W : World) : (Instr.index 60 (.agg dvA) (.int .i64 8)).run Try.prog W = .ok (.func (.func 47) #[] #[]) W := by kernel_rfl
theorem dvA_9 (W : World) : (Instr.index 60 (.agg dvA) (.int .i64 9)).run Try.prog W = .ok (.func (.func 48) #[] #[]) W := by kernel_rfl
theorem dvA_10 (W : World) : (Instr.index 60 (.agg dvA) (.int .i64 10)).run Try.prog W = .ok (.func (.func 49) #[] #[]) W := by kernel_rfl
theorem dvA_11 (W : World) : (Instr.index 60 (.agg dvA) (.int .i64 11)).run Try.prog W = .ok (.func (.func 50) #[] #[]) W := by kernel_rfl
def drA : Array Value := #[.nilFunc, .func (.func 53) #[] #[], .nilFunc, .nilFunc, .nilFunc, .nilFunc, .func (.func 54) #[] #[], .func (.func 55) #[] #[], .nilFunc, .nilFunc, .nilFunc, .nilFunc, .nilFunc, .func (.func 56) #[] #[]]
theorem drA_hi : (Try.prog.info? 68).map (·.size) = some drA.size := by kernel_rfl
theorem drA_one : drA.all (fun v => v.oneCell') = true := by kernel_rfl
set_option maxRecDepth 100000 in
set_option maxHeartbeats 4000000 in
theorem drA_any (w : World) : Calls Try.prog 35 #[] w fun e w' => e = .returned (.agg drA) ∧ w' = w.alloc (.cells drA 68) := by
  have HI := Lib.hid drA_hi
  have HO := Lib.hid drA_one
  go_enter Try.func35, Try.ntmps35
  go_wp2_with (refine wpList_store_new w 68 _ drA rfl _ _ rfl ?_ ?_ ?_ ?_ ?_ ?_; (case refine_1 => simp [Act.eval]); (case refine_2 => rfl); (case refine_3 => exact HI.out); (case refine_4 => rfl); (case refine_5 => exact HO.out))
  exact bodyPost_ret (v := .agg drA) (results_cell_row rfl _ _ w.heap.size 68 _ _ _ rfl (heap_alloc_last w _) Try.underlying68 rfl HI.out) rfl ⟨rfl, rfl⟩
theorem drA_1 (W : World) : (Instr.index 68 (.agg drA) (.int .i64 1)).run Try.prog W = .ok (.func (.func 53) #[] #[]) W := by kernel_rfl
theorem drA_6 (W : World) : (Instr.index 68 (.agg drA) (.int .i64 6)).run Try.prog W = .ok (.func (.func 54) #[] #[]) W := by kernel_rfl
theorem drA_7 (W : World) : (Instr.index 68 (.agg drA) (.int .i64 7)).run Try.prog W = .ok (.func (.func 55) #[] #[]) W := by kernel_rfl
theorem drA_13 (W : World) : (Instr.index 68 (.agg drA) (.int .i64 13)).run Try.prog W = .ok (.func (.func 56) #[] #[]) W := by kernel_rfl
end Go.Proofs.Ythblgkjmjfhkdaa
