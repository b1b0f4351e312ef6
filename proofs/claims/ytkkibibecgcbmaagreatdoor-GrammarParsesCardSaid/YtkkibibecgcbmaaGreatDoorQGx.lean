/- Gx -/
import Derived.Test.YtkkibibecgcbmaaGreatDoorQGo
import Derived.Test.YtkkibibecgcbmaaGreatDoorQGu
import Derived.Test.YtkkibibecgcbmaaGreatDoorQI
open Go.Lib renaming hid → qH
set_option maxRecDepth 100000
set_option maxHeartbeats 16000000
namespace Go.Proofs.YtkkibibecgcbmaaGreatDoor
open Go.RowKit
theorem neq_tm (k o : Int) (n v : ByteArray) (W : World) : (binOp .neq 31 (.agg #[.int .i64 k, .string n, .int .i64 o, .string v]) (.agg #[.int .i64 k, .string n, .int .i64 o, .string v])).run Tryz.prog W = .ok (.bool false) W := by
 have hS : Tryz.prog.underlying 31 = some (.struct (Tryz.prog.fieldsOf 31)) := by kernel_rfl
 have hp : Tryz.prog.stoodInHeld 31 = false := by kernel_rfl
 have u3 := Tryz.underlying3
 have u9 := Tryz.underlying9
 have a3 := Tryz.isAgg3
 have a9 := Tryz.isAgg9
 have z3 := Tryz.sizeOf3
 have z9 := Tryz.sizeOf9
 rw [run_neq_struct, show (10000 : Nat) = 9999 + 1 from rfl, run_equalIn_agg W 9999 31 _ _ hS hp]
 simp only [Program.fieldsOf, Tryz.underlying31]
 go_simp
theorem same_any {w : World} {su sv : Value} {l : List Tm} (hl : l.length ≤ 1000000) (hu : tmT.Has w su l) (hv : tmT.Has w sv l) : Calls Tryz.prog 21 #[su, sv] w fun e w' => e = .returned (.bool true) ∧ Kp [] w w' := by
 obtain ⟨au, cu, rfl, hu2⟩ := hu.form
 obtain ⟨av, cv, rfl, hv2⟩ := hv.form
 by_cases hn : l = []
 ·subst hn
  have hz : ¬ ((0 : Int) < (([] : List Tm).length : Int)) := by simp
  have hz0 : ([] : List Tm).length = 0 := rfl
  clear hu hv hu2 hv2
  go_enter Tryz.func21, Tryz.ntmps21
  go_wp2
  go_loopw [5] (fun s5 wx => s5 = .int .i64 0 ∧ w = wx) (fun _ _ => 0)
  case atStart => exact ⟨rfl, rfl⟩
  case round =>
   obtain ⟨rfl, rfl⟩ := hrel
   go_wp2
   go_ret
   exact ⟨rfl, Kp.refl _ _⟩
 ·obtain ⟨b, o, rfl, hb, hr⟩ := hu2 hn
  obtain ⟨b', o', rfl, hb', hr'⟩ := hv2 hn
  have HW := qH hr
  have HW' := qH hr'
  have hm : Tryz.prog.eqGuardType Tryz.prog.depth 31 = false := by kernel_rfl
  have HQ := qH neq_tm
  clear hr hr' hu hv hu2 hv2
  go_enter Tryz.func21, Tryz.ntmps21
  go_wp2
  go_loopw [5] (fun s5 wx => ∃ i : Nat, i ≤ l.length ∧ s5 = .int .i64 (i : Int) ∧ ∃ n, wx = w.drewN n) (fun s5 _ => l.length - (intOf s5).toNat)
  case atStart => exact ⟨0, by omega, rfl, 0, rfl⟩
  case round =>
   obtain ⟨i, hi, rfl, n, rfl⟩ := hrel
   by_cases hlt : i < l.length
   ·have hiz : (i : Int) < (l.length : Int) := by omega
    obtain ⟨x, hx⟩ : ∃ x, l[i]? = some x := ⟨_, List.getElem?_eq_getElem hlt⟩
    obtain ⟨a0, a1, a2, a3⟩ := tmRow HW.out hx
    obtain ⟨d0, d1, d2, d3⟩ := tmRow HW'.out hx
    have hwr : IntKind.i64.wrap ((i : Int) + 1) = ((i + 1 : Nat) : Int) := by rw [IntKind.wrap_i64]; omega
    have hqq := fun W => HQ.out x.key x.op (bs x.name) (bs x.val) W
    clear hx
    go_wp2
    go_quiet (fail)
    go_wp2
    exact ⟨⟨i + 1, by omega, rfl, _, rfl⟩, by simp [intOf]; omega⟩
   ·have hiz : ¬ ((i : Int) < (l.length : Int)) := by omega
    go_wp2
    go_ret
    exact ⟨rfl, (Kp.refl [] w).drew _⟩
theorem parseG_sm (s : List UInt8) : (parseG s).1.length ≤ 1024 ∧ ∀ x ∈ (parseG s).1, SmT x := by
 unfold parseG
 obtain ⟨toks, en, hte⟩ : ∃ l e, Lx.tokensE s = (l, e) := ⟨_, _, rfl⟩
 rw [hte]
 by_cases hen : en = 0
 ·subst hen
  obtain ⟨hlen, _, _⟩ := Lx.read_ok hte
  have hsm := read_len hte
  simp only [ne_eq, not_true_eq_false, if_false]
  split
  ·exact ⟨Nat.zero_le _, fun x hx => by cases hx⟩
  ·refine ⟨by rw [List.length_map]; exact hlen, fun t ht => ?_⟩
   obtain ⟨x, hx, rfl⟩ := List.mem_map.1 ht
   have := hsm x hx
   exact ⟨by show x.name.length ≤ _; omega, by show x.val.length ≤ _; omega⟩
 ·rw [if_pos hen]
  exact ⟨Nat.zero_le _, fun x hx => by cases hx⟩
theorem Kp.off {w w1 w' : World} {tb : Nat} (h : Kp [] w w1) (k : Kp [tb] w1 w') (ht : w.heap.size ≤ tb) : Kp [] w w' :=
 ⟨k.os.trans h.os, k.tape.trans h.tape, k.output.trans h.output, Nat.le_trans h.size k.size, fun b hb _ => (k.block b (Nat.lt_of_lt_of_le hb h.size) (by simp only [List.mem_singleton]; omega)).trans (h.block b hb (by simp))⟩
theorem fmtLen (l : List Tm) : (formatG l).1.length ≤ 1024 := by
 unfold formatG
 split
 ·exact Nat.zero_le _
 ·unfold Lx.fmtE
  split
  ·exact Nat.zero_le _
  ·split
   ·exact Nat.zero_le _
   ·simp only
    omega
theorem tape_new {w : World} {lv : Value} (hi : Ints w w.heap.size lv) : Tp (w.alloc (.cells #[lv, .int .i64 0] 28)) w.heap.size 0 :=
 ⟨lv, heap_alloc_last _ _, hi.keep fun b hb => by have := ((Kp.refl [] w).alloc (.cells #[lv, .int .i64 0] 28)).block b hb (by simp); exact this⟩
end Go.Proofs.YtkkibibecgcbmaaGreatDoor
