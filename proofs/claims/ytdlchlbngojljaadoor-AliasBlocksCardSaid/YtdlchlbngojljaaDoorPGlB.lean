/- The contracts of package glob's textBytes and least, and of TrailingZeros64. -/
import Derived.Test.YtdlchlbngojljaaDoorPGlA
namespace Go.Proofs.YtdlchlbngojljaaDoor.Gl
open Go.RowKit
theorem textV : (setV isText) = #[.int .u64 18446744069414584320, .int .u64 9223372036854775807, .int .u64 0, .int .u64 0] := by
 unfold setV
 rw [wd_text0, wd_text1, wd_text2, wd_text3]
 rfl
theorem heap_set_last (w : World) (t : TypeId) (c : Array Value) : (w.alloc (.cells c t)).heap[w.heap.size]? = some (.cells c t (0, 0)) := heap_alloc_last w _
set_option maxHeartbeats 400000 in
set_option maxRecDepth 100000 in
theorem textBytes_gen (R : UInt8 → Bool) (hR : setV R = #[.int .u64 18446744069414584320, .int .u64 9223372036854775807, .int .u64 0, .int .u64 0]) (w : World) : Calls Tryd.prog 80 #[] w (Bel (.agg (setV R)) w) := by
 have hv := (zero_of_info (P := Tryd.prog) info61).1
 have hi := (zero_of_info (P := Tryd.prog) info61).2
 have hi' : (Tryd.prog.info? 106).map (·.size) = some (setV R).size := hi
 go_enter Tryd.func80, Tryd.ntmps80
 go_wp2
 refine bodyPost_ret (v := .agg (setV R)) (results_cell_row rfl _ _ w.heap.size 106 (setV R) _ _ rfl (by rw [hR]; exact heap_alloc_last w _) Tryd.underlying106 rfl hi') rfl ⟨rfl, ?_⟩
 exact (Below.refl _ w).alloc (Nat.le_refl _) _
theorem textBytes_any (w : World) : Calls Tryd.prog 80 #[] w (Bel (.agg (setV isText)) w) := textBytes_gen isText textV w
/-- The table of math/bits lies as its initialiser lays it. -/
def TabAt (w : World) : Prop := ∀ k, k < 64 → w.cell? ⟨0, k, none⟩ = some (.int .u8 (Lib.deBruijn64tab.getD k 0 : Nat))
theorem TabAt.lt {w : World} (h : TabAt w) : 0 < w.heap.size := by
 have := h 0 (by decide)
 rcases Nat.lt_or_ge 0 w.heap.size with h1 | h1
 ·exact h1
 ·have e : w.heap[0]? = none := Array.getElem?_eq_none h1
  simp [World.cell?, e] at this
theorem TabAt.below {w W : World} (h : TabAt w) (hb : Below w.heap.size w W) : TabAt W := fun k hk => (hb.cell (p := ⟨0, k, none⟩) h.lt).trans (h k hk)
theorem tz_key (x a : Nat) (hx : x < 18446744073709551616) (hx0 : x ≠ 0) (hlow : x &&& (18446744073709551616 - x) = a) :
  IntKind.u64.wrap (bits BinOp.and IntKind.u64 (x : Int) (IntKind.u64.wrap (-(x : Int))) * 285870213051353865) / 288230376151711744 = ((a * 285870213051353865 % 18446744073709551616 / 288230376151711744 : Nat) : Int) := by
 have e1 : IntKind.u64.wrap (-(x : Int)) = ((18446744073709551616 - x : Nat) : Int) := by rw [IntKind.wrap_u64]; omega
 rw [e1, u64_and_nat x _ hx (by omega), hlow, IntKind.wrap_u64]
 omega
set_option maxHeartbeats 1000000 in
theorem tz_core (x k idx : Nat) (w : World) (hx0 : ((x : Int) == 0) = false)
  (key : IntKind.u64.wrap (bits BinOp.and IntKind.u64 (x : Int) (IntKind.u64.wrap (-(x : Int))) * 285870213051353865) / 288230376151711744 = (idx : Int))
  (hi : idx < 64) (hk : k < 64) (hcell : w.cell? ⟨0, idx, none⟩ = some (.int .u8 k)) :
  Calls Tryd.prog 99 #[.int .u64 x] w fun e w' => e = .returned (.int .i64 k) ∧ w' = w := by
 go_enter Tryd.func99, Tryd.ntmps99
 go_wp2_with (simp only [key])
 go_ret
 exact ⟨rfl, rfl⟩
theorem tz_any (x : Nat) (hx : x < 18446744073709551616) (hx0 : x ≠ 0) (w : World) (hT : TabAt w) : Calls Tryd.prog 99 #[.int .u64 (x : Int)] w fun e w' => e = .returned (.int .i64 (Lib.ctz 64 x : Nat)) ∧ w' = w := by
 obtain ⟨hlow, hk⟩ := Lib.lowest_bit 64 x hx0 hx
 obtain ⟨hi, htab⟩ := Lib.deBruijn64_at _ hk
 have hcell := hT _ hi
 rw [htab] at hcell
 exact tz_core x _ _ w (by simp; omega) (tz_key x _ hx hx0 hlow) hi hk hcell
theorem idx4 (a b c d : Int) : (∀ w : World, (Instr.index 106 (.agg #[.int .u64 a, .int .u64 b, .int .u64 c, .int .u64 d]) (.int .i64 0)).run Tryd.prog w = .ok (.int .u64 a) w) ∧
  (∀ w : World, (Instr.index 106 (.agg #[.int .u64 a, .int .u64 b, .int .u64 c, .int .u64 d]) (.int .i64 1)).run Tryd.prog w = .ok (.int .u64 b) w) ∧
  (∀ w : World, (Instr.index 106 (.agg #[.int .u64 a, .int .u64 b, .int .u64 c, .int .u64 d]) (.int .i64 2)).run Tryd.prog w = .ok (.int .u64 c) w) ∧
  (∀ w : World, (Instr.index 106 (.agg #[.int .u64 a, .int .u64 b, .int .u64 c, .int .u64 d]) (.int .i64 3)).run Tryd.prog w = .ok (.int .u64 d) w) :=
 ⟨fun _ => by kernel_rfl, fun _ => by kernel_rfl, fun _ => by kernel_rfl, fun _ => by kernel_rfl⟩
theorem idx_any (S : UInt8 → Bool) (i : Nat) (hi : i < 4) (w : World) : (Instr.index 106 (.agg (setV S)) (.int .i64 (i : Int))).run Tryd.prog w = .ok (.int .u64 (wd S i : Int)) w := by
 obtain ⟨h0, h1, h2, h3⟩ := idx4 (wd S 0) (wd S 1) (wd S 2) (wd S 3)
 match i, hi with
 | 0, _ => exact h0 w
 | 1, _ => exact h1 w
 | 2, _ => exact h2 w
 | 3, _ => exact h3 w
/-- What least answers. -/
def leastV (S : UInt8 → Bool) : Value := match leastS S with
 | some c => .tuple #[.int .u8 (c.toNat : Int), .bool true]
 | none => .tuple #[.int .u8 0, .bool false]
set_option maxHeartbeats 400000 in
set_option maxRecDepth 100000 in
theorem least_any (S : UInt8 → Bool) (w : World) (hT : TabAt w) : Calls Tryd.prog 84 #[.agg (setV S)] w (Bel (leastV S) w) := by
 have hv := (zero_of_info (P := Tryd.prog) info61).1
 have hi := (zero_of_info (P := Tryd.prog) info61).2
 have hi' : (Tryd.prog.info? 106).map (·.size) = some (setV S).size := hi
 have hb : Below w.heap.size w (w.alloc (.cells (setV S) 106)) := (Below.refl _ w).alloc (Nat.le_refl _) _
 have hT1 : TabAt (w.alloc (.cells (setV S) 106)) := hT.below hb
 have h0 := heap_alloc_last w (.cells (setV S) 106)
 have Hb := Lib.hid hb
 clear hb
 go_enter Tryd.func84, Tryd.ntmps84
 go_wp2_with (refine wpList_load_row rfl 106 _ rfl w.heap.size rfl 106 _ _ _ h0 Tryd.underlying106 rfl hi' ?_)
 generalize hW : w.alloc (.cells (setV S) 106) = W at *
 go_loop [7] (fun s7 => ∃ i : Nat, i ≤ 4 ∧ s7 = .int .i64 i ∧ ∀ j, j < i → wd S j = 0) (fun s7 => 4 - (intOf s7).toNat)
 case atStart => exact ⟨0, by omega, rfl, fun j hj => absurd hj (by omega)⟩
 case round =>
  obtain ⟨i, hi4, rfl, hlow⟩ := hrel
  by_cases hlt : i < 4
  ·have hlt' : (i : Int) < 4 := by omega
   have hget := idx_any S i hlt W
   have hword := leastS_word S i hlt
   have hx := wd_lt S i
   have hstep : wd S i = 0 → ∀ j, j < i + 1 → wd S j = 0 := fun h j hj => by
    rcases Nat.lt_or_ge j i with h1 | h1
    ·exact hlow j h1
    ·obtain rfl : j = i := by omega
     exact h
   have Hlow := Lib.hid hlow
   clear hlow
   generalize wd S i = x at hget hword hx hstep
   have Hword := Lib.hid hword
   have Hstep := Lib.hid hstep
   clear hword hstep
   have hxi : (x : Int) < 18446744073709551616 := by omega
   generalize setV S = V at *
   by_cases hx0 : x = 0
   ·have hne : ((x : Int) != 0) = false := by simp [hx0]
    go_wp2
    go_round
    case rel => exact ⟨i + 1, by omega, rfl, Hstep.out hx0⟩
    case measure => simp [intOf]; omega
   ·have hne : ((x : Int) != 0) = true := by simp; omega
    have htz := tz_any x hx hx0 W hT1
    have Htz := Lib.hid htz
    clear htz
    obtain ⟨c, hc⟩ : ∃ c, Lib.ctz 64 x = c := ⟨_, rfl⟩
    have hc64 : c < 64 := by rw [← hc]; exact (ctz_bit x hx0 hx).2.2
    have hv : leastV S = .tuple #[.int .u8 ((i : Int) * 64 + (c : Int)), .bool true] := by
     rw [leastV, Hword.out hx0 Hlow.out, hc]
     simp only
     rw [show (((UInt8.ofNat (64 * i + c)).toNat : Nat) : Int) = (i : Int) * 64 + (c : Int) from by simp; omega]
    rw [hc] at Htz
    have Hv := Lib.hid hv
    clear hv hc
    go_wp2_with (go_at_call 99; refine Htz.out.mono ?_; rintro e w' ⟨rfl, rfl⟩)
    go_ret2
    rw [Hv.out]
    exact ⟨rfl, Hb.out⟩
  ·obtain rfl : i = 4 := by omega
   have hv : leastV S = .tuple #[.int .u8 0, .bool false] := by rw [leastV, leastS_none S hlow]
   have Hv := Lib.hid hv
   clear hv
   go_wp2
   go_ret2
   rw [Hv.out]
   exact ⟨rfl, Hb.out⟩
end Go.Proofs.YtdlchlbngojljaaDoor.Gl
