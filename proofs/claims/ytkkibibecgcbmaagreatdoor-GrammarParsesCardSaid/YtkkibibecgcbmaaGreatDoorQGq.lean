/- Gq -/
import Derived.Test.YtkkibibecgcbmaaGreatDoorQI
open Go.Lib renaming hid → qH
set_option maxRecDepth 100000
set_option maxHeartbeats 16000000
namespace Go.Proofs.YtkkibibecgcbmaaGreatDoor
open Go.RowKit
def backB (z : Int) : Bool := match Lib.atoiAll (Lib.itoa z) with
 | .ok v => v == z
 | _ => false
theorem back_all : (List.range 2001).all (fun k => backB ((k : Int) - 1000)) = true := by decide +kernel
theorem back_itoa (z : Int) (h1 : -1000 ≤ z) (h2 : z ≤ 1000) : Lib.atoiAll (Lib.itoa z) = .ok z := by
 have := List.all_eq_true.1 back_all (z + 1000).toNat (List.mem_range.2 (by omega))
 rw [show (((z + 1000).toNat : Int) - 1000) = z by omega] at this
 unfold backB at this
 split at this
 ·rename_i v hv
  rw [hv]
  have : v = z := by simpa using this
  rw [this]
 ·cases this
theorem prio_yes (z : Int) (h1 : -1000 ≤ z) (h2 : z ≤ 1000) {s : List UInt8} (h : Lib.itoa z = s) : prioOk s = true := by
 subst h
 unfold prioOk
 rw [back_itoa z h1 h2]
 simp [h1, h2]
theorem prio_no {s : List UInt8} (h : ∀ m : Int, -1000 ≤ m → m < 1001 → Lib.itoa m ≠ s) : prioOk s = false := by
 cases hp : prioOk s with
 | false => rfl
 | true =>
  unfold prioOk at hp
  split at hp
  ·rename_i v hv
   simp only [Bool.and_eq_true, beq_iff_eq, decide_eq_true_eq] at hp
   exact absurd hp.1.1 (h v hp.1.2 (by omega))
  ·cases hp
theorem refPrio_any {w : World} (hE : Env w) (s : List UInt8) : Calls Tryz.prog 32 #[.string (bs s)] w fun e w' => ∃ m : Int, e = .returned (.tuple #[.int .i64 m, .bool (prioOk s)]) ∧ Kp [] w w' := by
 have HI := qH fun (z : Int) (h1 : -1000 ≤ z) (h2 : z ≤ 1000) (W : World) (h : Kp [] w W) => itoa_any (hE.kp0 h) z (by omega) (by omega)
 obtain ⟨r, hr⟩ : ∃ r, prioOk s = r := ⟨_, rfl⟩
 have HY := qH fun z h1 h2 (h : Lib.itoa z = s) => (prio_yes z h1 h2 h).symm.trans hr
 have HN := qH fun h => (prio_no (s := s) h).symm.trans hr
 rw [hr]
 clear hr hE
 go_enter Tryz.func32, Tryz.ntmps32
 go_wp2
 go_loopw [4] (fun s4 wx => ∃ z : Int, s4 = .int .i64 z ∧ -1000 ≤ z ∧ z ≤ 1001 ∧ (∀ m : Int, -1000 ≤ m → m < z → Lib.itoa m ≠ s) ∧ Kp [] w wx) (fun s4 _ => (1001 - intOf s4).toNat)
 case atStart => exact ⟨-1000, rfl, by omega, by omega, fun m h1 h2 => by omega, Kp.refl _ _⟩
 case round =>
  obtain ⟨z, rfl, h1, h2, hn, hk⟩ := hrel
  have HNN := qH hn
  have HK := qH hk
  clear hn
  by_cases hz : z = 1001
  ·subst hz
   obtain rfl := HN.out HNN.out
   clear h1 h2 hk
   go_wp2
   go_ret2
   exact ⟨⟨_, rfl⟩, HK.out⟩
  have hz2 : z ≤ 1000 := by omega
  have hwz : IntKind.i64.wrap (z + 1) = z + 1 := by rw [IntKind.wrap_i64]; omega
  have HC := qH (HI.out z h1 hz2 _ hk)
  have hs := str_eq (Lib.itoa z) s
  have HYY := qH (HY.out z h1 hz2)
  have H1 := qH h1
  have hst := fun (h : (Lib.itoa z == s) = false) (m : Int) (q1 : -1000 ≤ m) (q2 : m < z + 1) => (show Lib.itoa m ≠ s from by
   by_cases q : m = z
   ·subst q
    simpa using h
   ·exact HNN.out m q1 (by omega))
  have HST := qH hst
  clear hst h1 h2 hk
  generalize bs (Lib.itoa z) = q at *
  cases hb : (Lib.itoa z == s) with
  | true =>
   rw [hb] at hs
   obtain rfl := HYY.out (by simpa using hb)
   clear hb
   go_wp2_with (go_at_call 57; refine Calls.mono (by with_reducible exact HC.out) ?_; rintro e w1 ⟨rfl, hk1⟩; have HK1 := qH (HK.out.trans hk1); clear hk1)
   go_ret2
   exact ⟨_, rfl, HK1.out⟩
  | false =>
   rw [hb] at hs
   have HS2 := qH (HST.out hb)
   clear hb
   go_wp2_with (go_at_call 57; refine Calls.mono (by with_reducible exact HC.out) ?_; rintro e w1 ⟨rfl, hk1⟩; have HK1 := qH (HK.out.trans hk1); clear hk1)
   exact ⟨⟨z + 1, rfl, by have := H1.out; omega, by omega, HS2.out, HK1.out⟩, by simp only [intOf]; omega⟩
end Go.Proofs.YtkkibibecgcbmaaGreatDoor
