/- GrammarFormats: the walk. -/
import Derived.Test.YtkkibibecgcbmaaGreatDoorKIh
import Derived.Test.YtkkibibecgcbmaaGreatDoorKGx
namespace Go.Proofs.YtkkibibecgcbmaaGreatDoor
open Go.RowKit
set_option maxHeartbeats 8000000 in
set_option maxRecDepth 100000 in
theorem grammarFormats_list {rv : Value} {R : List Tm} {w : World} (hR : tmT.Has w rv R) (hRs : ∀ x ∈ R, SmT x) (a : Option Addr) (n c : Nat) (hE : Env w) (hi : Ints w w.heap.size (.slice a n c)) : Calls Tryz.prog 5 #[rv, .slice a n c] w fun e w' => e = .returned (.bool true) ∧ Kp [] w w' := by
 obtain ⟨ra, rc, rfl, _⟩ := hR.form
 have HKN := Lib.hid fun W (h : Kp [] w W) => known_any (hE.kp0 h)
 by_cases h30 : 30 < R.length
 ·have hz : (30 : Int) < (R.length : Int) := by omega
  have hk := Kp.refl [] w
  clear h30 hE hi hR hRs
  go_enter Tryz.func5, Tryz.ntmps5
  go_wp2_with (go_at_call 11; refine Calls.mono (by with_reducible exact HKN.out _ hk) ?_; rintro r w1 ⟨rfl, hkp⟩)
  go_ret
  exact ⟨rfl, hkp⟩
 have hz : ¬ (30 : Int) < (R.length : Int) := by omega
 have hRl : R.length ≤ 1000000 := by omega
 obtain ⟨s1, z1, hz1⟩ : ∃ s z, formatG R = (s, z) := ⟨_, _, rfl⟩
 have HPR := Lib.hid fun W (h : Kp [] w W) => gformat_any (hE.kp0 h) (hR.kp0 h) hRl hRs
 have HRR := Lib.hid fun W (h : Kp [] w W) => refGFormat_any (hE.kp0 h) (hR.kp0 h) hRl hRs
 rw [hz1] at HPR HRR
 have HE := Lib.hid hE
 obtain ⟨tb, htb⟩ : ∃ tb, w.heap.size = tb := ⟨_, rfl⟩
 obtain ⟨w1, hw1⟩ : ∃ w1, w.alloc (.cells #[.slice a n c, .int .i64 0] 28) = w1 := ⟨_, rfl⟩
 have ht0 := tape_new hi
 rw [hw1, htb] at ht0
 have hk1 : Kp [] w w1 := by rw [← hw1]; exact (Kp.refl [] w).alloc _
 have HTW := Lib.hid (show w.heap.size ≤ tb by omega)
 have HK1 := Lib.hid hk1
 have HS := Lib.hid (spoilt_any (n := 0) (by omega) ht0.lt ⟨0, Nat.le_refl _, ht0⟩)
 clear ht0 hi hk1 hE hR hRs h30 hz1 hRl
 go_enter Tryz.func5, Tryz.ntmps5
 go_wp2_with (go_at_call 12; refine Calls.mono (by with_reducible exact HS.out) ?_; rintro r w2 ⟨v, l, rfl, ho, hl, hsm, _, hkp⟩; obtain ⟨av, cv, rfl⟩ := ho.form; have HK2 := Lib.hid (HK1.out.off hkp HTW.out); have HO := Lib.hid ho; have HSM := Lib.hid hsm; have HL := Lib.hid hl; clear ho hsm hl hkp; obtain ⟨LB, hLB⟩ : ∃ b, w2.heap.size = b := ⟨_, rfl⟩; obtain ⟨w3, hw3⟩ : ∃ W, w2.alloc (.cells #[.slice ra R.length rc, .slice av l.length cv] 22) = W := ⟨_, rfl⟩; have hk3 : Kp [] w2 w3 := (by rw [← hw3]; exact (Kp.refl [] _).alloc _); have HB3 := Lib.hid (show w3.heap[LB]? = some (.cells #[.slice ra R.length rc, .slice av l.length cv] 22 (0, 0)) by rw [← hw3, ← hLB]; exact heap_alloc_last _ _); have HK3 := Lib.hid (HK2.out.trans hk3); have HO3 := Lib.hid (HO.out.kp0 hk3); clear hk3)
 obtain ⟨s2, z2, hz2⟩ : ∃ s z, formatG l = (s, z) := ⟨_, _, rfl⟩
 have hl40 : l.length ≤ 40 := HL.out
 have HPL := Lib.hid fun W (h : Kp [] w3 W) => gformat_any (HE.out.kp0 (HK3.out.trans h)) (HO3.out.has.kp0 h) (by omega) HSM.out
 have HRL := Lib.hid fun W (h : Kp [] w3 W) => refGFormat_any (HE.out.kp0 (HK3.out.trans h)) (HO3.out.has.kp0 h) (by omega) HSM.out
 rw [hz2] at HPL HRL
 clear hz2
 go_loopg [6, 7, 8, 9, 10] 2 (fun g s6 s7 s8 s9 s10 wx => ∃ i : Nat, s6 = .int .i64 (i : Int) ∧ i + g = 2 ∧ Kp [] w3 wx)
 case atStart => exact ⟨0, rfl, by omega, Kp.refl _ _⟩
 case round =>
  obtain ⟨i, rfl, hig, hk⟩ := hrel
  have HK := Lib.hid hk
  have hb := (hk.block LB (block_lt HB3.out) (by simp)).trans HB3.out
  have HBW := Lib.hid fun W (h : Kp [] wr W) => (h.block LB (block_lt hb) (by simp)).trans hb
  have hi3 : (i = 0 ∧ gk = 2) ∨ (i = 1 ∧ gk = 1) ∨ (i = 2 ∧ gk = 0) := by omega
  clear hig
  rcases hi3 with ⟨rfl, rfl⟩ | ⟨rfl, rfl⟩ | ⟨rfl, rfl⟩
  ·clear hl40
   have q0 : wr.cell? ⟨LB, 0, none⟩ = some (.slice ra R.length rc) := by rw [cell_of_row _ _ _ _ _ _ hb]; rfl
   clear hk hb
   go_wp2_with (first
    | (go_at_call 22; refine Calls.mono (by with_reducible exact HPR.out _ (HK3.out.trans HK.out)) ?_; rintro r w4 ⟨rfl, hkp⟩; have HK4 := Lib.hid (HK.out.trans hkp); have q1 : w4.cell? ⟨LB, 0, none⟩ = some (.slice ra R.length rc) := (by rw [cell_of_row _ _ _ _ _ _ (HBW.out _ hkp)]; rfl); clear hkp)
    | (go_at_call 23; refine Calls.mono (by with_reducible exact HRR.out _ (HK3.out.trans HK4.out)) ?_; rintro r w5 ⟨rfl, hkp⟩; have HK5 := Lib.hid (HK4.out.trans hkp); clear hkp))
   go_roundg 1
   case measure => omega
   case rel => exact ⟨1, rfl, rfl, HK5.out⟩
  ·clear hl40
   have q0 : wr.cell? ⟨LB, 1, none⟩ = some (.slice av l.length cv) := by rw [cell_of_row _ _ _ _ _ _ hb]; rfl
   clear hk hb
   go_wp2_with (first
    | (go_at_call 22; refine Calls.mono (by with_reducible exact HPL.out _ HK.out) ?_; rintro r w4 ⟨rfl, hkp⟩; have HK4 := Lib.hid (HK.out.trans hkp); have q1 : w4.cell? ⟨LB, 1, none⟩ = some (.slice av l.length cv) := (by rw [cell_of_row _ _ _ _ _ _ (HBW.out _ hkp)]; rfl); clear hkp)
    | (go_at_call 23; refine Calls.mono (by with_reducible exact HRL.out _ HK4.out) ?_; rintro r w5 ⟨rfl, hkp⟩; have HK5 := Lib.hid (HK4.out.trans hkp); clear hkp))
   go_roundg 0
   case measure => omega
   case rel => exact ⟨2, rfl, rfl, HK5.out⟩
  ·clear hl40
   clear hk hb
   go_wp2_with (go_at_call 11; refine Calls.mono (by with_reducible exact HKN.out _ (HK3.out.trans HK.out)) ?_; rintro r w7 ⟨rfl, hkp⟩; have HK7 := Lib.hid ((HK3.out.trans HK.out).trans hkp); clear hkp)
   go_ret
   exact ⟨rfl, HK7.out⟩
theorem grammarFormats_walk {R : List Tm} (rv : Value) (a : Option Addr) (n c : Nat) (w : World) (hE : Env w) (g0 : tmT.Has w rv R ∧ ∀ x ∈ R, SmT x) (hi : Ints w w.heap.size (.slice a n c)) : Calls Tryz.prog 5 #[rv, .slice a n c] w fun e w' => e = .returned (.bool true) ∧ Below w.heap.size w w' :=
 (grammarFormats_list g0.1 g0.2 a n c hE hi).mono fun _ _ ⟨h1, h2⟩ => ⟨h1, h2.below (Nat.le_refl _) (by simp)⟩
end Go.Proofs.YtkkibibecgcbmaaGreatDoor
