/- SubstituteParses: the walk. -/
import Derived.Test.YtfpkppgecmbglaaGreatDoorZT
import Derived.Test.YtfpkppgecmbglaaGreatDoorId
import Derived.Test.YtfpkppgecmbglaaGreatDoorZS
import Derived.Test.YtfpkppgecmbglaaGreatDoorLPlain
namespace Go.Proofs.YtfpkppgecmbglaaGreatDoor
open Go.RowKit

set_option maxHeartbeats 16000000 in
set_option maxRecDepth 100000 in
theorem substituteParses_list (raw : List UInt8) (a : Option Addr) (n c : Nat) (w : World) (hE : Env w) (g : Ints w w.heap.size (.slice a n c)) : Calls Tryz.prog 3 #[.string (bs raw), .slice a n c] w fun e w' => e = .returned (.bool true) ∧ Below w.heap.size w w' := by
  have HKN := Lib.hid (known_any hE)
  by_cases hraw : 600 < raw.length
  · have hrz : (600 : Int) < ((bs raw).size : Int) := by rw [bs_size]; omega
    clear hraw hE g
    go_enter Tryz.func3, Tryz.ntmps3
    go_wp2_with (go_at_call 11; refine Calls.mono (by with_reducible exact HKN.out) ?_; rintro r w1 ⟨rfl, hkp⟩)
    go_ret
    exact ⟨rfl, hkp.below (Nat.le_refl _) (by simp)⟩
  have hrz : ¬ (600 : Int) < ((bs raw).size : Int) := by rw [bs_size]; omega
  have HRW := Lib.hid (show raw.length ≤ 600 by omega)
  obtain ⟨tb, htb⟩ : ∃ tb, w.heap.size = tb := ⟨_, rfl⟩
  obtain ⟨W0, hW0⟩ : ∃ W0, w.alloc (.cells #[.slice a n c, .int .i64 0] 27) = W0 := ⟨_, rfl⟩
  have hk0 : Kp [] w W0 := by rw [← hW0]; exact (Kp.refl [] w).alloc _
  have hT0 : Tp W0 tb 0 := ⟨_, by rw [← hW0, ← htb]; exact heap_alloc_last w _, by rw [← htb]; exact g.keep fun b hb => hk0.block b hb (by simp)⟩
  have h8 : 8 ≤ tb := by rw [← htb]; exact hE.size
  have HE := Lib.hid (show ∀ W, Kp [tb] w W → Env W from fun W hk => hE.kp hk (by intro x hx; simp at hx; omega))
  have HK0 := Lib.hid (hk0.mono (t := [tb]) (by simp))
  have HTm := Lib.hid (template_any true (by omega) hT0)
  unfold TemplPost at HTm
  have HTB := Lib.hid htb
  have HW0 := Lib.hid hW0
  have HSM := Lib.hid fun (W : World) (u v : Value) (l : List Gp) (hl : l.length ≤ 1000) => same_any (w := W) (su := u) (sv := v) (l := l) (by omega)
  rw [htb]
  clear hE hk0 hT0 h8 g hW0 htb hraw HKN
  go_enter Tryz.func3, Tryz.ntmps3
  go_wp2_with fail
  rw [HTB.out, HW0.out]
  refine Calls.mono (by with_reducible exact HTm.out) ?_
  rintro e w1 ⟨t, q, htl, hq, rfl, hT1, hk1⟩
  obtain ⟨L, hL⟩ : ∃ L, w1.heap.size = L := ⟨_, rfl⟩
  obtain ⟨W3, hW3⟩ : ∃ W3, w1.alloc (.cells #[.string (bs raw), .string (bs t)] 9) = W3 := ⟨_, rfl⟩
  have hk3 : Kp [] w1 W3 := by rw [← hW3]; exact (Kp.refl [] w1).alloc _
  have hLb : W3.heap[L]? = some (.cells #[.string (bs raw), .string (bs t)] 9 (0, 0)) := by rw [← hW3, ← hL]; exact heap_alloc_last w1 _
  have HK3 := Lib.hid (HK0.out.trans (hk1.trans (hk3.mono (by simp))))
  have HROW := Lib.hid (show ∀ i, i < 2 → ∃ x : List UInt8, x.length ≤ 600 ∧ ∀ W, Kp [] W3 W → W.cell? ⟨L, i, none⟩ = some (.string (bs x)) from fun i hi => by
    have hr := HRW.out
    have h01 : i = 0 ∨ i = 1 := by omega
    rcases h01 with rfl | rfl
    · exact ⟨raw, hr, fun W hk => by rw [cell_of_row _ _ _ _ _ _ ((hk.block L (block_lt hLb) (by simp)).trans hLb)]; rfl⟩
    · exact ⟨t, by omega, fun W hk => by rw [cell_of_row _ _ _ _ _ _ ((hk.block L (block_lt hLb) (by simp)).trans hLb)]; rfl⟩)
  have HE3 := Lib.hid (show ∀ W, Kp [] W3 W → Env W from fun W hk => HE.out W (HK3.out.trans (hk.mono (by simp))))
  have HW3 := Lib.hid hW3
  have HL := Lib.hid hL
  clear hT1 hk1 hk3 hLb hW3 hL HTm HE
  go_upto_region 4 with fail
  rw [HL.out, HW3.out]
  go_wp2
  go_loopg [6, 7, 8, 9, 10] 2 (fun g s6 s7 s8 s9 s10 wx => ∃ i : Nat, s6 = .int .i64 (i : Int) ∧ i + g = 2 ∧ Kp [] W3 wx)
  case atStart => exact ⟨0, rfl, by omega, Kp.refl _ _⟩
  case round =>
    obtain ⟨i, rfl, hig, hk⟩ := hrel
    have HK := Lib.hid hk
    have HIG := Lib.hid hig
    cases gk with
    | zero =>
      have hiz : ¬ (i : Int) < (2 : Int) := by omega
      have HKF := Lib.hid (known_any (HE3.out _ hk))
      clear hk hig
      go_wp2_with (go_at_call 11; refine Calls.mono (by with_reducible exact HKF.out) ?_; rintro r w7 ⟨rfl, hkp⟩; have HK7 := Lib.hid (HK.out.trans hkp); clear hkp)
      go_ret
      exact ⟨rfl, (HK3.out.trans (HK7.out.mono (by simp))).below (by rw [HTB.out]; exact Nat.le_refl _) (by simp)⟩
    | succ gk =>
      have hil : i < 2 := by omega
      have hiz : (i : Int) < (2 : Int) := by omega
      obtain ⟨x, hxl, hx⟩ := HROW.out i hil
      have HCL := Lib.hid (show ∀ W, Kp [] wr W → W.cell? ⟨L, i, none⟩ = some (.string (bs x)) from fun W h => hx W (hk.trans h))
      have q0 := HCL.out _ (Kp.refl [] wr)
      have HP := Lib.hid fun W (h : Kp [] wr W) => parse_any (HE3.out W (HK.out.trans h)) x (by omega)
      have HR := Lib.hid fun W (h : Kp [] wr W) => refParse_any (HE3.out W (HK.out.trans h)) x (by omega)
      have HC := Lib.hid fun W (h : Kp [] wr W) => check_any (HE3.out W (HK.out.trans h)) x (by omega)
      have hPL : (parseE x).1.length ≤ 256 := (parseE_read x).2
      unfold ParsePost at HP HR
      obtain ⟨P, e, hpe⟩ : ∃ P e, parseE x = (P, e) := ⟨_, _, rfl⟩
      rw [hpe] at HP HR HC hPL
      simp only at HP HR HC hPL
      have HPL := Lib.hid (show (P.map Pc.g).length ≤ 1000 by rw [List.length_map]; omega)
      have HKr := Lib.hid (Kp.refl [] wr)
      clear hk hig hil hx hpe hPL hxl
      go_wp2_with (first
        | (go_at_call 13; refine Calls.mono (by with_reducible exact HP.out _ HKr.out) ?_; rintro r w6 ⟨v6, rfl, ho6, hkp⟩; have HK6 := Lib.hid hkp; have HO6 := Lib.hid ho6; have q1 := HCL.out _ hkp; clear hkp ho6)
        | (go_at_call 14; refine Calls.mono (by with_reducible exact HR.out _ HK6.out) ?_; rintro r w7 ⟨v7, rfl, ho7, hkp⟩; have HK7 := Lib.hid (HK6.out.trans hkp); have HO7 := Lib.hid ho7; have HO67 := Lib.hid (HO6.out.kp0 hkp); clear hkp ho7)
        | (go_at_call 15; refine Calls.mono (by with_reducible exact HSM.out _ _ _ _ HPL.out HO67.out.has HO7.out.has) ?_; rintro r w8 ⟨rfl, hkp⟩; have HK8 := Lib.hid (HK7.out.trans hkp); have q2 := HCL.out _ HK8.out; clear hkp)
        | (go_at_call 16; refine Calls.mono (by with_reducible exact HC.out _ HK8.out) ?_; rintro r w9 ⟨rfl, hkp⟩; have HK9 := Lib.hid (HK8.out.trans hkp); clear hkp))
      go_roundg gk
      case measure => omega
      case rel => exact ⟨i + 1, by go_num, by have := HIG.out; omega, HK.out.trans HK9.out⟩
theorem substituteParses_walk (s : ByteArray) (a : Option Addr) (n c : Nat) (w : World) (hE : Env w) (g : Ints w w.heap.size (.slice a n c)) : Calls Tryz.prog 3 #[.string s, .slice a n c] w fun e w' => e = .returned (.bool true) ∧ Below w.heap.size w w' := by
  rw [← bs_of s]
  exact substituteParses_list _ a n c w hE g
end Go.Proofs.YtfpkppgecmbglaaGreatDoor
