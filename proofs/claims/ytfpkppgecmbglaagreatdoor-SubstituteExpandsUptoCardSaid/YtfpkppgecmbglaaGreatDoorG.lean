/- kindOf, spellingLength. -/
import Derived.Test.YtfpkppgecmbglaaGreatDoorF
namespace Go.Proofs.YtfpkppgecmbglaaGreatDoor
open Go.RowKit

theorem idx_sp (i : Nat) (hi : i < 12) (W : World) : ∃ a b, spL[i]? = some (a, b) ∧ (Instr.index 106 (.agg spA) (.int .i64 (i : Int))).run Tryz.prog W = .ok (.agg #[.string (bs a), .string (bs b)]) W := by
  have hc : i = 0 ∨ i = 1 ∨ i = 2 ∨ i = 3 ∨ i = 4 ∨ i = 5 ∨ i = 6 ∨ i = 7 ∨ i = 8 ∨ i = 9 ∨ i = 10 ∨ i = 11 := by omega
  rcases hc with rfl | rfl | rfl | rfl | rfl | rfl | rfl | rfl | rfl | rfl | rfl | rfl <;> exact ⟨_, _, rfl, by kernel_rfl⟩
theorem str_eq (a b : List UInt8) : ((bs a).toList == (bs b).toList) = (a == b) := by rw [Lib.toList_data, Lib.toList_data, bs_data, bs_data]
set_option maxHeartbeats 4000000 in
set_option maxRecDepth 100000 in
theorem kindOf_any (s : List UInt8) (w : World) : Calls Tryz.prog 63 #[.string (bs s)] w fun e w' => e = .returned (.int .i64 (kindS s : Int)) ∧ Kp [] w w' := by
  obtain ⟨K, hK⟩ : ∃ K, kindS s = K := ⟨_, rfl⟩
  have hA := fun i (hi : i < 12) (h : mS s i = true) (hn : ∀ j, j < i → mS s j = false) => (kindS_at hi h hn).symm.trans hK
  have hB := fun (hn : ∀ j, j < 12 → mS s j = false) => (kindS_no hn).symm.trans hK
  rw [hK]
  clear hK
  have HA := Lib.hid hA
  have HB := Lib.hid hB
  have HS := Lib.hid fun W => spellings_any W
  clear hA hB
  go_enter Tryz.func63, Tryz.ntmps63
  go_wp2_with (go_at_call 70; refine Calls.mono (by with_reducible exact HS.out _) ?_; rintro e w1 ⟨rfl, rfl⟩)
  go_loopw [6] (fun s6 wx => ∃ i : Nat, i ≤ 12 ∧ s6 = .int .i64 i ∧ (∀ j, j < i → mS s j = false) ∧ Kp [] w wx) (fun s6 _ => 12 - (intOf s6).toNat)
  case atStart => exact ⟨0, by omega, rfl, fun j hj => absurd hj (Nat.not_lt_zero _), (Kp.refl [] w).alloc _⟩
  case round =>
    obtain ⟨i, hi, rfl, hn, hk⟩ := hrel
    have HN := Lib.hid hn
    have HK := Lib.hid hk
    clear hn hk
    by_cases hc : i = 12
    · subst hc
      obtain rfl := HB.out HN.out
      go_wp2
      go_ret
      exact ⟨rfl, HK.out⟩
    have hi2 : i < 12 := by omega
    have hi3 : (i : Int) < 12 := by omega
    obtain ⟨a, b, hab, hrun⟩ := idx_sp i hi2 wr
    have hm : mS s i = ((s == a) || (s == b)) := by unfold mS; rw [hab]
    have h1 := str_eq s a
    have h2 := str_eq s b
    have hA := HA.out i hi2
    rw [hm] at hA
    have hstep : (s == a) = false → (s == b) = false → ∀ j, j < i + 1 → mS s j = false := fun e1 e2 j hj => by
      by_cases e : j = i
      · subst e
        rw [hm, e1, e2]
        rfl
      · exact HN.out j (by omega)
    have HST := Lib.hid hstep
    have HAA := Lib.hid hA
    clear hA hstep hm hab
    cases e1 : (s == a) with
    | true =>
      rw [e1] at h1
      obtain rfl := HAA.out (by rw [e1]; rfl) HN.out
      clear e1
      go_wp2
      go_ret
      exact ⟨rfl, HK.out.alloc _⟩
    | false =>
      rw [e1] at h1
      cases e2 : (s == b) with
      | true =>
        rw [e2] at h2
        obtain rfl := HAA.out (by rw [e2, Bool.or_true]) HN.out
        clear e1 e2
        go_wp2
        go_ret
        exact ⟨rfl, HK.out.alloc _⟩
      | false =>
        rw [e2] at h2
        have HX := Lib.hid (HST.out e1 e2)
        clear e1 e2
        go_wp2
        go_roundw
        case rel => exact ⟨i + 1, by omega, by go_num, HX.out, HK.out.alloc _⟩
        case measure => simp [intOf]; omega
end Go.Proofs.YtfpkppgecmbglaaGreatDoor
