/- Same: equal lists are found equal. -/
import Derived.Test.YtfpkppgecmbglaaGreatDoorW
namespace Go.Proofs.YtfpkppgecmbglaaGreatDoor
open Go.RowKit

theorem neq_pc (k : Int) (t : ByteArray) (n : Int) (m : Bool) (W : World) : (binOp .neq 61 (.agg #[.int .i64 k, .string t, .int .i64 n, .bool m]) (.agg #[.int .i64 k, .string t, .int .i64 n, .bool m])).run Tryz.prog W = .ok (.bool false) W := by
  have hS : Tryz.prog.underlying 61 = some (.struct (Tryz.prog.fieldsOf 61)) := by kernel_rfl
  have hp : Tryz.prog.stoodInHeld 61 = false := by kernel_rfl
  have u9 := Tryz.underlying9
  have a9 := Tryz.isAgg9
  have z9 := Tryz.sizeOf9
  have u3 := Tryz.underlying3
  have a3 := Tryz.isAgg3
  have z3 := Tryz.sizeOf3
  have u4 := Tryz.underlying4
  have a4 := Tryz.isAgg4
  have z4 := Tryz.sizeOf4
  rw [run_neq_struct, show (10000 : Nat) = 9999 + 1 from rfl, run_equalIn_agg W 9999 61 _ _ hS hp]
  simp only [Program.fieldsOf, Tryz.underlying61]
  go_simp
set_option maxHeartbeats 2000000 in
set_option maxRecDepth 100000 in
theorem same_any {w : World} {su sv : Value} {l : List Gp} (hl : l.length ≤ 9223372036854775806) (hu : gpT.Has w su l) (hv : gpT.Has w sv l) : Calls Tryz.prog 15 #[su, sv] w fun e w' => e = .returned (.bool true) ∧ Kp [] w w' := by
  obtain ⟨au, cu, rfl, hu2⟩ := hu.form
  obtain ⟨av, cv, rfl, hv2⟩ := hv.form
  by_cases hn : l = []
  · subst hn
    have hz : ¬ ((0 : Int) < (([] : List Gp).length : Int)) := by simp
    have hz0 : ([] : List Gp).length = 0 := rfl
    clear hu hv hu2 hv2
    go_enter Tryz.func15, Tryz.ntmps15
    go_wp2
    go_loopw [5] (fun s5 wx => s5 = .int .i64 0 ∧ w = wx) (fun _ _ => 0)
    case atStart => exact ⟨rfl, rfl⟩
    case round =>
      obtain ⟨rfl, rfl⟩ := hrel
      go_wp2
      go_ret
      exact ⟨rfl, Kp.refl _ _⟩
  · obtain ⟨b, o, rfl, hb, hr⟩ := hu2 hn
    obtain ⟨b', o', rfl, hb', hr'⟩ := hv2 hn
    have HW := Lib.hid hr
    have HW' := Lib.hid hr'
    have hm : Tryz.prog.eqGuardType Tryz.prog.depth 61 = false := by kernel_rfl
    have HQ := Lib.hid neq_pc
    clear hr hr' hu hv hu2 hv2
    go_enter Tryz.func15, Tryz.ntmps15
    go_wp2
    go_loopw [5] (fun s5 wx => ∃ i : Nat, i ≤ l.length ∧ s5 = .int .i64 (i : Int) ∧ ∃ n, wx = w.drewN n) (fun s5 _ => l.length - (intOf s5).toNat)
    case atStart => exact ⟨0, by omega, rfl, 0, rfl⟩
    case round =>
      obtain ⟨i, hi, rfl, n, rfl⟩ := hrel
      by_cases hlt : i < l.length
      · have hiz : (i : Int) < (l.length : Int) := by omega
        obtain ⟨x, hx⟩ : ∃ x, l[i]? = some x := ⟨_, List.getElem?_eq_getElem hlt⟩
        obtain ⟨a0, a1, a2, a3⟩ := gpRow HW.out hx
        obtain ⟨d0, d1, d2, d3⟩ := gpRow HW'.out hx
        have hwr : IntKind.i64.wrap ((i : Int) + 1) = ((i + 1 : Nat) : Int) := by rw [IntKind.wrap_i64]; omega
        have hqq := fun W => HQ.out x.kind (bs x.text) x.word x.more W
        clear hx
        go_wp2
        go_quiet (fail)
        go_wp2
        exact ⟨⟨i + 1, by omega, rfl, _, rfl⟩, by simp [intOf]; omega⟩
      · have hiz : ¬ ((i : Int) < (l.length : Int)) := by omega
        go_wp2
        go_ret
        exact ⟨rfl, (Kp.refl [] w).drew _⟩
end Go.Proofs.YtfpkppgecmbglaaGreatDoor
