/- The reference's Same and SameLines, of equal lists. -/
import Derived.Test.YtccmlodocfpbhaaDoorF
namespace Go.Proofs.YtccmlodocfpbhaaDoor
open Go.RowKit

theorem neq_ln (a : Int) (p : ByteArray) (W : World) : (binOp .neq 53 (.agg #[.int .i64 a, .string p]) (.agg #[.int .i64 a, .string p])).run Tryd.prog W = .ok (.bool false) W := by
  have hS : Tryd.prog.underlying 53 = some (.struct (Tryd.prog.fieldsOf 53)) := by kernel_rfl
  have hp : Tryd.prog.stoodInHeld 53 = false := by kernel_rfl
  have u3 := Tryd.underlying3
  have a3 := Tryd.isAgg3
  have z3 := Tryd.sizeOf3
  have u9 := Tryd.underlying9
  have a9 := Tryd.isAgg9
  have z9 := Tryd.sizeOf9
  rw [run_neq_struct, show (10000 : Nat) = 9999 + 1 from rfl, run_equalIn_agg W 9999 53 _ _ hS hp]
  simp only [Program.fieldsOf, Tryd.underlying53]
  go_simp
theorem neq_tok (k n o v : ByteArray) (W : World) : (binOp .neq 43 (.agg #[.string k, .string n, .string o, .string v]) (.agg #[.string k, .string n, .string o, .string v])).run Tryd.prog W = .ok (.bool false) W := by
  have hS : Tryd.prog.underlying 43 = some (.struct (Tryd.prog.fieldsOf 43)) := by kernel_rfl
  have hp : Tryd.prog.stoodInHeld 43 = false := by kernel_rfl
  have u9 := Tryd.underlying9
  have a9 := Tryd.isAgg9
  have z9 := Tryd.sizeOf9
  rw [run_neq_struct, show (10000 : Nat) = 9999 + 1 from rfl, run_equalIn_agg W 9999 43 _ _ hS hp]
  simp only [Program.fieldsOf, Tryd.underlying43]
  go_simp
set_option maxHeartbeats 2000000 in
set_option maxRecDepth 100000 in
/-- Equal lists are found equal. -/
theorem sameLines_any {w : World} {su sv : Value} {l : List Ln} (hl : l.length ≤ 9223372036854775806) (hu : lnT.Has w su l) (hv : lnT.Has w sv l) : Calls Tryd.prog 11 #[su, sv] w fun e w' => e = .returned (.bool true) ∧ Kp [] w w' := by
  obtain ⟨au, cu, rfl, hu2⟩ := hu.form
  obtain ⟨av, cv, rfl, hv2⟩ := hv.form
  by_cases hn : l = []
  · subst hn
    have hz : ¬ ((0 : Int) < (([] : List Ln).length : Int)) := by simp
    have hz0 : ([] : List Ln).length = 0 := rfl
    clear hu hv hu2 hv2
    go_enter Tryd.func11, Tryd.ntmps11
    go_wp2
    go_loopw [5] (fun s5 wx => s5 = .int .i64 0 ∧ w = wx) (fun _ _ => 0)
    case atStart => exact ⟨rfl, rfl⟩
    case round =>
      obtain ⟨rfl, rfl⟩ := hrel
      go_wp2
      go_ret
      exact ⟨rfl, Kp.refl _ _⟩
  · obtain ⟨b, o, rfl, hb, hr⟩ := hu2 hn
    obtain ⟨b', o', rfl, hb', hr'⟩ := hv2 hn
    have HW := Lib.hid hr
    have HW' := Lib.hid hr'
    have hm : Tryd.prog.eqGuardType Tryd.prog.depth 53 = false := by kernel_rfl
    have HQ := Lib.hid neq_ln
    clear hr hr' hu hv hu2 hv2
    go_enter Tryd.func11, Tryd.ntmps11
    go_wp2
    go_loopw [5] (fun s5 wx => ∃ i : Nat, i ≤ l.length ∧ s5 = .int .i64 (i : Int) ∧ ∃ n, wx = w.drewN n) (fun s5 _ => l.length - (intOf s5).toNat)
    case atStart => exact ⟨0, by omega, rfl, 0, rfl⟩
    case round =>
      obtain ⟨i, hi, rfl, n, rfl⟩ := hrel
      by_cases hlt : i < l.length
      · have hiz : (i : Int) < (l.length : Int) := by omega
        obtain ⟨x, hx⟩ : ∃ x, l[i]? = some x := ⟨_, List.getElem?_eq_getElem hlt⟩
        obtain ⟨a0, a1⟩ := lnRow HW.out hx
        obtain ⟨d0, d1⟩ := lnRow HW'.out hx
        have hwr : IntKind.i64.wrap ((i : Int) + 1) = ((i + 1 : Nat) : Int) := by rw [IntKind.wrap_i64]; omega
        have hqq := fun W => HQ.out (x.1 : Int) (bs x.2) W
        clear hx
        go_wp2
        go_quiet (fail)
        go_wp2
        exact ⟨⟨i + 1, by omega, rfl, _, rfl⟩, by simp [intOf]; omega⟩
      · have hiz : ¬ ((i : Int) < (l.length : Int)) := by omega
        go_wp2
        go_ret
        exact ⟨rfl, (Kp.refl [] w).drew _⟩
set_option maxHeartbeats 2000000 in
set_option maxRecDepth 100000 in
/-- Equal lists are found equal. -/
theorem same_any {w : World} {su sv : Value} {l : List Tok} (hl : l.length ≤ 9223372036854775806) (hu : tokT.Has w su l) (hv : tokT.Has w sv l) : Calls Tryd.prog 17 #[su, sv] w fun e w' => e = .returned (.bool true) ∧ Kp [] w w' := by
  obtain ⟨au, cu, rfl, hu2⟩ := hu.form
  obtain ⟨av, cv, rfl, hv2⟩ := hv.form
  by_cases hn : l = []
  · subst hn
    have hz : ¬ ((0 : Int) < (([] : List Tok).length : Int)) := by simp
    have hz0 : ([] : List Tok).length = 0 := rfl
    clear hu hv hu2 hv2
    go_enter Tryd.func17, Tryd.ntmps17
    go_wp2
    go_loopw [5] (fun s5 wx => s5 = .int .i64 0 ∧ w = wx) (fun _ _ => 0)
    case atStart => exact ⟨rfl, rfl⟩
    case round =>
      obtain ⟨rfl, rfl⟩ := hrel
      go_wp2
      go_ret
      exact ⟨rfl, Kp.refl _ _⟩
  · obtain ⟨b, o, rfl, hb, hr⟩ := hu2 hn
    obtain ⟨b', o', rfl, hb', hr'⟩ := hv2 hn
    have HW := Lib.hid hr
    have HW' := Lib.hid hr'
    have hm : Tryd.prog.eqGuardType Tryd.prog.depth 43 = false := by kernel_rfl
    have HQ := Lib.hid neq_tok
    clear hr hr' hu hv hu2 hv2
    go_enter Tryd.func17, Tryd.ntmps17
    go_wp2
    go_loopw [5] (fun s5 wx => ∃ i : Nat, i ≤ l.length ∧ s5 = .int .i64 (i : Int) ∧ ∃ n, wx = w.drewN n) (fun s5 _ => l.length - (intOf s5).toNat)
    case atStart => exact ⟨0, by omega, rfl, 0, rfl⟩
    case round =>
      obtain ⟨i, hi, rfl, n, rfl⟩ := hrel
      by_cases hlt : i < l.length
      · have hiz : (i : Int) < (l.length : Int) := by omega
        obtain ⟨x, hx⟩ : ∃ x, l[i]? = some x := ⟨_, List.getElem?_eq_getElem hlt⟩
        obtain ⟨a0, a1, a2, a3⟩ := tokRow HW.out hx
        obtain ⟨d0, d1, d2, d3⟩ := tokRow HW'.out hx
        have hwr : IntKind.i64.wrap ((i : Int) + 1) = ((i + 1 : Nat) : Int) := by rw [IntKind.wrap_i64]; omega
        have hqq := fun W => HQ.out (bs x.key) (bs x.name) (bs x.op) (bs x.val) W
        clear hx
        go_wp2
        go_quiet (fail)
        go_wp2
        exact ⟨⟨i + 1, by omega, rfl, _, rfl⟩, by simp [intOf]; omega⟩
      · have hiz : ¬ ((i : Int) < (l.length : Int)) := by omega
        go_wp2
        go_ret
        exact ⟨rfl, (Kp.refl [] w).drew _⟩
end Go.Proofs.YtccmlodocfpbhaaDoor
