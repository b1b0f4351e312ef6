/- SameRules, SameFaults, of equal lists. -/
import Derived.Test.YtkkibibecgcbmaaGreatDoorKGz
namespace Go.Proofs.YtkkibibecgcbmaaGreatDoor
open Go.RowKit

set_option maxHeartbeats 2000000 in
set_option maxRecDepth 100000 in
/-- Equal lists are found equal, and nothing is written. -/
theorem same_q {w : World} {su sv : Value} {l : List Tm} (hl : l.length ≤ 1000000) (hu : tmT.Has w su l) (hv : tmT.Has w sv l) : Calls Tryz.prog 21 #[su, sv] w fun e w' => e = .returned (.bool true) ∧ ∃ n, w' = w.drewN n := by
  obtain ⟨au, cu, rfl, hu2⟩ := hu.form
  obtain ⟨av, cv, rfl, hv2⟩ := hv.form
  by_cases hn : l = []
  · subst hn
    have hz : ¬ ((0 : Int) < (([] : List Tm).length : Int)) := by simp
    have hz0 : ([] : List Tm).length = 0 := rfl
    clear hu hv hu2 hv2
    go_enter Tryz.func21, Tryz.ntmps21
    go_wp2
    go_loopw [5] (fun s5 wx => s5 = .int .i64 0 ∧ w = wx) (fun _ _ => 0)
    case atStart => exact ⟨rfl, rfl⟩
    case round =>
      obtain ⟨rfl, rfl⟩ := hrel
      go_wp2
      go_ret
      exact ⟨rfl, 0, rfl⟩
  · obtain ⟨b, o, rfl, hb, hr⟩ := hu2 hn
    obtain ⟨b', o', rfl, hb', hr'⟩ := hv2 hn
    have HW := Lib.hid hr
    have HW' := Lib.hid hr'
    have hm : Tryz.prog.eqGuardType Tryz.prog.depth 31 = false := by kernel_rfl
    have HQ := Lib.hid neq_tm
    clear hr hr' hu hv hu2 hv2
    go_enter Tryz.func21, Tryz.ntmps21
    go_wp2
    go_loopw [5] (fun s5 wx => ∃ i : Nat, i ≤ l.length ∧ s5 = .int .i64 (i : Int) ∧ ∃ n, wx = w.drewN n) (fun s5 _ => l.length - (intOf s5).toNat)
    case atStart => exact ⟨0, by omega, rfl, 0, rfl⟩
    case round =>
      obtain ⟨i, hi, rfl, n, rfl⟩ := hrel
      by_cases hlt : i < l.length
      · have hiz : (i : Int) < (l.length : Int) := by omega
        obtain ⟨x, hx⟩ : ∃ x, l[i]? = some x := ⟨_, List.getElem?_eq_getElem hlt⟩
        obtain ⟨a0, a1, a2, a3⟩ := tmRow HW.out hx
        obtain ⟨d0, d1, d2, d3⟩ := tmRow HW'.out hx
        have hwr : IntKind.i64.wrap ((i : Int) + 1) = ((i + 1 : Nat) : Int) := by rw [IntKind.wrap_i64]; omega
        have hqq := fun W => HQ.out x.key x.op (bs x.name) (bs x.val) W
        clear hx
        go_wp2
        go_quiet (fail)
        go_wp2
        exact ⟨⟨i + 1, by omega, rfl, _, rfl⟩, by simp [intOf]; omega⟩
      · have hiz : ¬ ((i : Int) < (l.length : Int)) := by omega
        go_wp2
        go_ret
        exact ⟨rfl, _, rfl⟩

def RV.pl (x : RV) : List UInt8 × Int × List Tm := (x.file, x.line, x.l)
/-- The terms lie where the rule says. -/
def InH (w : World) (x : RV) : Prop := tmT.Has w (.slice x.a x.n x.c) x.l ∧ x.l.length ≤ 1000000
theorem InH.kp0 {w w' : World} {x : RV} (h : InH w x) (hk : Kp [] w w') : InH w' x := ⟨h.1.kp0 hk, h.2⟩
set_option maxHeartbeats 4000000 in
set_option maxRecDepth 100000 in
theorem sameRules_any {w : World} {su sv : Value} {L M : List RV} (hl : L.length ≤ 1000000) (hu : rvT.Has w su L) (hv : rvT.Has w sv M) (hiu : ∀ x ∈ L, InH w x) (hiv : ∀ x ∈ M, InH w x) (he : L.map RV.pl = M.map RV.pl) : Calls Tryz.prog 26 #[su, sv] w fun e w' => e = .returned (.bool true) ∧ Kp [] w w' := by
  have hlm : L.length = M.length := by have := congrArg List.length he; simpa using this
  obtain ⟨au, cu, rfl, hu2⟩ := hu.form
  obtain ⟨av, cv, rfl, hv2⟩ := hv.form
  by_cases hn : L = []
  · subst hn
    obtain rfl : M = [] := List.length_eq_zero_iff.1 hlm.symm
    have hz : ¬ ((0 : Int) < (([] : List RV).length : Int)) := by simp
    have hz0 : ([] : List RV).length = 0 := rfl
    clear hu hv hu2 hv2 hiu hiv he
    go_enter Tryz.func26, Tryz.ntmps26
    go_wp2
    go_loopw [5] (fun s5 wx => s5 = .int .i64 0 ∧ w = wx) (fun _ _ => 0)
    case atStart => exact ⟨rfl, rfl⟩
    case round =>
      obtain ⟨rfl, rfl⟩ := hrel
      go_wp2
      go_ret
      exact ⟨rfl, Kp.refl _ _⟩
  · have hnm : M ≠ [] := fun h => hn (List.length_eq_zero_iff.1 (by rw [hlm, h]; rfl))
    obtain ⟨b, o, rfl, hb, hr⟩ := hu2 hn
    obtain ⟨b', o', rfl, hb', hr'⟩ := hv2 hnm
    rw [← hlm]
    have HW := Lib.hid hr
    have HW' := Lib.hid hr'
    have HU := Lib.hid hiu
    have HV := Lib.hid hiv
    have HE := Lib.hid he
    have HBL := Lib.hid hb
    have HBL' := Lib.hid hb'
    have HLM := Lib.hid hlm
    clear hr hr' hu hv hu2 hv2 hiu hiv he hb hb' hlm hn hnm
    go_enter Tryz.func26, Tryz.ntmps26
    go_wp2
    go_loopw [5] (fun s5 wx => ∃ i : Nat, i ≤ L.length ∧ s5 = .int .i64 (i : Int) ∧ Kp [] w wx) (fun s5 _ => L.length - (intOf s5).toNat)
    case atStart => exact ⟨0, by omega, rfl, Kp.refl _ _⟩
    case round =>
      obtain ⟨i, hi, rfl, hkp⟩ := hrel
      have HK := Lib.hid hkp
      by_cases hlt : i < L.length
      · have hiz : (i : Int) < (L.length : Int) := by omega
        obtain ⟨x, hx⟩ : ∃ x, L[i]? = some x := ⟨_, List.getElem?_eq_getElem hlt⟩
        obtain ⟨y, hy⟩ : ∃ y, M[i]? = some y := ⟨_, List.getElem?_eq_getElem (by have := HLM.out; omega)⟩
        have hxy : x.pl = y.pl := by
          have := congrArg (fun l => l[i]?) HE.out
          simpa [hx, hy] using this
        obtain ⟨xf, xl, xa, xn, xc, xt⟩ := x
        obtain ⟨yf, yl, ya, yn, yc, yt⟩ := y
        simp only [RV.pl, Prod.mk.injEq] at hxy
        obtain ⟨rfl, rfl, rfl⟩ := hxy
        obtain ⟨a0, a1, a2⟩ := rvRow (HW.out.keep (hkp.block _ HBL.out (by simp))) hx
        obtain ⟨d0, d1, d2⟩ := rvRow (HW'.out.keep (hkp.block _ HBL'.out (by simp))) hy
        simp only at a0 a1 a2 d0 d1 d2
        have hwr : IntKind.i64.wrap ((i : Int) + 1) = ((i + 1 : Nat) : Int) := by rw [IntKind.wrap_i64]; omega
        have hix := (HU.out _ (List.mem_of_getElem? hx)).kp0 hkp
        have hiy := (HV.out _ (List.mem_of_getElem? hy)).kp0 hkp
        have HSQ := Lib.hid fun n => same_q (w := wr.drewN n) hix.2 (hix.1.kp0 ((Kp.refl [] wr).drew n)) (hiy.1.kp0 ((Kp.refl [] wr).drew n))
        simp only at HSQ
        clear hx hy hkp hix hiy
        go_wp2
        go_quiet ((go_at_call 21; exact Calls.quiet_of (HSQ.out _)))
        go_wp2
        exact ⟨⟨i + 1, by omega, rfl, HK.out.trans ((Kp.refl [] wr).drew _)⟩, by simp [intOf]; omega⟩
      · have hiz : ¬ ((i : Int) < (L.length : Int)) := by omega
        clear hkp
        go_wp2
        go_ret
        exact ⟨rfl, HK.out⟩
end Go.Proofs.YtkkibibecgcbmaaGreatDoor
