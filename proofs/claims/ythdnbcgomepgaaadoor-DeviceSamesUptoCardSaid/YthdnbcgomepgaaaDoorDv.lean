/- Devices: slices.Equal; when two are equal. -/
import Derived.Test.YthdnbcgomepgaaaDoorJ
namespace Go.Proofs.YthdnbcgomepgaaaDoor
open Go.RowKit

/-- When two devices are equal. -/
def sameD (d : Dev) (l : List Atr) (e : Dev) (m : List Atr) : Bool :=
  decide (d.idx = e.idx) && (decide (d.par = e.par) && (decide (d.name = e.name) && (decide (d.orig = e.orig) && (decide (d.sub = e.sub) && (decide (d.drv = e.drv) && (decide (d.ali = e.ali) && (decide (d.kind = e.kind) && (decide (d.num = e.num) && decide (l = m)))))))))

set_option maxHeartbeats 1000000 in
set_option maxRecDepth 100000 in
theorem equal_any (su sv : Value) (l m : List Atr) (w : World) (hl : l.length ≤ 9223372036854775807) (hu : Has w su l) (hv : Has w sv m) : Calls Tryd.prog 54 #[su, sv] w (Bel (.bool (decide (l = m))) w) := by
  obtain ⟨au, cu, rfl, hu2⟩ := hu.form
  obtain ⟨av, cv, rfl, hv2⟩ := hv.form
  by_cases hlen : l.length = m.length
  · rw [← hlen]
    by_cases hn : l = []
    · subst hn
      obtain rfl : m = [] := List.length_eq_zero_iff.1 hlen.symm
      have hz : ¬ ((0 : Int) < (([] : List Atr).length : Int)) := by simp
      have hz0 : ([] : List Atr).length = 0 := rfl
      rw [decide_eq_true rfl]
      go_enter Tryd.func54, Tryd.ntmps54
      go_wp2
      go_loopw [13] (fun s13 wx => s13 = .int .i64 0 ∧ w = wx) (fun _ _ => 0)
      case atStart => exact ⟨rfl, rfl⟩
      case round =>
        obtain ⟨rfl, rfl⟩ := hrel
        go_wp2
        go_ret
        exact ⟨rfl, Below.refl _ _⟩
    · obtain ⟨b, o, rfl, hb, hr⟩ := hu2 hn
      obtain ⟨b', o', rfl, hb', hr'⟩ := hv2 (fun e => hn (List.length_eq_zero_iff.1 (by rw [hlen, e]; rfl)))
      obtain ⟨R, hR⟩ : ∃ R, decide (l = m) = R := ⟨_, rfl⟩
      rw [hR]
      have hT : (∀ k : Nat, k < l.length → l[k]? = m[k]?) → R = true := fun h => by
        rw [← hR, decide_eq_true_eq]
        refine List.ext_getElem? fun k => ?_
        rcases Nat.lt_or_ge k l.length with hk | hk
        · exact h k hk
        · rw [List.getElem?_eq_none hk, List.getElem?_eq_none (by omega)]
      have hF : ∀ (k : Nat) (x y : Atr), l[k]? = some x → m[k]? = some y → x ≠ y → R = false := fun k x y h1 h2 h3 => by
        rw [← hR, decide_eq_false_iff_not]
        intro e
        rw [e, h2] at h1
        exact h3 (Option.some.inj h1).symm
      have HT := Lib.hid hT
      have HF := Lib.hid hF
      have HW := Lib.hid hr
      have HW' := Lib.hid hr'
      have hq := neq_atr
      have hm : Tryd.prog.eqGuardType Tryd.prog.depth 55 = false := by kernel_rfl
      have HQ := Lib.hid hq
      clear hT hF hR hr hr' hq hu hv hu2 hv2
      go_enter Tryd.func54, Tryd.ntmps54
      go_wp2
      go_loopw [13] (fun s13 wx => ∃ i : Nat, i ≤ l.length ∧ s13 = .int .i64 (i : Int) ∧ (∀ k : Nat, k < i → l[k]? = m[k]?) ∧ ∃ n, wx = w.drewN n) (fun s13 _ => l.length - (intOf s13).toNat)
      case atStart => exact ⟨0, by omega, rfl, fun k hk => absurd hk (Nat.not_lt_zero _), 0, rfl⟩
      case round =>
        obtain ⟨i, hi, rfl, hinv, n, rfl⟩ := hrel
        by_cases hlt : i < l.length
        · have hiz : (i : Int) < (l.length : Int) := by omega
          obtain ⟨x, hx⟩ : ∃ x, l[i]? = some x := ⟨_, List.getElem?_eq_getElem hlt⟩
          obtain ⟨y, hy⟩ : ∃ y, m[i]? = some y := ⟨_, List.getElem?_eq_getElem (by omega)⟩
          obtain ⟨hc0, hc1⟩ := HW.out i x hx
          obtain ⟨hd0, hd1⟩ := HW'.out i y hy
          have hwr : IntKind.i64.wrap ((i : Int) + 1) = ((i + 1 : Nat) : Int) := by rw [IntKind.wrap_i64]; omega
          obtain ⟨x1, x2⟩ := x
          obtain ⟨y1, y2⟩ := y
          simp only at hc0 hc1 hd0 hd1
          have hqq := fun W => HQ.out x1 x2 y1 y2 W
          by_cases e : (x1, x2) = (y1, y2)
          · rw [decide_eq_true e] at hqq
            have HI := Lib.hid (And.intro hinv (And.intro hx (And.intro hy e)))
            clear hinv hx hy e
            go_wp2
            go_quiet (fail)
            go_wp2
            refine ⟨⟨i + 1, by omega, rfl, fun k hk => ?_, _, rfl⟩, by simp [intOf]; omega⟩
            obtain ⟨h1, h2, h3, h4⟩ := HI.out
            by_cases ek : k = i
            · subst ek
              rw [h2, h3, h4]
            · exact h1 k (by omega)
          · rw [decide_eq_false e] at hqq
            obtain rfl := HF.out i _ _ hx hy e
            clear hinv hx hy e HT HF
            go_wp2
            go_quiet (fail)
            go_wp2
            go_ret
            exact ⟨rfl, drawn_below (drawn_below (Below.refl _ _) _) _⟩
        · have hiz : ¬ ((i : Int) < (l.length : Int)) := by omega
          obtain rfl := HT.out (fun k hk => hinv k (by omega))
          clear HT HF hinv
          go_wp2
          go_ret
          exact ⟨rfl, drawn_below (Below.refl _ _) _⟩
  · have hne : ¬ ((l.length : Int) = (m.length : Int)) := by omega
    have hne2 : ¬ l = m := fun e => hlen (by rw [e])
    rw [decide_eq_false hne2]
    clear hu hv hu2 hv2
    go_enter Tryd.func54, Tryd.ntmps54
    go_wp2
    go_ret
    exact ⟨rfl, Below.refl _ _⟩
end Go.Proofs.YthdnbcgomepgaaaDoor
