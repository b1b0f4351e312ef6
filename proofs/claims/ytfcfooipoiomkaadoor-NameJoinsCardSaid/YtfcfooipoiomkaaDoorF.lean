/- Compare and Under: the contracts. -/
import Derived.Test.YtfcfooipoiomkaaDoorD
import Derived.Test.YtfcfooipoiomkaaDoorE
namespace Go.Proofs.YtfcfooipoiomkaaDoor
open Go.RowKit

/-- The order of two paths, byte by byte. -/
def cmpL : List UInt8 → List UInt8 → Int
  | [], [] => 0
  | [], _ :: _ => -1
  | _ :: _, [] => 1
  | x :: a, y :: b => if x = y then cmpL a b else Lib.compareInt (rankI x) (rankI y)

theorem cmpL_step (a b : List UInt8) (i : Nat) (x : UInt8) (ha : a[i]? = some x) (hb : b[i]? = some x) : cmpL (a.drop i) (b.drop i) = cmpL (a.drop (i + 1)) (b.drop (i + 1)) := by
  obtain ⟨h1, rfl⟩ := List.getElem?_eq_some_iff.1 ha
  obtain ⟨h2, h3⟩ := List.getElem?_eq_some_iff.1 hb
  rw [List.drop_eq_getElem_cons h1, List.drop_eq_getElem_cons h2, cmpL, if_pos h3.symm]
theorem cmpL_diff (a b : List UInt8) (i : Nat) (x y : UInt8) (ha : a[i]? = some x) (hb : b[i]? = some y) (hne : x ≠ y) : cmpL (a.drop i) (b.drop i) = Lib.compareInt (rankI x) (rankI y) := by
  obtain ⟨h1, rfl⟩ := List.getElem?_eq_some_iff.1 ha
  obtain ⟨h2, rfl⟩ := List.getElem?_eq_some_iff.1 hb
  rw [List.drop_eq_getElem_cons h1, List.drop_eq_getElem_cons h2, cmpL, if_neg hne]
theorem cmpL_end (a b : List UInt8) (i : Nat) (h : a.length ≤ i ∨ b.length ≤ i) (ha : i ≤ a.length) (hb : i ≤ b.length) : cmpL (a.drop i) (b.drop i) = Lib.compareInt a.length b.length := by
  rcases Nat.lt_or_ge i a.length with h1 | h1
  · have h2 : i = b.length := by omega
    subst h2
    rw [List.drop_length, List.drop_eq_getElem_cons h1, cmpL]
    simp [Lib.compareInt]; omega
  · have h2 : i = a.length := by omega
    subst h2
    rw [List.drop_length]
    rcases Nat.lt_or_ge a.length b.length with h3 | h3
    · rw [List.drop_eq_getElem_cons h3, cmpL]
      simp [Lib.compareInt]; omega
    · rw [List.drop_of_length_le h3, cmpL]
      have : a.length = b.length := by omega
      simp [Lib.compareInt, this]

def cmpB (a b : List UInt8) : Int × Int := if isPathB a && isPathB b then (cmpL a b, 0) else (0, 10)

theorem quiet_add_same {P : Program} {f : FuncId} {args : Array Value} {w : World} {a n : Nat} {v : Value}
    (h : Calls P f args (w.drewN (a + n)) fun e w' => e = .returned v ∧ w' = w.drewN (a + n)) :
    Calls P f args (w.drewN (a + n)) fun e w'' => e = .returned v ∧ ∃ m, w'' = w.drewN (a + m) :=
  h.mono fun _ _ ⟨he, hm⟩ => ⟨he, n, hm⟩

set_option maxHeartbeats 1000000 in
set_option maxRecDepth 100000 in
theorem compare_any (a b : ByteArray) (w : World) (ha : a.size ≤ 4611686018427387904) (hb : b.size ≤ 4611686018427387904) :
    Calls Tryd.prog 28 #[.string a, .string b] w (Bel (.tuple #[.int .i64 (cmpB a.data.toList b.data.toList).1, .int .i64 (cmpB a.data.toList b.data.toList).2]) w) := by
  have hpa := isPath_any a w ha
  have hpb := fun W => isPath_any b W hb
  cases ka : isPathB a.data.toList with
  | false =>
    have hv : cmpB a.data.toList b.data.toList = (0, 10) := by simp [cmpB, ka]
    rw [ka] at hpa
    rw [hv]
    have HA := Lib.hid hpa
    clear hpa hpb hv ka
    go_enter Tryd.func28, Tryd.ntmps28
    go_wp2_with (go_at_call 52; refine HA.out.mono ?_; rintro e w' ⟨rfl, hb1⟩)
    go_ret2
    exact ⟨rfl, hb1⟩
  | true =>
    rw [ka] at hpa
    have HA := Lib.hid hpa
    clear hpa
    cases kb : isPathB b.data.toList with
    | false =>
      have hv : cmpB a.data.toList b.data.toList = (0, 10) := by simp [cmpB, kb]
      have hpb' := hpb
      rw [kb] at hpb
      rw [hv]
      have HB := Lib.hid hpb
      clear hpb hpb' hv ka kb
      go_enter Tryd.func28, Tryd.ntmps28
      go_wp2_with fail
      refine HA.out.mono ?_
      rintro e W1 ⟨rfl, hb1⟩
      go_wp2_with fail
      refine (HB.out _).mono ?_
      rintro e W2 ⟨rfl, hb2⟩
      go_wp2
      go_ret2
      exact ⟨rfl, hb1.trans (hb2.mono hb1.size)⟩
    | true =>
      have hv : cmpB a.data.toList b.data.toList = (cmpL a.data.toList b.data.toList, 0) := by simp [cmpB, ka, kb]
      rw [kb] at hpb
      rw [hv]
      have hsa := Lib.size_eq a
      have hsb := Lib.size_eq b
      have HB := Lib.hid hpb
      clear hpb hv ka kb
      have Hsa := Lib.hid hsa
      have Hsb := Lib.hid hsb
      clear hsa hsb
      go_enter Tryd.func28, Tryd.ntmps28
      go_wp2_with fail
      refine HA.out.mono ?_
      rintro e W1 ⟨rfl, hb1⟩
      go_wp2_with fail
      refine (HB.out _).mono ?_
      rintro e W2 ⟨rfl, hb2⟩
      have hb3 := hb1.trans (hb2.mono hb1.size)
      clear hb1 hb2
      go_wp2
      go_loopw [6, 20] (fun s6 s20 wx => ∃ i : Nat, i ≤ a.size ∧ i ≤ b.size ∧ s20 = .int .i64 i ∧ cmpL a.data.toList b.data.toList = cmpL (a.data.toList.drop i) (b.data.toList.drop i) ∧ ∃ n, wx = W2.drewN n) (fun _ s20 _ => a.size - (intOf s20).toNat)
      case atStart => exact ⟨0, by omega, by omega, rfl, rfl, 0, rfl⟩
      case round =>
        obtain ⟨i, hia, hib, rfl, hcmp, n, rfl⟩ := hrel
        have Hcmp := Lib.hid hcmp
        clear hcmp
        by_cases hlt : i < a.size ∧ i < b.size
        · obtain ⟨hla, hlb⟩ := hlt
          have hla' : (i : Int) < (a.size : Int) := by omega
          have hlb' : (i : Int) < (b.size : Int) := by omega
          obtain ⟨x, hx⟩ : ∃ x : UInt8, a[i]'hla = x := ⟨_, rfl⟩
          obtain ⟨y, hy⟩ : ∃ y : UInt8, b[i]'hlb = y := ⟨_, rfl⟩
          have hxl : a.data.toList[i]? = some x := by rw [← hx]; exact Lib.data_getElem? a i hla
          have hyl : b.data.toList[i]? = some y := by rw [← hy]; exact Lib.data_getElem? b i hlb
          by_cases hxy : x = y
          · subst hxy
            have Hstep := Lib.hid (cmpL_step _ _ i x hxl hyl)
            clear hxl hyl
            go_wp2
            go_quiet (fail)
            go_wp2
            exact ⟨⟨i + 1, by omega, by omega, by go_num, by rw [Hcmp.out, Hstep.out], _, rfl⟩, by simp [intOf]; omega⟩
          · have hne : ((x.toNat : Int) != (y.toNat : Int)) = true := bne_iff_ne.2 fun e => hxy (UInt8.toNat_inj.1 (by omega))
            have Hd := Lib.hid (cmpL_diff _ _ i x y hxl hyl hxy)
            clear hxl hyl hxy
            have hr1 := rank_any x
            have hr2 := rank_any y
            have hcc := fun W => Tryd.cmp_Compare_int (rankI x) (rankI y) W
            have Hr1 := Lib.hid hr1
            have Hr2 := Lib.hid hr2
            have Hcc := Lib.hid hcc
            clear hr1 hr2 hcc
            go_wp2
            go_quiet (fail)
            go_wp2
            go_quiet ((first
              | (go_at_call 55; exact quiet_add_same (Hr1.out _))
              | (go_at_call 55; exact quiet_add_same (Hr2.out _))
              | (go_at_call 54; exact quiet_add_same (Hcc.out _))))
            go_wp2
            go_ret2
            exact ⟨by rw [Hcmp.out, Hd.out]; rfl, drewN_below (drewN_below (drewN_below hb3 _) _) _⟩
        · have he := cmpL_end a.data.toList b.data.toList i (by rw [← Hsa.out, ← Hsb.out]; omega) (by rw [← Hsa.out]; exact hia) (by rw [← Hsb.out]; exact hib)
          rw [← Hsa.out, ← Hsb.out] at he
          have He := Lib.hid he
          clear he
          have hmin : ¬ (i : Int) < min (a.size : Int) (b.size : Int) := by omega
          go_wp2_with (go_at_call 54; refine (Tryd.cmp_Compare_int _ _ _).mono ?_; rintro e w' ⟨rfl, rfl⟩)
          go_ret2
          exact ⟨by rw [Hcmp.out, He.out]; rfl, drewN_below hb3 _⟩

def underB (a b : List UInt8) : Bool × Int := if isPathB a && isPathB b then (benB a b, 0) else (false, 10)

set_option maxHeartbeats 1000000 in
set_option maxRecDepth 100000 in
theorem under_any (a b : ByteArray) (w : World) (ha : a.size ≤ 4611686018427387904) (hb : b.size ≤ 4611686018427387904) :
    Calls Tryd.prog 29 #[.string a, .string b] w (Bel (.tuple #[.bool (underB a.data.toList b.data.toList).1, .int .i64 (underB a.data.toList b.data.toList).2]) w) := by
  have hpa := isPath_any a w ha
  have hpb := fun W => isPath_any b W hb
  cases ka : isPathB a.data.toList with
  | false =>
    have hv : underB a.data.toList b.data.toList = (false, 10) := by simp [underB, ka]
    rw [ka] at hpa
    rw [hv]
    have HA := Lib.hid hpa
    clear hpa hpb hv ka
    go_enter Tryd.func29, Tryd.ntmps29
    go_wp2_with (go_at_call 52; refine HA.out.mono ?_; rintro e w' ⟨rfl, hb1⟩)
    go_ret2
    exact ⟨rfl, hb1⟩
  | true =>
    rw [ka] at hpa
    have HA := Lib.hid hpa
    clear hpa
    cases kb : isPathB b.data.toList with
    | false =>
      have hv : underB a.data.toList b.data.toList = (false, 10) := by simp [underB, kb]
      rw [kb] at hpb
      rw [hv]
      have HB := Lib.hid hpb
      clear hpb hv ka kb
      go_enter Tryd.func29, Tryd.ntmps29
      go_wp2_with fail
      refine HA.out.mono ?_
      rintro e W1 ⟨rfl, hb1⟩
      go_wp2_with fail
      refine (HB.out _).mono ?_
      rintro e W2 ⟨rfl, hb2⟩
      go_wp2
      go_ret2
      exact ⟨rfl, hb1.trans (hb2.mono hb1.size)⟩
    | true =>
      have hv : underB a.data.toList b.data.toList = (benB a.data.toList b.data.toList, 0) := by simp [underB, ka, kb]
      rw [kb] at hpb
      rw [hv]
      have HB := Lib.hid hpb
      have HC := Lib.hid fun W => beneath_any a b W ha hb
      clear hpb hv ka kb
      go_enter Tryd.func29, Tryd.ntmps29
      go_wp2_with fail
      refine HA.out.mono ?_
      rintro e W1 ⟨rfl, hb1⟩
      go_wp2_with fail
      refine (HB.out _).mono ?_
      rintro e W2 ⟨rfl, hb2⟩
      have hb3 := hb1.trans (hb2.mono hb1.size)
      clear hb1 hb2
      go_wp2_with (go_at_call 36; refine (HC.out _).mono ?_; rintro e w' ⟨rfl, rfl⟩)
      go_ret2
      exact ⟨rfl, hb3⟩
end Go.Proofs.YtfcfooipoiomkaaDoor
