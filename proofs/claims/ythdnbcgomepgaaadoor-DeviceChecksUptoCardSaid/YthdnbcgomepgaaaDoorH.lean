/- Sorted, Get, SameAttrs. -/
import Derived.Test.YthdnbcgomepgaaaDoorG
namespace Go.Proofs.YthdnbcgomepgaaaDoor
open Go.RowKit

theorem drawn_below {a w : World} {B : Nat} (h : Below B a w) (n : Nat) : Below B a (w.drewN n) := ⟨h.os, h.tape, h.output, h.size, h.block⟩

theorem neq_atr (a b c d : ByteArray) (W : World) : (binOp .neq 55 (.agg #[.string a, .string b]) (.agg #[.string c, .string d])).run Tryd.prog W = .ok (.bool (!decide ((a, b) = (c, d)))) W := by
  have hS : Tryd.prog.underlying 55 = some (.struct (Tryd.prog.fieldsOf 55)) := by kernel_rfl
  have hp : Tryd.prog.stoodInHeld 55 = false := by kernel_rfl
  have u9 := Tryd.underlying9
  have a9 := Tryd.isAgg9
  have z9 := Tryd.sizeOf9
  rw [run_neq_struct, show (10000 : Nat) = 9999 + 1 from rfl, run_equalIn_agg W 9999 55 _ _ hS hp]
  simp only [Program.fieldsOf, Tryd.underlying55]
  go_simp
  by_cases h1 : a = c
  · by_cases h2 : b = d
    · simp [h1, h2]
    · have : ¬ b.toList = d.toList := fun e => h2 (data_inj e)
      simp [h1, h2, this]
  · have : ¬ a.toList = c.toList := fun e => h1 (data_inj e)
    simp [h1, this]

set_option maxHeartbeats 1000000 in
set_option maxRecDepth 100000 in
theorem sorted_any (sv : Value) (l : List Atr) (w : World) (hl : l.length ≤ 9223372036854775807) (h : Has w sv l) : Calls Tryd.prog 19 #[sv] w (Bel (.bool (srtB l)) w) := by
  obtain ⟨R, hR⟩ : ∃ R, srtB l = R := ⟨_, rfl⟩
  have hT : (∀ k x y, l[k]? = some x → l[k + 1]? = some y → lt x.1 y.1 = true) → R = true := fun h => by rw [← hR]; exact srtB_true h
  have hF : ∀ k x y, l[k]? = some x → l[k + 1]? = some y → lt x.1 y.1 = false → R = false := fun k x y h1 h2 h3 => by rw [← hR]; exact srtB_false h1 h2 h3
  rw [hR]
  have HT := Lib.hid hT
  have HF := Lib.hid hF
  clear hT hF hR
  rcases h with ⟨ad, c, rfl, rfl⟩ | ⟨b, o, c, rfl, hb, hrow⟩
  · obtain rfl := HT.out (fun k x y h => by simp at h)
    have hz : ¬ ((1 : Int) < ((0 : Nat) : Int)) := by omega
    clear HT HF
    go_enter Tryd.func19, Tryd.ntmps19
    go_wp2
    go_loopw [3] (fun s3 wx => s3 = .int .i64 1 ∧ w = wx) (fun _ _ => 0)
    case atStart => exact ⟨rfl, rfl⟩
    case round =>
      obtain ⟨rfl, rfl⟩ := hrel
      go_wp2
      go_ret
      exact ⟨rfl, Below.refl _ _⟩
  · have HW := Lib.hid hrow
    clear hrow
    go_enter Tryd.func19, Tryd.ntmps19
    go_wp2
    go_loopw [3] (fun s3 wx => ∃ i : Nat, (i ≤ l.length) ∧ s3 = .int .i64 ((i + 1 : Nat) : Int) ∧ (∀ k x y, k < i → l[k]? = some x → l[k + 1]? = some y → lt x.1 y.1 = true) ∧ ∃ n, wx = w.drewN n) (fun s3 _ => l.length + 1 - (intOf s3).toNat)
    case atStart => exact ⟨0, by omega, rfl, fun k x y hk => absurd hk (Nat.not_lt_zero _), 0, rfl⟩
    case round =>
      obtain ⟨i, hi, rfl, hinv, n, rfl⟩ := hrel
      by_cases hlt : i + 1 < l.length
      · have hiz : ((i + 1 : Nat) : Int) < (l.length : Int) := by omega
        have hiz2 : (i : Int) < (l.length : Int) := by omega
        obtain ⟨x, hx⟩ : ∃ x, l[i]? = some x := ⟨_, List.getElem?_eq_getElem (by omega)⟩
        obtain ⟨y, hy⟩ : ∃ y, l[i + 1]? = some y := ⟨_, List.getElem?_eq_getElem hlt⟩
        have hc0 := (HW.out i x hx).1
        have hc1 := (HW.out (i + 1) y hy).1
        have hwr : IntKind.i64.wrap (((i + 1 : Nat) : Int) - 1) = (i : Int) := by rw [IntKind.wrap_i64]; omega
        have hwr2 : IntKind.i64.wrap (((i + 1 : Nat) : Int) + 1) = ((i + 1 + 1 : Nat) : Int) := by rw [IntKind.wrap_i64]; omega
        have HI := Lib.hid hinv
        cases hxy : lt x.1 y.1 with
        | true =>
          have hxy' : Op.bytesLess x.1.toList y.1.toList = true := hxy
          have HX := Lib.hid (And.intro hx (And.intro hy hxy))
          clear hinv hx hy hxy
          go_wp2
          go_quiet (fail)
          go_wp2
          refine ⟨⟨i + 1, by omega, rfl, fun k u v hk hu hv => ?_, _, rfl⟩, by simp [intOf]; omega⟩
          by_cases e : k = i
          · subst e
            obtain ⟨h1, h2, h3⟩ := HX.out
            rw [h1] at hu
            rw [h2] at hv
            cases hu
            cases hv
            exact h3
          · exact HI.out k u v (by omega) hu hv
        | false =>
          have hxy' : Op.bytesLess x.1.toList y.1.toList = false := hxy
          obtain rfl := HF.out i x y hx hy hxy
          clear hinv hx hy hxy HT HF
          go_wp2
          go_quiet (fail)
          go_wp2
          go_ret
          exact ⟨rfl, drawn_below (drawn_below (Below.refl _ _) _) _⟩
      · have hiz : ¬ (((i + 1 : Nat) : Int) < (l.length : Int)) := by omega
        obtain rfl := HT.out (fun k x y hx hy => hinv k x y (by have := (List.getElem?_eq_some_iff.1 hy).1; omega) hx hy)
        clear HT HF hinv
        go_wp2
        go_ret
        exact ⟨rfl, drawn_below (Below.refl _ _) _⟩

set_option maxHeartbeats 1000000 in
set_option maxRecDepth 100000 in
theorem refSorted_any (sv : Value) (l : List Atr) (w : World) (hl : l.length ≤ 9223372036854775807) (h : Has w sv l) : Calls Tryd.prog 20 #[sv] w (Bel (.bool (srtB l)) w) := by
  obtain ⟨R, hR⟩ : ∃ R, srtB l = R := ⟨_, rfl⟩
  have hT : (∀ k x y, l[k]? = some x → l[k + 1]? = some y → lt x.1 y.1 = true) → R = true := fun h => by rw [← hR]; exact srtB_true h
  have hF : ∀ k x y, l[k]? = some x → l[k + 1]? = some y → lt x.1 y.1 = false → R = false := fun k x y h1 h2 h3 => by rw [← hR]; exact srtB_false h1 h2 h3
  rw [hR]
  have HT := Lib.hid hT
  have HF := Lib.hid hF
  clear hT hF hR
  rcases h with ⟨ad, c, rfl, rfl⟩ | ⟨b, o, c, rfl, hb, hrow⟩
  · obtain rfl := HT.out (fun k x y h => by simp at h)
    have hz : ¬ ((1 : Int) < ((0 : Nat) : Int)) := by omega
    clear HT HF
    go_enter Tryd.func20, Tryd.ntmps20
    go_wp2
    go_loopw [3] (fun s3 wx => s3 = .int .i64 1 ∧ w = wx) (fun _ _ => 0)
    case atStart => exact ⟨rfl, rfl⟩
    case round =>
      obtain ⟨rfl, rfl⟩ := hrel
      go_wp2
      go_ret
      exact ⟨rfl, Below.refl _ _⟩
  · have HW := Lib.hid hrow
    clear hrow
    go_enter Tryd.func20, Tryd.ntmps20
    go_wp2
    go_loopw [3] (fun s3 wx => ∃ i : Nat, (i ≤ l.length) ∧ s3 = .int .i64 ((i + 1 : Nat) : Int) ∧ (∀ k x y, k < i → l[k]? = some x → l[k + 1]? = some y → lt x.1 y.1 = true) ∧ ∃ n, wx = w.drewN n) (fun s3 _ => l.length + 1 - (intOf s3).toNat)
    case atStart => exact ⟨0, by omega, rfl, fun k x y hk => absurd hk (Nat.not_lt_zero _), 0, rfl⟩
    case round =>
      obtain ⟨i, hi, rfl, hinv, n, rfl⟩ := hrel
      by_cases hlt : i + 1 < l.length
      · have hiz : ((i + 1 : Nat) : Int) < (l.length : Int) := by omega
        have hiz2 : (i : Int) < (l.length : Int) := by omega
        obtain ⟨x, hx⟩ : ∃ x, l[i]? = some x := ⟨_, List.getElem?_eq_getElem (by omega)⟩
        obtain ⟨y, hy⟩ : ∃ y, l[i + 1]? = some y := ⟨_, List.getElem?_eq_getElem hlt⟩
        have hc0 := (HW.out i x hx).1
        have hc1 := (HW.out (i + 1) y hy).1
        have hwr : IntKind.i64.wrap (((i + 1 : Nat) : Int) - 1) = (i : Int) := by rw [IntKind.wrap_i64]; omega
        have hwr2 : IntKind.i64.wrap (((i + 1 : Nat) : Int) + 1) = ((i + 1 + 1 : Nat) : Int) := by rw [IntKind.wrap_i64]; omega
        have HI := Lib.hid hinv
        cases hxy : lt x.1 y.1 with
        | true =>
          have hxy' : Op.bytesLess x.1.toList y.1.toList = true := hxy
          have HX := Lib.hid (And.intro hx (And.intro hy hxy))
          clear hinv hx hy hxy
          go_wp2
          go_quiet (fail)
          go_wp2
          refine ⟨⟨i + 1, by omega, rfl, fun k u v hk hu hv => ?_, _, rfl⟩, by simp [intOf]; omega⟩
          by_cases e : k = i
          · subst e
            obtain ⟨h1, h2, h3⟩ := HX.out
            rw [h1] at hu
            rw [h2] at hv
            cases hu
            cases hv
            exact h3
          · exact HI.out k u v (by omega) hu hv
        | false =>
          have hxy' : Op.bytesLess x.1.toList y.1.toList = false := hxy
          obtain rfl := HF.out i x y hx hy hxy
          clear hinv hx hy hxy HT HF
          go_wp2
          go_quiet (fail)
          go_wp2
          go_ret
          exact ⟨rfl, drawn_below (drawn_below (Below.refl _ _) _) _⟩
      · have hiz : ¬ (((i + 1 : Nat) : Int) < (l.length : Int)) := by omega
        obtain rfl := HT.out (fun k x y hx hy => hinv k x y (by have := (List.getElem?_eq_some_iff.1 hy).1; omega) hx hy)
        clear HT HF hinv
        go_wp2
        go_ret
        exact ⟨rfl, drawn_below (Below.refl _ _) _⟩

def getR (n : ByteArray) (l : List Atr) : Value := .tuple #[.string ((getP n l).getD ⟨#[]⟩), .bool (getP n l).isSome]
theorem getP_step (n : ByteArray) (l : List Atr) (i : Nat) (x : Atr) (hx : l[i]? = some x) : getP n (l.drop i) = if x.1 = n then some x.2 else getP n (l.drop (i + 1)) := by
  obtain ⟨h1, h2⟩ := List.getElem?_eq_some_iff.1 hx
  rw [List.drop_eq_getElem_cons h1, h2, getP]

set_option maxHeartbeats 1000000 in
set_option maxRecDepth 100000 in
theorem get_any (n : ByteArray) (sv : Value) (l : List Atr) (w : World) (hl : l.length ≤ 9223372036854775807) (h : Has w sv l) : Calls Tryd.prog 17 #[sv, .string n] w (Bel (getR n l) w) := by
  rcases h with ⟨ad, c, rfl, rfl⟩ | ⟨b, o, c, rfl, hb, hrow⟩
  · have hz : ¬ ((0 : Int) < ((0 : Nat) : Int)) := by omega
    go_enter Tryd.func17, Tryd.ntmps17
    go_wp2
    go_loopw [10] (fun s3 wx => s3 = .int .i64 0 ∧ w = wx) (fun _ _ => 0)
    case atStart => exact ⟨rfl, rfl⟩
    case round =>
      obtain ⟨rfl, rfl⟩ := hrel
      go_wp2
      go_ret2
      exact ⟨rfl, Below.refl _ _⟩
  · have HW := Lib.hid hrow
    clear hrow
    obtain ⟨R, hR⟩ : ∃ R, getR n l = R := ⟨_, rfl⟩
    rw [hR]
    have hfin : ∀ g, getP n l = g → Value.tuple #[.string (g.getD ⟨#[]⟩), .bool g.isSome] = R := fun g h => by rw [← hR, ← h]; rfl
    have HR := Lib.hid hfin
    clear hfin hR
    go_enter Tryd.func17, Tryd.ntmps17
    go_wp2
    go_loopw [10] (fun s3 wx => ∃ i : Nat, i ≤ l.length ∧ s3 = .int .i64 (i : Int) ∧ getP n l = getP n (l.drop i) ∧ Below w.heap.size w wx) (fun s3 _ => l.length - (intOf s3).toNat)
    case atStart => exact ⟨0, by omega, rfl, by rw [List.drop_zero], Below.refl _ _⟩
    case round =>
      obtain ⟨i, hi, rfl, hinv, hbl⟩ := hrel
      have Hbl := Lib.hid hbl
      by_cases hlt : i < l.length
      · have hiz : (i : Int) < (l.length : Int) := by omega
        obtain ⟨x, hx⟩ : ∃ x, l[i]? = some x := ⟨_, List.getElem?_eq_getElem (by omega)⟩
        obtain ⟨hc0, hc1⟩ := HW.out i x hx
        rw [← hbl.cell (p := ⟨b, o + i * 2, none⟩) hb] at hc0
        rw [← hbl.cell (p := ⟨b, o + i * 2 + 1, none⟩) hb] at hc1
        rw [getP_step n l i x hx] at hinv
        obtain ⟨x1, x2⟩ := x
        simp only at hc0 hc1 hinv
        have hwr : IntKind.i64.wrap ((i : Int) + 1) = ((i + 1 : Nat) : Int) := by rw [IntKind.wrap_i64]; omega
        clear hbl hx
        by_cases hq : x1 = n
        · subst hq
          rw [if_pos rfl] at hinv
          have HE := Lib.hid (HR.out _ hinv)
          clear hinv HR
          go_wp2
          go_ret2
          exact ⟨congrArg Ending.returned HE.out, (Hbl.out.alloc Hbl.out.size _)⟩
        · have hq' := str_ne hq
          rw [if_neg hq] at hinv
          have HE := Lib.hid hinv
          clear hinv hq
          go_wp2
          exact ⟨⟨i + 1, by omega, rfl, HE.out, (Hbl.out.alloc Hbl.out.size _)⟩, by simp [intOf]; omega⟩
      · have hiz : ¬ ((i : Int) < (l.length : Int)) := by omega
        rw [List.drop_eq_nil_iff.2 (by omega)] at hinv
        have HE := Lib.hid (HR.out _ hinv)
        clear hinv HR hbl
        go_wp2
        go_ret2
        exact ⟨congrArg Ending.returned HE.out, Hbl.out⟩

set_option maxHeartbeats 1000000 in
set_option maxRecDepth 100000 in
theorem refGet_any (n : ByteArray) (sv : Value) (l : List Atr) (w : World) (hl : l.length ≤ 9223372036854775807) (h : Has w sv l) : Calls Tryd.prog 18 #[sv, .string n] w (Bel (getR n l) w) := by
  rcases h with ⟨ad, c, rfl, rfl⟩ | ⟨b, o, c, rfl, hb, hrow⟩
  · have hz : ¬ ((0 : Int) < ((0 : Nat) : Int)) := by omega
    go_enter Tryd.func18, Tryd.ntmps18
    go_wp2
    go_loopw [6] (fun s3 wx => s3 = .int .i64 0 ∧ w = wx) (fun _ _ => 0)
    case atStart => exact ⟨rfl, rfl⟩
    case round =>
      obtain ⟨rfl, rfl⟩ := hrel
      go_wp2
      go_ret2
      exact ⟨rfl, Below.refl _ _⟩
  · have HW := Lib.hid hrow
    clear hrow
    obtain ⟨R, hR⟩ : ∃ R, getR n l = R := ⟨_, rfl⟩
    rw [hR]
    have hfin : ∀ g, getP n l = g → Value.tuple #[.string (g.getD ⟨#[]⟩), .bool g.isSome] = R := fun g h => by rw [← hR, ← h]; rfl
    have HR := Lib.hid hfin
    clear hfin hR
    go_enter Tryd.func18, Tryd.ntmps18
    go_wp2
    go_loopw [6] (fun s3 wx => ∃ i : Nat, i ≤ l.length ∧ s3 = .int .i64 (i : Int) ∧ getP n l = getP n (l.drop i) ∧ Below w.heap.size w wx) (fun s3 _ => l.length - (intOf s3).toNat)
    case atStart => exact ⟨0, by omega, rfl, by rw [List.drop_zero], Below.refl _ _⟩
    case round =>
      obtain ⟨i, hi, rfl, hinv, hbl⟩ := hrel
      have Hbl := Lib.hid hbl
      by_cases hlt : i < l.length
      · have hiz : (i : Int) < (l.length : Int) := by omega
        obtain ⟨x, hx⟩ : ∃ x, l[i]? = some x := ⟨_, List.getElem?_eq_getElem (by omega)⟩
        obtain ⟨hc0, hc1⟩ := HW.out i x hx
        rw [← hbl.cell (p := ⟨b, o + i * 2, none⟩) hb] at hc0
        rw [← hbl.cell (p := ⟨b, o + i * 2 + 1, none⟩) hb] at hc1
        rw [getP_step n l i x hx] at hinv
        obtain ⟨x1, x2⟩ := x
        simp only at hc0 hc1 hinv
        have hwr : IntKind.i64.wrap ((i : Int) + 1) = ((i + 1 : Nat) : Int) := by rw [IntKind.wrap_i64]; omega
        clear hbl hx
        by_cases hq : x1 = n
        · subst hq
          rw [if_pos rfl] at hinv
          have HE := Lib.hid (HR.out _ hinv)
          clear hinv HR
          go_wp2
          go_ret2
          exact ⟨congrArg Ending.returned HE.out, Hbl.out⟩
        · have hq' := str_ne hq
          rw [if_neg hq] at hinv
          have HE := Lib.hid hinv
          clear hinv hq
          go_wp2
          exact ⟨⟨i + 1, by omega, rfl, HE.out, Hbl.out⟩, by simp [intOf]; omega⟩
      · have hiz : ¬ ((i : Int) < (l.length : Int)) := by omega
        rw [List.drop_eq_nil_iff.2 (by omega)] at hinv
        have HE := Lib.hid (HR.out _ hinv)
        clear hinv HR hbl
        go_wp2
        go_ret2
        exact ⟨congrArg Ending.returned HE.out, Hbl.out⟩

theorem Has.form {w : World} {v : Value} {l : List Atr} (h : Has w v l) : ∃ a c, v = .slice a l.length c ∧ (l ≠ [] → ∃ b o, a = some ⟨b, o, none⟩ ∧ b < w.heap.size ∧ Row w b o l) := by
  rcases h with ⟨a, c, rfl, rfl⟩ | ⟨b, o, c, rfl, hb, hr⟩
  · exact ⟨a, c, rfl, fun h => absurd rfl h⟩
  · exact ⟨_, c, rfl, fun _ => ⟨b, o, rfl, hb, hr⟩⟩

set_option maxHeartbeats 1000000 in
set_option maxRecDepth 100000 in
theorem sameAttrs_any (su sv : Value) (l m : List Atr) (w : World) (hl : l.length ≤ 9223372036854775807) (hu : Has w su l) (hv : Has w sv m) : Calls Tryd.prog 22 #[su, sv] w (Bel (.bool (decide (l = m))) w) := by
  obtain ⟨au, cu, rfl, hu2⟩ := hu.form
  obtain ⟨av, cv, rfl, hv2⟩ := hv.form
  by_cases hlen : l.length = m.length
  · rw [← hlen]
    by_cases hn : l = []
    · subst hn
      obtain rfl : m = [] := List.length_eq_zero_iff.1 hlen.symm
      have hz : ¬ ((0 : Int) < (([] : List Atr).length : Int)) := by simp
      have hz0 : ([] : List Atr).length = 0 := rfl
      rw [decide_eq_true rfl]
      go_enter Tryd.func22, Tryd.ntmps22
      go_wp2
      go_loopw [5] (fun s5 wx => s5 = .int .i64 0 ∧ w = wx) (fun _ _ => 0)
      case atStart => exact ⟨rfl, rfl⟩
      case round =>
        obtain ⟨rfl, rfl⟩ := hrel
        go_wp2
        go_ret
        exact ⟨rfl, Below.refl _ _⟩
    · obtain ⟨b, o, rfl, hb, hr⟩ := hu2 hn
      obtain ⟨b', o', rfl, hb', hr'⟩ := hv2 (fun e => hn (List.length_eq_zero_iff.1 (by rw [hlen, e]; rfl)))
      obtain ⟨R, hR⟩ : ∃ R, decide (l = m) = R := ⟨_, rfl⟩
      rw [hR]
      have hT : (∀ k : Nat, k < l.length → l[k]? = m[k]?) → R = true := fun h => by
        rw [← hR, decide_eq_true_eq]
        refine List.ext_getElem? fun k => ?_
        rcases Nat.lt_or_ge k l.length with hk | hk
        · exact h k hk
        · rw [List.getElem?_eq_none hk, List.getElem?_eq_none (by omega)]
      have hF : ∀ (k : Nat) (x y : Atr), l[k]? = some x → m[k]? = some y → x ≠ y → R = false := fun k x y h1 h2 h3 => by
        rw [← hR, decide_eq_false_iff_not]
        intro e
        rw [e, h2] at h1
        exact h3 (Option.some.inj h1).symm
      have HT := Lib.hid hT
      have HF := Lib.hid hF
      have HW := Lib.hid hr
      have HW' := Lib.hid hr'
      have hq := neq_atr
      have hm : Tryd.prog.eqGuardType Tryd.prog.depth 55 = false := by kernel_rfl
      have HQ := Lib.hid hq
      clear hT hF hR hr hr' hq hu hv hu2 hv2
      go_enter Tryd.func22, Tryd.ntmps22
      go_wp2
      go_loopw [5] (fun s5 wx => ∃ i : Nat, i ≤ l.length ∧ s5 = .int .i64 (i : Int) ∧ (∀ k : Nat, k < i → l[k]? = m[k]?) ∧ ∃ n, wx = w.drewN n) (fun s5 _ => l.length - (intOf s5).toNat)
      case atStart => exact ⟨0, by omega, rfl, fun k hk => absurd hk (Nat.not_lt_zero _), 0, rfl⟩
      case round =>
        obtain ⟨i, hi, rfl, hinv, n, rfl⟩ := hrel
        by_cases hlt : i < l.length
        · have hiz : (i : Int) < (l.length : Int) := by omega
          obtain ⟨x, hx⟩ : ∃ x, l[i]? = some x := ⟨_, List.getElem?_eq_getElem hlt⟩
          obtain ⟨y, hy⟩ : ∃ y, m[i]? = some y := ⟨_, List.getElem?_eq_getElem (by omega)⟩
          obtain ⟨hc0, hc1⟩ := HW.out i x hx
          obtain ⟨hd0, hd1⟩ := HW'.out i y hy
          have hwr : IntKind.i64.wrap ((i : Int) + 1) = ((i + 1 : Nat) : Int) := by rw [IntKind.wrap_i64]; omega
          obtain ⟨x1, x2⟩ := x
          obtain ⟨y1, y2⟩ := y
          simp only at hc0 hc1 hd0 hd1
          have hqq := fun W => HQ.out x1 x2 y1 y2 W
          by_cases e : (x1, x2) = (y1, y2)
          · rw [decide_eq_true e] at hqq
            have HI := Lib.hid (And.intro hinv (And.intro hx (And.intro hy e)))
            clear hinv hx hy e
            go_wp2
            go_quiet (fail)
            go_wp2
            refine ⟨⟨i + 1, by omega, rfl, fun k hk => ?_, _, rfl⟩, by simp [intOf]; omega⟩
            obtain ⟨h1, h2, h3, h4⟩ := HI.out
            by_cases ek : k = i
            · subst ek
              rw [h2, h3, h4]
            · exact h1 k (by omega)
          · rw [decide_eq_false e] at hqq
            obtain rfl := HF.out i _ _ hx hy e
            clear hinv hx hy e HT HF
            go_wp2
            go_quiet (fail)
            go_wp2
            go_ret
            exact ⟨rfl, drawn_below (drawn_below (Below.refl _ _) _) _⟩
        · have hiz : ¬ ((i : Int) < (l.length : Int)) := by omega
          obtain rfl := HT.out (fun k hk => hinv k (by omega))
          clear HT HF hinv
          go_wp2
          go_ret
          exact ⟨rfl, drawn_below (Below.refl _ _) _⟩
  · have hne : ¬ ((l.length : Int) = (m.length : Int)) := by omega
    have hne2 : ¬ l = m := fun e => hlen (by rw [e])
    rw [decide_eq_false hne2]
    clear hu hv hu2 hv2
    go_enter Tryd.func22, Tryd.ntmps22
    go_wp2
    go_ret
    exact ⟨rfl, Below.refl _ _⟩
end Go.Proofs.YthdnbcgomepgaaaDoor
