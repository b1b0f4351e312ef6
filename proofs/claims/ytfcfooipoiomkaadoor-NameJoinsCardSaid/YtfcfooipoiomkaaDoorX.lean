/- The reference's order of two lists of names. -/
import Derived.Test.YtfcfooipoiomkaaDoorU
import Derived.Test.YtfcfooipoiomkaaDoorV
namespace Go.Proofs.YtfcfooipoiomkaaDoor
open Go.RowKit

theorem cmpN_same {xs ys : List (List UInt8)} {i : Nat} {x : List UInt8} (ha : xs[i]? = some x) (hb : ys[i]? = some x) : cmpN (xs.drop i) (ys.drop i) = cmpN (xs.drop (i + 1)) (ys.drop (i + 1)) := by
  obtain ⟨h1, rfl⟩ := List.getElem?_eq_some_iff.1 ha
  obtain ⟨h2, h3⟩ := List.getElem?_eq_some_iff.1 hb
  rw [List.drop_eq_getElem_cons h1, List.drop_eq_getElem_cons h2, cmpN, if_pos h3.symm]
theorem cmpN_diff {xs ys : List (List UInt8)} {i : Nat} {x y : List UInt8} (ha : xs[i]? = some x) (hb : ys[i]? = some y) (hne : x ≠ y) : cmpN (xs.drop i) (ys.drop i) = Lib.compareBytes x y := by
  obtain ⟨h1, rfl⟩ := List.getElem?_eq_some_iff.1 ha
  obtain ⟨h2, rfl⟩ := List.getElem?_eq_some_iff.1 hb
  rw [List.drop_eq_getElem_cons h1, List.drop_eq_getElem_cons h2, cmpN, if_neg hne]
theorem cmpN_end {xs ys : List (List UInt8)} {i : Nat} (hx : i ≤ xs.length) (hy : i ≤ ys.length) (h : xs.length ≤ i ∨ ys.length ≤ i) :
    cmpN (xs.drop i) (ys.drop i) = if xs.length < ys.length then -1 else if xs.length > ys.length then 1 else 0 := by
  rcases Nat.lt_or_ge i xs.length with h1 | h1
  · have h2 : i = ys.length := by omega
    subst h2
    rw [List.drop_length, List.drop_eq_getElem_cons h1, cmpN, if_neg (by omega), if_pos (by omega)]
  · have h2 : i = xs.length := by omega
    subst h2
    rw [List.drop_length]
    rcases Nat.lt_or_ge xs.length ys.length with h3 | h3
    · rw [List.drop_eq_getElem_cons h3, cmpN, if_pos h3]
    · rw [List.drop_of_length_le h3, cmpN, if_neg (by omega), if_neg (by omega)]

theorem lists_get {xs : List ByteArray} {i : Nat} {x : ByteArray} (h : xs[i]? = some x) : (listsOf xs)[i]? = some x.data.toList := by simp [listsOf, h]
theorem lists_len (xs : List ByteArray) : (listsOf xs).length = xs.length := by simp [listsOf]

set_option maxHeartbeats 1000000 in
set_option maxRecDepth 100000 in
theorem refCompare_any (a b ca cb : Nat) (xs ys : List ByteArray) (w : World) (hlx : xs.length ≤ 4611686018427387904) (hly : ys.length ≤ 4611686018427387904) (ha : Strs w a xs) (hb : Strs w b ys) :
    Calls Tryd.prog 30 #[.slice (some ⟨a, 0, none⟩) xs.length ca, .slice (some ⟨b, 0, none⟩) ys.length cb] w (Draws (.int .i64 (cmpN (listsOf xs) (listsOf ys))) w) := by
  have Ha := Lib.hid ha
  have Hb := Lib.hid hb
  clear ha hb
  obtain ⟨res, hres⟩ : ∃ res, cmpN (listsOf xs) (listsOf ys) = res := ⟨_, rfl⟩
  rw [hres]
  have Hres := Lib.hid hres
  clear hres
  go_enter Tryd.func30, Tryd.ntmps30
  go_wp2
  go_loopw [5] (fun s5 wx => ∃ i : Nat, i ≤ xs.length ∧ i ≤ ys.length ∧ s5 = .int .i64 i ∧ cmpN ((listsOf xs).drop i) ((listsOf ys).drop i) = res ∧ ∃ n, wx = w.drewN n) (fun s5 _ => xs.length - (intOf s5).toNat)
  case atStart => exact ⟨0, by omega, by omega, rfl, Hres.out, 0, rfl⟩
  case round =>
    obtain ⟨i, hix, hiy, rfl, hc, n, rfl⟩ := hrel
    have Hc := Lib.hid hc
    clear hc
    by_cases hlx' : i < xs.length
    · have hzx : (i : Int) < (xs.length : Int) := by omega
      by_cases hly' : i < ys.length
      · have hzy : (i : Int) < (ys.length : Int) := by omega
        obtain ⟨x, hx⟩ : ∃ x, xs[i]? = some x := ⟨_, List.getElem?_eq_getElem hlx'⟩
        obtain ⟨y, hy⟩ : ∃ y, ys[i]? = some y := ⟨_, List.getElem?_eq_getElem hly'⟩
        have h1 := Ha.out i x hx
        have h2 := Hb.out i y hy
        by_cases hxy : x = y
        · subst hxy
          have Hs := Lib.hid (cmpN_same (lists_get hx) (lists_get hy))
          clear hx hy
          go_wp2
          go_quiet (fail)
          go_wp2
          exact ⟨⟨i + 1, by omega, by omega, by go_num, by rw [← Hs.out]; exact Hc.out, _, rfl⟩, by simp [intOf]; omega⟩
        · have hne : x.data.toList ≠ y.data.toList := fun e => hxy (by rw [← toArray_toList x, ← toArray_toList y, e])
          have hq : (x.toList == y.toList) = false := by rw [Lib.toList_data, Lib.toList_data]; exact beq_eq_false_iff_ne.2 hne
          have Hd := Lib.hid (cmpN_diff (lists_get hx) (lists_get hy) hne)
          have Hcb := Lib.hid fun W => Tryd.strings_Compare x y W
          clear hx hy hne hxy
          go_wp2
          go_quiet (fail)
          go_wp2
          go_quiet ((go_at_call 56; exact quiet_add_same (Hcb.out _)))
          go_wp2
          go_ret
          exact ⟨by rw [← Hc.out, Hd.out]; rfl, _, by rw [World.drewN_drewN, World.drewN_drewN]⟩
      · have hzy : ¬ (i : Int) < (ys.length : Int) := by omega
        have he := cmpN_end (xs := listsOf xs) (ys := listsOf ys) (i := i) (by rw [lists_len]; omega) (by rw [lists_len]; omega) (.inr (by rw [lists_len]; omega))
        rw [lists_len, lists_len, if_neg (by omega), if_pos (by omega)] at he
        have Hr := Lib.hid (Hc.out.symm.trans he)
        have g1 : ¬ (xs.length : Int) < (ys.length : Int) := by omega
        have g2 : (ys.length : Int) < (xs.length : Int) := by omega
        clear he
        go_wp2
        go_ret
        exact ⟨by rw [Hr.out]; rfl, _, rfl⟩
    · have hzx : ¬ (i : Int) < (xs.length : Int) := by omega
      have he := cmpN_end (xs := listsOf xs) (ys := listsOf ys) (i := i) (by rw [lists_len]; omega) (by rw [lists_len]; omega) (.inl (by rw [lists_len]; omega))
      rw [lists_len, lists_len] at he
      by_cases g : xs.length < ys.length
      · rw [if_pos g] at he
        have Hr := Lib.hid (Hc.out.symm.trans he)
        have g1 : (xs.length : Int) < (ys.length : Int) := by omega
        clear he
        go_wp2
        go_ret
        exact ⟨by rw [Hr.out]; rfl, _, rfl⟩
      · rw [if_neg g, if_neg (by omega)] at he
        have Hr := Lib.hid (Hc.out.symm.trans he)
        have g1 : ¬ (xs.length : Int) < (ys.length : Int) := by omega
        have g2 : ¬ (ys.length : Int) < (xs.length : Int) := by omega
        clear he
        go_wp2
        go_ret
        exact ⟨by rw [Hr.out]; rfl, _, rfl⟩
end Go.Proofs.YtfcfooipoiomkaaDoor
