/- NameLinks: the law's walk. -/
import Derived.Test.YtfcfooipoiomkaaDoorK
import Derived.Test.YtfcfooipoiomkaaDoorM
namespace Go.Proofs.YtfcfooipoiomkaaDoor
open Go.RowKit

theorem arr_data (l : List UInt8) : (⟨l.toArray⟩ : ByteArray).data.toList = l := rfl
theorem arr_size (l : List UInt8) : (⟨l.toArray⟩ : ByteArray).size = l.length := by rw [Lib.size_eq, arr_data]
theorem clean_len (l : List UInt8) : (cleanB l).1.length ≤ 256 := by
  cases h : (cleanB l).2 with
  | true =>
    have := clean_link h
    unfold linkB at this
    rw [Bool.and_eq_true] at this
    exact of_decide_eq_true this.1
  | false =>
    unfold cleanB at h ⊢
    cases hf : foldC (pieces 47 l) [] with
    | none => simp
    | some a =>
      rw [hf] at h
      have : ¬ 0 < a.length := by simpa using h
      simp; omega

set_option maxHeartbeats 400000 in
set_option maxRecDepth 100000 in
theorem nameLinks_walk (s : ByteArray) (w : World) : Calls Tryd.prog 10 #[.string s] w (Bel (.bool true) w) := by
  have Hk := Lib.hid known_any
  by_cases h1 : s.size ≤ 600
  · have h1' : (s.size : Int) ≤ 600 := by omega
    have hc := fun W => clean_any s W (by omega)
    have hl := fun W => link_any s W (by omega)
    have hlen := clean_len s.data.toList
    obtain ⟨t, ht⟩ : ∃ t, (cleanB s.data.toList).1 = t := ⟨_, rfl⟩
    have hct := fun W => clean_any (⟨t.toArray⟩ : ByteArray) W (by rw [arr_size, ← ht]; omega)
    have hlt := fun W => link_any (⟨t.toArray⟩ : ByteArray) W (by rw [arr_size, ← ht]; omega)
    rw [arr_data] at hct hlt
    rw [ht] at hc
    cases hok : (cleanB s.data.toList).2 with
    | true =>
      have hlk := clean_link hok
      rw [ht] at hlk
      rw [hlk] at hlt
      rw [clean_of_link hlk] at hct
      rw [hok] at hc
      have Hc := Lib.hid hc
      have Hct := Lib.hid hct
      have Hlt := Lib.hid hlt
      cases hls : linkB s.data.toList with
      | true =>
        have hst : t = s.data.toList := by rw [← ht, clean_of_link hls]
        have hst' : (⟨t.toArray⟩ : ByteArray) = s := by rw [hst]
        rw [hls] at hl
        rw [hst'] at Hc Hct Hlt
        have Hl := Lib.hid hl
        clear hc hct hlt hlk hl hlen ht hok hls hst hst'
        go_enter Tryd.func10, Tryd.ntmps10
        go_wp2_with fail
        refine (Hc.out _).mono ?_
        rintro e W1 ⟨rfl, hb1⟩
        go_wp2_with fail
        refine (Hct.out _).mono ?_
        rintro e W2 ⟨rfl, hb2⟩
        go_wp2_with fail
        refine (Hlt.out _).mono ?_
        rintro e W3 ⟨rfl, hb3⟩
        go_wp2_with fail
        refine (Hl.out _).mono ?_
        rintro e W4 ⟨rfl, hb4⟩
        go_wp2_with fail
        refine (Hk.out _).mono ?_
        rintro e W5 ⟨rfl, hb5⟩
        go_wp2
        go_ret
        have z1 := hb1.trans (hb2.mono hb1.size)
        have z2 := z1.trans (hb3.mono z1.size)
        have z3 := z2.trans (hb4.mono z2.size)
        exact ⟨rfl, z3.trans (hb5.mono z3.size)⟩
      | false =>
        rw [hls] at hl
        have Hl := Lib.hid hl
        clear hc hct hlt hlk hl hlen ht hok hls
        generalize (⟨t.toArray⟩ : ByteArray) = tt at *
        go_enter Tryd.func10, Tryd.ntmps10
        go_wp2_with fail
        refine (Hc.out _).mono ?_
        rintro e W1 ⟨rfl, hb1⟩
        go_wp2_with fail
        refine (Hct.out _).mono ?_
        rintro e W2 ⟨rfl, hb2⟩
        go_wp2_with fail
        refine (Hlt.out _).mono ?_
        rintro e W3 ⟨rfl, hb3⟩
        go_wp2_with fail
        refine (Hl.out _).mono ?_
        rintro e W4 ⟨rfl, hb4⟩
        go_wp2_with fail
        refine (Hk.out _).mono ?_
        rintro e W5 ⟨rfl, hb5⟩
        go_wp2
        go_ret
        have z1 := hb1.trans (hb2.mono hb1.size)
        have z2 := z1.trans (hb3.mono z1.size)
        have z3 := z2.trans (hb4.mono z2.size)
        exact ⟨rfl, z3.trans (hb5.mono z3.size)⟩
    | false =>
      have hls : linkB s.data.toList = false := by
        rw [Bool.eq_false_iff]
        intro h
        rw [clean_of_link h] at hok
        cases hok
      rw [hls] at hl
      rw [hok] at hc
      have Hc := Lib.hid hc
      have Hl := Lib.hid hl
      clear hc hct hlt hl hlen ht hok hls
      generalize (⟨t.toArray⟩ : ByteArray) = tt at *
      go_enter Tryd.func10, Tryd.ntmps10
      go_wp2_with fail
      refine (Hc.out _).mono ?_
      rintro e W1 ⟨rfl, hb1⟩
      go_wp2_with fail
      refine (Hl.out _).mono ?_
      rintro e W4 ⟨rfl, hb4⟩
      go_wp2_with fail
      refine (Hk.out _).mono ?_
      rintro e W5 ⟨rfl, hb5⟩
      go_wp2
      go_ret
      have z1 := hb1.trans (hb4.mono hb1.size)
      exact ⟨rfl, z1.trans (hb5.mono z1.size)⟩
  · have h1' : ¬ (s.size : Int) ≤ 600 := by omega
    go_enter Tryd.func10, Tryd.ntmps10
    go_wp2_with fail
    refine (Hk.out _).mono ?_
    rintro e w6 ⟨rfl, hbl⟩
    go_wp2
    go_ret
    exact ⟨rfl, hbl⟩
end Go.Proofs.YtfcfooipoiomkaaDoor
