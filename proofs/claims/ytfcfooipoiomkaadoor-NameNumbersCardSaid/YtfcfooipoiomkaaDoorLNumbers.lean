/- NameNumbers: the law's walk. -/
import Derived.Test.YtfcfooipoiomkaaDoorK
namespace Go.Proofs.YtfcfooipoiomkaaDoor
open Go.RowKit

set_option maxHeartbeats 400000 in
set_option maxRecDepth 100000 in
theorem refNumber_any (s : ByteArray) (w : World) (hs : s.size ≤ 4611686018427387904) :
    Calls Tryd.prog 32 #[.string s] w fun e w' => e = .returned (.string (s.extract (numAt s.data.toList s.size) s.size)) ∧ w' = w := by
  go_enter Tryd.func32, Tryd.ntmps32
  go_wp2
  go_loop [3] (fun s3 => ∃ k : Nat, k ≤ s.size ∧ s3 = .int .i64 k ∧ numAt s.data.toList k = numAt s.data.toList s.size) (fun s3 => (intOf s3).toNat)
  case atStart => exact ⟨_, Nat.le_refl _, rfl, rfl⟩
  case round =>
    obtain ⟨k, hk, rfl, hn⟩ := hrel
    cases k with
    | zero =>
      have Hn := Lib.hid hn
      clear hn
      go_wp2
      go_ret
      exact ⟨by rw [← Hn.out]; simp [numAt], rfl⟩
    | succ k =>
      have hlt : k < s.size := by omega
      obtain ⟨x, hx⟩ : ∃ x : UInt8, s[k]'hlt = x := ⟨_, rfl⟩
      have hxl : s.data.toList[k]? = some x := by rw [← hx]; exact Lib.data_getElem? s k hlt
      have hd := dig_iff x
      rw [numAt, hxl] at hn
      simp only [Option.map_some, Option.getD_some] at hn
      clear hxl
      by_cases h1 : 48 ≤ (x.toNat : Int)
      · by_cases h2 : (x.toNat : Int) ≤ 57
        · rw [decide_eq_true h1, decide_eq_true h2] at hd
          rw [if_pos (by rw [hd]; rfl)] at hn
          clear hd
          have Hn := Lib.hid hn
          clear hn
          go_wp2
          go_round
          case rel => exact ⟨k, by omega, rfl, Hn.out⟩
          case measure => simp [intOf]
        · rw [decide_eq_true h1, decide_eq_false h2] at hd
          rw [if_neg (by rw [hd]; exact Bool.false_ne_true)] at hn
          clear hd
          have Hn := Lib.hid hn
          clear hn
          go_wp2
          go_ret
          exact ⟨by rw [← Hn.out]; rfl, rfl⟩
      · rw [decide_eq_false h1, Bool.false_and] at hd
        rw [if_neg (by rw [hd]; exact Bool.false_ne_true)] at hn
        clear hd
        have Hn := Lib.hid hn
        clear hn
        go_wp2
        go_ret
        exact ⟨by rw [← Hn.out]; rfl, rfl⟩

theorem suffix_extract (s : ByteArray) (k : Nat) : Lib.hasSuffix s.data.toList (s.extract k s.size).data.toList = true := by
  rw [Lib.extract_to_end]
  unfold Lib.hasSuffix
  rw [List.isSuffixOf_iff_suffix]
  exact List.drop_suffix _ _

set_option maxHeartbeats 400000 in
set_option maxRecDepth 100000 in
theorem nameNumbers_walk (s : ByteArray) (w : World) : Calls Tryd.prog 8 #[.string s] w (Bel (.bool true) w) := by
  have Hk := Lib.hid known_any
  by_cases h1 : s.size ≤ 600
  · have h1' : (s.size : Int) ≤ 600 := by omega
    have hn := fun W => number_any s W (by omega)
    have hr := fun W => refNumber_any s W (by omega)
    have hx := fun W => Tryd.strings_HasSuffix s (s.extract (numAt s.data.toList s.size) s.size) W (by omega)
    rw [suffix_extract] at hx
    generalize s.extract (numAt s.data.toList s.size) s.size = n at *
    have Hn := Lib.hid hn
    have Hr := Lib.hid hr
    have Hx := Lib.hid hx
    clear hn hr hx
    go_enter Tryd.func8, Tryd.ntmps8
    go_wp2_with fail
    refine (Hn.out _).mono ?_
    rintro e w1 ⟨rfl, rfl⟩
    go_wp2_with fail
    refine (Hr.out _).mono ?_
    rintro e w2 ⟨rfl, rfl⟩
    go_wp2_with fail
    refine (Hx.out _).mono ?_
    rintro e w3 ⟨rfl, rfl⟩
    go_wp2_with fail
    refine (Hk.out _).mono ?_
    rintro e w6 ⟨rfl, hbl⟩
    go_wp2
    go_ret
    exact ⟨rfl, hbl⟩
  · have h1' : ¬ (s.size : Int) ≤ 600 := by omega
    go_enter Tryd.func8, Tryd.ntmps8
    go_wp2_with fail
    refine (Hk.out _).mono ?_
    rintro e w6 ⟨rfl, hbl⟩
    go_wp2
    go_ret
    exact ⟨rfl, hbl⟩
end Go.Proofs.YtfcfooipoiomkaaDoor
