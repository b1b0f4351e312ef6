/- NameBeneath: the law's walk. -/
import Derived.Test.YtfcfooipoiomkaaDoorK
namespace Go.Proofs.YtfcfooipoiomkaaDoor
open Go.RowKit

theorem append_data (a b : ByteArray) : (a ++ b).data.toList = a.data.toList ++ b.data.toList := by simp

set_option maxHeartbeats 400000 in
set_option maxRecDepth 100000 in
theorem refBeneath_any (a b : ByteArray) (w : World) (ha : a.size ≤ 4611686018427387904) :
    Calls Tryd.prog 37 #[.string a, .string b] w fun e w' => e = .returned (.bool (benB a.data.toList b.data.toList)) ∧ w' = w := by
  have hp := fun W => Tryd.strings_HasPrefix b (a ++ ⟨#[47]⟩) W
  rw [append_data] at hp
  have Hp := Lib.hid hp
  clear hp
  go_enter Tryd.func37, Tryd.ntmps37
  go_wp2_with fail
  refine (Hp.out _).mono ?_
  rintro e w' ⟨rfl, rfl⟩
  go_wp2
  go_ret
  exact ⟨rfl, rfl⟩

theorem ben_self (a b : List UInt8) : benB a (a ++ 47 :: b) = true := (benB_iff _ _).2 ⟨b, rfl⟩
theorem ben_asym (a b : List UInt8) (h : benB a b = true) : benB b a = false := by
  rw [Bool.eq_false_iff]
  intro h2
  obtain ⟨r, hr⟩ := (benB_iff _ _).1 h
  obtain ⟨q, hq⟩ := (benB_iff _ _).1 h2
  have h3 := congrArg List.length hr
  have h4 := congrArg List.length hq
  simp at h3 h4
  omega

set_option maxHeartbeats 1000000 in
set_option maxRecDepth 100000 in
theorem nameBeneath_walk (a b : ByteArray) (w : World) :
    Calls Tryd.prog 11 #[.string a, .string b] w (Bel (.bool true) w) := by
  have Hk := Lib.hid known_any
  by_cases h1 : a.size ≤ 300
  · have h1' : (a.size : Int) ≤ 300 := by omega
    by_cases h2 : b.size ≤ 300
    · have h2' : (b.size : Int) ≤ 300 := by omega
      have ha : a.size ≤ 4611686018427387904 := by omega
      have hb : b.size ≤ 4611686018427387904 := by omega
      have hab := fun W => beneath_any a b W ha hb
      have hrab := fun W => refBeneath_any a b W ha
      have hs := fun W => beneath_any a (a ++ ⟨#[47]⟩ ++ b) W ha (by rw [Lib.size_eq, append_data, append_data, List.length_append, List.length_append, ← Lib.size_eq, ← Lib.size_eq, ← Lib.size_eq]; show _ + 1 + _ ≤ _; omega)
      rw [append_data, append_data, List.append_assoc, show (⟨#[47]⟩ : ByteArray).data.toList ++ b.data.toList = 47 :: b.data.toList from rfl, ben_self] at hs
      have hba := fun W => beneath_any b a W hb ha
      have Hs := Lib.hid hs
      clear hs
      cases hq : benB a.data.toList b.data.toList with
      | true =>
        rw [ben_asym _ _ hq] at hba
        rw [hq] at hab hrab
        have Hab := Lib.hid hab
        have Hrab := Lib.hid hrab
        have Hba := Lib.hid hba
        clear hab hrab hba hq h1 h2
        go_enter Tryd.func11, Tryd.ntmps11
        go_wp2_with fail
        refine (Hab.out _).mono ?_
        rintro e w1 ⟨rfl, rfl⟩
        go_wp2_with fail
        refine (Hrab.out _).mono ?_
        rintro e w2 ⟨rfl, rfl⟩
        go_wp2_with fail
        refine (Hs.out _).mono ?_
        rintro e w3 ⟨rfl, rfl⟩
        go_wp2_with fail
        refine (Hab.out _).mono ?_
        rintro e w4 ⟨rfl, rfl⟩
        go_wp2_with fail
        refine (Hba.out _).mono ?_
        rintro e w5 ⟨rfl, rfl⟩
        go_wp2_with fail
        refine (Hk.out _).mono ?_
        rintro e w6 ⟨rfl, hbl⟩
        go_wp2
        go_ret
        exact ⟨rfl, hbl⟩
      | false =>
        rw [hq] at hab hrab
        have Hab := Lib.hid hab
        have Hrab := Lib.hid hrab
        clear hab hrab hba hq h1 h2
        go_enter Tryd.func11, Tryd.ntmps11
        go_wp2_with fail
        refine (Hab.out _).mono ?_
        rintro e w1 ⟨rfl, rfl⟩
        go_wp2_with fail
        refine (Hrab.out _).mono ?_
        rintro e w2 ⟨rfl, rfl⟩
        go_wp2_with fail
        refine (Hs.out _).mono ?_
        rintro e w3 ⟨rfl, rfl⟩
        go_wp2_with fail
        refine (Hab.out _).mono ?_
        rintro e w4 ⟨rfl, rfl⟩
        go_wp2_with fail
        refine (Hk.out _).mono ?_
        rintro e w6 ⟨rfl, hbl⟩
        go_wp2
        go_ret
        exact ⟨rfl, hbl⟩
    · have h2' : ¬ (b.size : Int) ≤ 300 := by omega
      clear h1 h2
      go_enter Tryd.func11, Tryd.ntmps11
      go_wp2_with fail
      refine (Hk.out _).mono ?_
      rintro e w6 ⟨rfl, hbl⟩
      go_wp2
      go_ret
      exact ⟨rfl, hbl⟩
  · have h1' : ¬ (a.size : Int) ≤ 300 := by omega
    clear h1
    go_enter Tryd.func11, Tryd.ntmps11
    go_wp2_with fail
    refine (Hk.out _).mono ?_
    rintro e w6 ⟨rfl, hbl⟩
    go_wp2
    go_ret
    exact ⟨rfl, hbl⟩
end Go.Proofs.YtfcfooipoiomkaaDoor
