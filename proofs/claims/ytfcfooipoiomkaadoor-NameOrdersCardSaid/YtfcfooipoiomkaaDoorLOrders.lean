/- NameOrders: the law's walk, put together. -/
import Derived.Test.YtfcfooipoiomkaaDoorP
namespace Go.Proofs.YtfcfooipoiomkaaDoor
open Go.RowKit

theorem int3 {x : Int} (h : -1 ≤ x ∧ x ≤ 1) : x = -1 ∨ x = 0 ∨ x = 1 := by omega

set_option maxHeartbeats 1000000 in
set_option maxRecDepth 100000 in
theorem nameOrders_walk (a b c : ByteArray) (w : World) : Calls Tryd.prog 7 #[.string a, .string b, .string c] w (Bel (.bool true) w) := by
  by_cases hs : a.size ≤ 200 ∧ b.size ≤ 200 ∧ c.size ≤ 200
  · obtain ⟨sa, sb, sc⟩ := hs
    have la : (a.size : Int) ≤ 200 := by omega
    have lb : (b.size : Int) ≤ 200 := by omega
    have lc : (c.size : Int) ≤ 200 := by omega
    have hab := fun W => compare_any a b W (by omega) (by omega)
    have hbc := fun W => compare_any b c W (by omega) (by omega)
    have hac := fun W => compare_any a c W (by omega) (by omega)
    have hba := fun W => compare_any b a W (by omega) (by omega)
    have uac := fun W => under_any a c W (by omega) (by omega)
    have uab := fun W => under_any a b W (by omega) (by omega)
    by_cases hp : isPathB a.data.toList = true ∧ isPathB b.data.toList = true ∧ isPathB c.data.toList = true
    · obtain ⟨pa, pb, pc⟩ := hp
      rw [show cmpB a.data.toList b.data.toList = (cmpL a.data.toList b.data.toList, 0) from by simp [cmpB, pa, pb]] at hab
      rw [show cmpB b.data.toList c.data.toList = (cmpL b.data.toList c.data.toList, 0) from by simp [cmpB, pb, pc]] at hbc
      rw [show cmpB a.data.toList c.data.toList = (cmpL a.data.toList c.data.toList, 0) from by simp [cmpB, pa, pc]] at hac
      rw [show cmpB b.data.toList a.data.toList = (cmpL b.data.toList a.data.toList, 0) from by simp [cmpB, pa, pb], cmpL_neg a.data.toList b.data.toList] at hba
      rw [show underB a.data.toList c.data.toList = (benB a.data.toList c.data.toList, 0) from by simp [underB, pa, pc]] at uac
      rw [show underB a.data.toList b.data.toList = (benB a.data.toList b.data.toList, 0) from by simp [underB, pa, pb]] at uab
      have t1 := cmpL_trans (a := a.data.toList) (b := b.data.toList) (c := c.data.toList)
      have t2 := cmpL_ltrans (a := a.data.toList) (b := b.data.toList) (c := c.data.toList)
      have t3 := cmpL_between (a := a.data.toList) (b := b.data.toList) (c := c.data.toList)
      have bx := cmpL_bound a.data.toList b.data.toList
      have bz := cmpL_bound a.data.toList c.data.toList
      have by' := cmpL_bound b.data.toList c.data.toList
      have hq : cmpL a.data.toList b.data.toList = 0 → a = b := fun h => by
        have := cmpL_zero h
        rw [← toArray_toList a, ← toArray_toList b, this]
      have hne : cmpL a.data.toList b.data.toList ≠ 0 → (a.toList == b.toList) = false := fun h => beq_eq_false_iff_ne.2 fun e => h (by
        rw [Lib.toList_data, Lib.toList_data] at e
        rw [e]; exact cmpL_self _)
      generalize cmpL a.data.toList b.data.toList = X at *
      generalize cmpL b.data.toList c.data.toList = Y at *
      generalize cmpL a.data.toList c.data.toList = Z at *
      generalize benB a.data.toList b.data.toList = u2 at *
      generalize benB a.data.toList c.data.toList = u1 at *
      rcases int3 bx with rfl | rfl | rfl
      · rcases int3 by' with rfl | rfl | rfl
        · cases u1
          · exact orderMMF a b c w la lb lc Z (t2 (by omega) (by omega)) (hne (by omega)) u2 hab hbc hac hba uac uab
          · obtain rfl : u2 = true := t3 rfl (by omega) (by omega)
            exact orderMMT a b c w la lb lc Z (t2 (by omega) (by omega)) (hne (by omega)) hab hbc hac hba uac uab
        · cases u1
          · exact orderMOF a b c w la lb lc Z (t1 (by omega) (by omega)) (hne (by omega)) u2 hab hbc hac hba uac uab
          · obtain rfl : u2 = true := t3 rfl (by omega) (by omega)
            exact orderMOT a b c w la lb lc Z (t1 (by omega) (by omega)) (hne (by omega)) hab hbc hac hba uac uab
        · cases u1
          · exact orderMPF a b c w la lb lc Z bz.2 (hne (by omega)) u2 hab hbc hac hba uac uab
          · exact orderMPT a b c w la lb lc Z bz.2 (hne (by omega)) u2 hab hbc hac hba uac uab
      · obtain rfl := hq rfl
        rcases int3 by' with rfl | rfl | rfl
        · cases u1
          · exact orderOMF a c w la lc Z (t1 (by omega) (by omega)) u2 hab hbc hac hba uac uab
          · exact orderOMT a c w la lc Z (t1 (by omega) (by omega)) u2 hab hbc hac hba uac uab
        · cases u1
          · exact orderOOF a c w la lc Z (t1 (by omega) (by omega)) u2 hab hbc hac hba uac uab
          · exact orderOOT a c w la lc Z (t1 (by omega) (by omega)) u2 hab hbc hac hba uac uab
        · cases u1
          · exact orderOPF a c w la lc Z bz.2 u2 hab hbc hac hba uac uab
          · exact orderOPT a c w la lc Z bz.2 u2 hab hbc hac hba uac uab
      · rcases int3 by' with rfl | rfl | rfl
        · cases u1
          · exact orderPMF a b c w la lb lc Z bz.2 (hne (by omega)) u2 hab hbc hac hba uac uab
          · exact orderPMT a b c w la lb lc Z bz.2 (hne (by omega)) u2 hab hbc hac hba uac uab
        · cases u1
          · exact orderPOF a b c w la lb lc Z bz.2 (hne (by omega)) u2 hab hbc hac hba uac uab
          · exact orderPOT a b c w la lb lc Z bz.2 (hne (by omega)) u2 hab hbc hac hba uac uab
        · cases u1
          · exact orderPPF a b c w la lb lc Z bz.2 (hne (by omega)) u2 hab hbc hac hba uac uab
          · exact orderPPT a b c w la lb lc Z bz.2 (hne (by omega)) u2 hab hbc hac hba uac uab
    · refine order_bad a b c w la lb lc _ _ _ _ _ _ _ _ hab hbc hac hba ?_
      unfold cmpB
      cases pa : isPathB a.data.toList with
      | false => left; simp
      | true =>
        cases pb : isPathB b.data.toList with
        | false => left; simp
        | true =>
          cases pc : isPathB c.data.toList with
          | false => right; simp
          | true => exact absurd ⟨pa, pb, pc⟩ hp
  · have Hk := Lib.hid known_any
    by_cases h1 : (a.size : Int) ≤ 200
    · by_cases h2 : (b.size : Int) ≤ 200
      · have h3 : ¬ (c.size : Int) ≤ 200 := by omega
        clear hs
        go_enter Tryd.func7, Tryd.ntmps7
        go_wp2_with fail
        refine (Hk.out _).mono ?_
        rintro e W1 ⟨rfl, hb1⟩
        go_wp2_with fail
        refine (Hk.out _).mono ?_
        rintro e W2 ⟨rfl, hb2⟩
        go_wp2
        go_ret
        exact ⟨rfl, bel3 hb1 hb2⟩
      · clear hs
        go_enter Tryd.func7, Tryd.ntmps7
        go_wp2_with fail
        refine (Hk.out _).mono ?_
        rintro e W1 ⟨rfl, hb1⟩
        go_wp2_with fail
        refine (Hk.out _).mono ?_
        rintro e W2 ⟨rfl, hb2⟩
        go_wp2
        go_ret
        exact ⟨rfl, bel3 hb1 hb2⟩
    · clear hs
      go_enter Tryd.func7, Tryd.ntmps7
      go_wp2_with fail
      refine (Hk.out _).mono ?_
      rintro e W1 ⟨rfl, hb1⟩
      go_wp2_with fail
      refine (Hk.out _).mono ?_
      rintro e W2 ⟨rfl, hb2⟩
      go_wp2
      go_ret
      exact ⟨rfl, bel3 hb1 hb2⟩
end Go.Proofs.YtfcfooipoiomkaaDoor
