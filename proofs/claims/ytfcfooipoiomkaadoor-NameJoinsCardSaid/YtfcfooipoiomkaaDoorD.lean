/- Beneath: one text begins with another one and a slash. -/
import Derived.Test.YtfcfooipoiomkaaDoorC
namespace Go.Proofs.YtfcfooipoiomkaaDoor
open Go.RowKit

/-- b begins with a and "/". -/
def benB (a b : List UInt8) : Bool := (a ++ [47]).isPrefixOf b

theorem benB_iff (a b : List UInt8) : benB a b = true ↔ ∃ r, b = a ++ 47 :: r := by
  unfold benB
  rw [List.isPrefixOf_iff_prefix]
  constructor
  · rintro ⟨r, rfl⟩; exact ⟨r, by simp⟩
  · rintro ⟨r, rfl⟩; exact ⟨r, by simp⟩

set_option maxHeartbeats 400000 in
set_option maxRecDepth 100000 in
theorem beneath_any (a b : ByteArray) (w : World) (ha : a.size ≤ 4611686018427387904) (_hb : b.size ≤ 4611686018427387904) :
    Calls Tryd.prog 36 #[.string a, .string b] w fun e w' => e = .returned (.bool (benB a.data.toList b.data.toList)) ∧ w' = w := by
  have hsa := Lib.size_eq a
  have hsb := Lib.size_eq b
  by_cases hlt : a.size < b.size
  · have hlt' : (a.size : Int) < (b.size : Int) := by omega
    obtain ⟨x, hx⟩ : ∃ x : UInt8, b[a.size]'hlt = x := ⟨_, rfl⟩
    have hxl : b.data.toList[a.size]? = some x := by rw [← hx]; exact Lib.data_getElem? b _ hlt
    by_cases h47 : x = 47
    · subst h47
      have hex : (b.extract 0 a.size).toList = b.data.toList.take a.size := by rw [Lib.extract_toList]; simp
      have hsplit : b.data.toList = b.data.toList.take a.size ++ 47 :: b.data.toList.drop (a.size + 1) := by
        have h1 := (List.take_append_drop a.size b.data.toList).symm
        rw [List.drop_eq_getElem_cons (i := a.size) (by rw [← hsb]; exact hlt)] at h1
        have h2 : b.data.toList[a.size]'(by rw [← hsb]; exact hlt) = 47 := by
          rw [List.getElem?_eq_getElem (by rw [← hsb]; exact hlt)] at hxl
          exact Option.some.inj hxl
        rw [h2] at h1
        exact h1
      by_cases hq : b.data.toList.take a.size = a.data.toList
      · have hv : benB a.data.toList b.data.toList = true := by
          rw [benB_iff]
          refine ⟨b.data.toList.drop (a.size + 1), ?_⟩
          rw [← hq]
          exact hsplit
        have he : (b.extract 0 a.size).toList = a.toList := by rw [hex, hq, Lib.toList_data]
        rw [hv]
        clear hv hxl hsa hsb hq hex hsplit
        go_enter Tryd.func36, Tryd.ntmps36
        go_wp2
        go_ret
        exact ⟨rfl, rfl⟩
      · have hv : benB a.data.toList b.data.toList = false := by
          rw [Bool.eq_false_iff]
          intro h
          obtain ⟨r, hr⟩ := (benB_iff _ _).1 h
          rw [hr, hsa] at hq
          simp at hq
        have he : ((b.extract 0 a.size).toList == a.toList) = false := by
          rw [hex, Lib.toList_data]
          exact beq_eq_false_iff_ne.2 hq
        rw [hv]
        clear hv hxl hsa hsb hq hex hsplit
        go_enter Tryd.func36, Tryd.ntmps36
        go_wp2
        go_ret
        exact ⟨rfl, rfl⟩
    · have hv : benB a.data.toList b.data.toList = false := by
        rw [Bool.eq_false_iff]
        intro h
        obtain ⟨r, hr⟩ := (benB_iff _ _).1 h
        rw [hr, hsa] at hxl
        simp at hxl
        exact h47 hxl.symm
      have hn : ((x.toNat : Int) == 47) = false := beq_eq_false_iff_ne.2 fun e => h47 (UInt8.toNat_inj.1 (by simpa using (by omega : x.toNat = 47)))
      rw [hv]
      clear hv hxl hsa hsb h47
      go_enter Tryd.func36, Tryd.ntmps36
      go_wp2
      go_ret
      exact ⟨rfl, rfl⟩
  · have hv : benB a.data.toList b.data.toList = false := by
      rw [Bool.eq_false_iff]
      intro h
      obtain ⟨r, hr⟩ := (benB_iff _ _).1 h
      rw [hr] at hsb
      simp at hsb
      simp at hsa
      omega
    have hlt' : ¬ (a.size : Int) < (b.size : Int) := by omega
    rw [hv]
    clear hv hsa hsb
    go_enter Tryd.func36, Tryd.ntmps36
    go_wp2
    go_ret
    exact ⟨rfl, rfl⟩
end Go.Proofs.YtfcfooipoiomkaaDoor
