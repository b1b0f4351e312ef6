/- The reference's small functions: which texts are names, keys, texts. -/
import Derived.Test.YteiphphihclnfaaDoorNC
import Derived.Test.YteiphphihclnfaaDoorShelf
import Derived.Lib.IndexAny
namespace Go.Proofs.YteiphphihclnfaaDoor.Nm
open Go.RowKit

theorem index_neg {S : List UInt8} {x : UInt8} (h : S.contains x = false) : Lib.indexByte S x = -1 := by
  have h1 := Lib.contains_iff_indexByte S x
  rw [h] at h1
  have h2 : ¬ 0 ≤ Lib.indexByte S x := of_decide_eq_false h1.symm
  have h3 := Lib.indexByte_ge S x
  omega
theorem index_pos {S : List UInt8} {x : UInt8} (h : S.contains x = true) : 0 ≤ Lib.indexByte S x := by
  have h1 := Lib.contains_iff_indexByte S x
  rw [h] at h1
  exact of_decide_eq_true h1.symm
theorem u8_back (x : UInt8) : ((x.toNat : Int)).toNat.toUInt8 = x := by simp

set_option maxHeartbeats 400000 in
set_option maxRecDepth 100000 in
theorem in_any (s S : ByteArray) (w : World) (hs : s.size ≤ 4611686018427387904) :
    Calls Tryd.prog 52 #[.string s, .string S] w fun e w' => e = .returned (.bool (allIn S.data.toList s.data.toList)) ∧ w' = w := by
  obtain ⟨res, hres⟩ : ∃ res, allIn S.data.toList s.data.toList = res := ⟨_, rfl⟩
  rw [hres]
  have Hres := Lib.hid hres
  clear hres
  go_enter Tryd.func52, Tryd.ntmps52
  go_wp2
  go_loop [5] (fun s5 => ∃ i : Nat, i ≤ s.size ∧ s5 = .int .i64 i ∧ allIn S.data.toList (s.data.toList.take i) = true) (fun s5 => s.size - (intOf s5).toNat)
  case atStart => exact ⟨0, by omega, rfl, rfl⟩
  case round =>
    obtain ⟨i, hi, rfl, hall⟩ := hrel
    have Hall := Lib.hid hall
    clear hall
    by_cases hlt : i < s.size
    · have hiz : (i : Int) < (s.size : Int) := by omega
      obtain ⟨x, hx⟩ : ∃ x : UInt8, s[i]'hlt = x := ⟨_, rfl⟩
      have hxl : s.data.toList[i]? = some x := by rw [← hx]; exact Lib.data_getElem? s i hlt
      have hib := fun W => Tryd.strings_IndexByte S (x.toNat : Int) W
      rw [u8_back] at hib
      cases hc : S.data.toList.contains x with
      | false =>
        have hf := allIn_false S.data.toList s.data.toList i x hxl hc
        rw [index_neg hc] at hib
        have hr : res = false := by rw [← Hres.out, hf]
        subst hr
        have Hib := Lib.hid hib
        clear hib hc hf hxl
        go_wp2_with (go_at_call 67; refine (Hib.out _).mono ?_; rintro e w' ⟨rfl, rfl⟩)
        go_ret
        exact ⟨rfl, rfl⟩
      | true =>
        have ht : allIn S.data.toList (s.data.toList.take (i + 1)) = true := by
          rw [List.take_add_one, hxl]
          simp only [Option.toList]
          rw [allIn_snoc, Hall.out, hc]
          rfl
        have hpos := index_pos hc
        generalize Lib.indexByte S.data.toList x = k at *
        have Hib := Lib.hid hib
        have Ht := Lib.hid ht
        clear hib hc ht hxl
        go_wp2_with (go_at_call 67; refine (Hib.out _).mono ?_; rintro e w' ⟨rfl, rfl⟩)
        go_round
        case rel => exact ⟨i + 1, by omega, by go_num, Ht.out⟩
        case measure => simp [intOf]; omega
    · have h : s.data.toList.take i = s.data.toList := List.take_of_length_le (by rw [← Lib.size_eq]; omega)
      rw [h] at Hall
      have hr : res = true := by rw [← Hres.out, Hall.out]
      subst hr
      go_wp2
      go_ret
      exact ⟨rfl, rfl⟩

/-- "s != c" for a short constant, in the walk's forms. -/
theorem ne_form {s : ByteArray} {l : List UInt8} (h : s.data.toList ≠ l) : (s.toList == l) = false := by rw [Lib.toList_data]; exact beq_eq_false_iff_ne.2 h

end Go.Proofs.YteiphphihclnfaaDoor.Nm
