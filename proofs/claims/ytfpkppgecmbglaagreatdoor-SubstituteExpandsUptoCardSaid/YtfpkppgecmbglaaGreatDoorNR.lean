/- The reference's small functions: which texts are names, keys, texts. -/
import Derived.Test.YtfpkppgecmbglaaGreatDoorNC
import Derived.Test.YtfpkppgecmbglaaGreatDoorShelf
import Derived.Lib.IndexAny
namespace Go.Proofs.YtfpkppgecmbglaaGreatDoor.Nm
open Go.RowKit

theorem index_neg {S : List UInt8} {x : UInt8} (h : S.contains x = false) : Lib.indexByte S x = -1 := by
  have h1 := Lib.contains_iff_indexByte S x
  rw [h] at h1
  have h2 : ¬ 0 ≤ Lib.indexByte S x := of_decide_eq_false h1.symm
  have h3 := Lib.indexByte_ge S x
  omega
theorem index_pos {S : List UInt8} {x : UInt8} (h : S.contains x = true) : 0 ≤ Lib.indexByte S x := by
  have h1 := Lib.contains_iff_indexByte S x
  rw [h] at h1
  exact of_decide_eq_true h1.symm
theorem u8_back (x : UInt8) : ((x.toNat : Int)).toNat.toUInt8 = x := by simp

set_option maxHeartbeats 400000 in
set_option maxRecDepth 100000 in
theorem in_any (s S : ByteArray) (w : World) (hs : s.size ≤ 4611686018427387904) :
    Calls Tryz.prog 73 #[.string s, .string S] w fun e w' => e = .returned (.bool (allIn S.data.toList s.data.toList)) ∧ w' = w := by
  obtain ⟨res, hres⟩ : ∃ res, allIn S.data.toList s.data.toList = res := ⟨_, rfl⟩
  rw [hres]
  have Hres := Lib.hid hres
  clear hres
  go_enter Tryz.func73, Tryz.ntmps73
  go_wp2
  go_loop [5] (fun s5 => ∃ i : Nat, i ≤ s.size ∧ s5 = .int .i64 i ∧ allIn S.data.toList (s.data.toList.take i) = true) (fun s5 => s.size - (intOf s5).toNat)
  case atStart => exact ⟨0, by omega, rfl, rfl⟩
  case round =>
    obtain ⟨i, hi, rfl, hall⟩ := hrel
    have Hall := Lib.hid hall
    clear hall
    by_cases hlt : i < s.size
    · have hiz : (i : Int) < (s.size : Int) := by omega
      obtain ⟨x, hx⟩ : ∃ x : UInt8, s[i]'hlt = x := ⟨_, rfl⟩
      have hxl : s.data.toList[i]? = some x := by rw [← hx]; exact Lib.data_getElem? s i hlt
      have hib := fun W => Tryz.strings_IndexByte S (x.toNat : Int) W
      rw [u8_back] at hib
      cases hc : S.data.toList.contains x with
      | false =>
        have hf := allIn_false S.data.toList s.data.toList i x hxl hc
        rw [index_neg hc] at hib
        have hr : res = false := by rw [← Hres.out, hf]
        subst hr
        have Hib := Lib.hid hib
        clear hib hc hf hxl
        go_wp2_with (go_at_call 34; refine (Hib.out _).mono ?_; rintro e w' ⟨rfl, rfl⟩)
        go_ret
        exact ⟨rfl, rfl⟩
      | true =>
        have ht : allIn S.data.toList (s.data.toList.take (i + 1)) = true := by
          rw [List.take_add_one, hxl]
          simp only [Option.toList]
          rw [allIn_snoc, Hall.out, hc]
          rfl
        have hpos := index_pos hc
        generalize Lib.indexByte S.data.toList x = k at *
        have Hib := Lib.hid hib
        have Ht := Lib.hid ht
        clear hib hc ht hxl
        go_wp2_with (go_at_call 34; refine (Hib.out _).mono ?_; rintro e w' ⟨rfl, rfl⟩)
        go_round
        case rel => exact ⟨i + 1, by omega, by go_num, Ht.out⟩
        case measure => simp [intOf]; omega
    · have h : s.data.toList.take i = s.data.toList := List.take_of_length_le (by rw [← Lib.size_eq]; omega)
      rw [h] at Hall
      have hr : res = true := by rw [← Hres.out, Hall.out]
      subst hr
      go_wp2
      go_ret
      exact ⟨rfl, rfl⟩

/-- "s != c" for a short constant, in the walk's forms. -/
theorem ne_form {s : ByteArray} {l : List UInt8} (h : s.data.toList ≠ l) : (s.toList == l) = false := by rw [Lib.toList_data]; exact beq_eq_false_iff_ne.2 h

set_option maxHeartbeats 400000 in
set_option maxRecDepth 100000 in
theorem refValid_any (s : ByteArray) (w : World) (hs : s.size ≤ 4611686018427387904) :
    Calls Tryz.prog 42 #[.string s] w fun e w' => e = .returned (.bool (nameB NameSet s.data.toList)) ∧ w' = w := by
  have hsz := Lib.size_eq s
  obtain ⟨res, hres⟩ : ∃ res, nameB NameSet s.data.toList = res := ⟨_, rfl⟩
  rw [hres]
  by_cases h0 : s.data.toList = []
  · have hr : res = false := by rw [← hres]; simp [nameB, h0]
    subst hr
    have he := empty_form h0
    clear h0 hsz hres
    go_enter Tryz.func42, Tryz.ntmps42
    go_wp2
    go_ret
    exact ⟨rfl, rfl⟩
  · have he := nonempty_form h0
    have hle : s.data.toList.isEmpty = false := by rw [← Lib.toList_data]; exact he
    by_cases hl : s.size ≤ 32
    · have hl' : (s.size : Int) ≤ 32 := by omega
      have hll : s.data.toList.length ≤ 32 := by rw [← hsz]; exact hl
      have hin := fun W => in_any s ⟨#[65, 66, 67, 68, 69, 70, 71, 72, 73, 74, 75, 76, 77, 78, 79, 80, 81, 82, 83, 84, 85, 86, 87, 88, 89, 90, 97, 98, 99, 100, 101, 102, 103, 104, 105, 106, 107, 108, 109, 110, 111, 112, 113, 114, 115, 116, 117, 118, 119, 120, 121, 122, 48, 49, 50, 51, 52, 53, 54, 55, 56, 57, 95, 46, 58, 43, 45, 33]⟩ W hs
      rw [show (⟨#[65, 66, 67, 68, 69, 70, 71, 72, 73, 74, 75, 76, 77, 78, 79, 80, 81, 82, 83, 84, 85, 86, 87, 88, 89, 90, 97, 98, 99, 100, 101, 102, 103, 104, 105, 106, 107, 108, 109, 110, 111, 112, 113, 114, 115, 116, 117, 118, 119, 120, 121, 122, 48, 49, 50, 51, 52, 53, 54, 55, 56, 57, 95, 46, 58, 43, 45, 33]⟩ : ByteArray).data.toList = NameSet from rfl] at hin
      unfold nameB at hres
      rw [hle, decide_eq_true hll] at hres
      cases ha : allIn NameSet s.data.toList with
      | false =>
        have hr : res = false := by rw [← hres, ha]; simp
        subst hr
        rw [ha] at hin
        have Hin := Lib.hid hin
        clear hin ha hres hle h0 hsz hll
        go_enter Tryz.func42, Tryz.ntmps42
        go_wp2_with fail
        refine (Hin.out _).mono ?_
        rintro e w1 ⟨rfl, rfl⟩
        go_wp2
        go_ret
        exact ⟨rfl, rfl⟩
      | true =>
        rw [ha] at hin hres
        have Hin := Lib.hid hin
        by_cases h46 : s.data.toList = [46]
        · have hr : res = false := by rw [← hres, h46]; rfl
          subst hr
          have hq : s.toList = [46] := by rw [Lib.toList_data, h46]
          clear hin ha hres hle h0 hsz hll h46
          go_enter Tryz.func42, Tryz.ntmps42
          go_wp2_with fail
          refine (Hin.out _).mono ?_
          rintro e w1 ⟨rfl, rfl⟩
          go_wp2
          go_ret
          exact ⟨rfl, rfl⟩
        · have hq := ne_form h46
          by_cases h4646 : s.data.toList = [46, 46]
          · have hr : res = false := by rw [← hres, h4646]; rfl
            subst hr
            have hq2 : s.toList = [46, 46] := by rw [Lib.toList_data, h4646]
            clear hin ha hres hle h0 hsz hll h46 h4646
            go_enter Tryz.func42, Tryz.ntmps42
            go_wp2_with fail
            refine (Hin.out _).mono ?_
            rintro e w1 ⟨rfl, rfl⟩
            go_wp2
            go_ret
            exact ⟨rfl, rfl⟩
          · have hr : res = true := by
              rw [← hres]
              unfold isDotsB
              rw [beq_eq_false_iff_ne.2 h46, beq_eq_false_iff_ne.2 h4646]
              rfl
            subst hr
            have hq2 := ne_form h4646
            clear hin ha hres hle h0 hsz hll h46 h4646
            go_enter Tryz.func42, Tryz.ntmps42
            go_wp2_with fail
            refine (Hin.out _).mono ?_
            rintro e w1 ⟨rfl, rfl⟩
            go_wp2
            go_ret
            exact ⟨rfl, rfl⟩
    · have hl' : ¬ (s.size : Int) ≤ 32 := by omega
      have hr : res = false := by
        rw [← hres]
        unfold nameB
        rw [decide_eq_false (show ¬ s.data.toList.length ≤ 32 by rw [← hsz]; exact hl)]
        simp
      subst hr
      clear h0 hsz hres hle
      go_enter Tryz.func42, Tryz.ntmps42
      go_wp2
      go_ret
      exact ⟨rfl, rfl⟩
end Go.Proofs.YtfpkppgecmbglaaGreatDoor.Nm
