/- NR -/
import Derived.Test.YtkkibibecgcbmaaGreatDoorQB
import Derived.Test.YtkkibibecgcbmaaGreatDoorQShelf
import Derived.Lib.IndexAny
open Go.Lib renaming hid → qH
set_option maxRecDepth 100000
set_option maxHeartbeats 16000000
namespace Go.Proofs.YtkkibibecgcbmaaGreatDoor.Nm
open Go.RowKit
theorem index_neg {S : List UInt8} {x : UInt8} (h : S.contains x = false) : Lib.indexByte S x = -1 := by
 have h1 := Lib.contains_iff_indexByte S x
 rw [h] at h1
 have h2 : ¬ 0 ≤ Lib.indexByte S x := of_decide_eq_false h1.symm
 have h3 := Lib.indexByte_ge S x
 omega
theorem index_pos {S : List UInt8} {x : UInt8} (h : S.contains x = true) : 0 ≤ Lib.indexByte S x := by
 have h1 := Lib.contains_iff_indexByte S x
 rw [h] at h1
 exact of_decide_eq_true h1.symm
theorem u8_back (x : UInt8) : ((x.toNat : Int)).toNat.toUInt8 = x := by simp
theorem in_any (s S : ByteArray) (w : World) (hs : s.size ≤ 4611686018427387904) :
  Calls Tryz.prog 95 #[.string s, .string S] w fun e w' => e = .returned (.bool (allIn S.data.toList s.data.toList)) ∧ w' = w := by
 obtain ⟨res, hres⟩ : ∃ res, allIn S.data.toList s.data.toList = res := ⟨_, rfl⟩
 rw [hres]
 have Hres := qH hres
 clear hres
 go_enter Tryz.func95, Tryz.ntmps95
 go_wp2
 go_loop [5] (fun s5 => ∃ i : Nat, i ≤ s.size ∧ s5 = .int .i64 i ∧ allIn S.data.toList (s.data.toList.take i) = true) (fun s5 => s.size - (intOf s5).toNat)
 case atStart => exact ⟨0, by omega, rfl, rfl⟩
 case round =>
  obtain ⟨i, hi, rfl, hall⟩ := hrel
  have Hall := qH hall
  clear hall
  by_cases hlt : i < s.size
  ·have hiz : (i : Int) < (s.size : Int) := by omega
   obtain ⟨x, hx⟩ : ∃ x : UInt8, s[i]'hlt = x := ⟨_, rfl⟩
   have hxl : s.data.toList[i]? = some x := by rw [← hx]; exact Lib.data_getElem? s i hlt
   have hib := fun W => Tryz.strings_IndexByte S (x.toNat : Int) W
   rw [u8_back] at hib
   cases hc : S.data.toList.contains x with
   | false =>
    have hf := allIn_false S.data.toList s.data.toList i x hxl hc
    rw [index_neg hc] at hib
    have hr : res = false := by rw [← Hres.out, hf]
    subst hr
    have Hib := qH hib
    clear hib hc hf hxl
    go_wp2_with (go_at_call 135; refine (Hib.out _).mono ?_; rintro e w' ⟨rfl, rfl⟩)
    go_ret
    exact ⟨rfl, rfl⟩
   | true =>
    have ht : allIn S.data.toList (s.data.toList.take (i + 1)) = true := by
     rw [List.take_add_one, hxl]
     simp only [Option.toList]
     rw [allIn_snoc, Hall.out, hc]
     rfl
    have hpos := index_pos hc
    generalize Lib.indexByte S.data.toList x = k at *
    have Hib := qH hib
    have Ht := qH ht
    clear hib hc ht hxl
    go_wp2_with (go_at_call 135; refine (Hib.out _).mono ?_; rintro e w' ⟨rfl, rfl⟩)
    go_round
    case rel => exact ⟨i + 1, by omega, by go_num, Ht.out⟩
    case measure => simp [intOf]; omega
  ·have h : s.data.toList.take i = s.data.toList := List.take_of_length_le (by rw [← Lib.size_eq]; omega)
   rw [h] at Hall
   have hr : res = true := by rw [← Hres.out, Hall.out]
   subst hr
   go_wp2
   go_ret
   exact ⟨rfl, rfl⟩
theorem ne_form {s : ByteArray} {l : List UInt8} (h : s.data.toList ≠ l) : (s.toList == l) = false := by rw [Lib.toList_data]; exact beq_eq_false_iff_ne.2 h
theorem refValid_any (s : ByteArray) (w : World) (hs : s.size ≤ 4611686018427387904) :
  Calls Tryz.prog 61 #[.string s] w fun e w' => e = .returned (.bool (nameB NameSet s.data.toList)) ∧ w' = w := by
 have hsz := Lib.size_eq s
 obtain ⟨res, hres⟩ : ∃ res, nameB NameSet s.data.toList = res := ⟨_, rfl⟩
 rw [hres]
 by_cases h0 : s.data.toList = []
 ·have hr : res = false := by rw [← hres]; simp [nameB, h0]
  subst hr
  have he := empty_form h0
  clear h0 hsz hres
  go_enter Tryz.func61, Tryz.ntmps61
  go_wp2
  go_ret
  exact ⟨rfl, rfl⟩
 ·have he := nonempty_form h0
  have hle : s.data.toList.isEmpty = false := by rw [← Lib.toList_data]; exact he
  by_cases hl : s.size ≤ 32
  ·have hl' : (s.size : Int) ≤ 32 := by omega
   have hll : s.data.toList.length ≤ 32 := by rw [← hsz]; exact hl
   have hin := fun W => in_any s ⟨#[65, 66, 67, 68, 69, 70, 71, 72, 73, 74, 75, 76, 77, 78, 79, 80, 81, 82, 83, 84, 85, 86, 87, 88, 89, 90, 97, 98, 99, 100, 101, 102, 103, 104, 105, 106, 107, 108, 109, 110, 111, 112, 113, 114, 115, 116, 117, 118, 119, 120, 121, 122, 48, 49, 50, 51, 52, 53, 54, 55, 56, 57, 95, 46, 58, 43, 45, 33]⟩ W hs
   rw [show (⟨#[65, 66, 67, 68, 69, 70, 71, 72, 73, 74, 75, 76, 77, 78, 79, 80, 81, 82, 83, 84, 85, 86, 87, 88, 89, 90, 97, 98, 99, 100, 101, 102, 103, 104, 105, 106, 107, 108, 109, 110, 111, 112, 113, 114, 115, 116, 117, 118, 119, 120, 121, 122, 48, 49, 50, 51, 52, 53, 54, 55, 56, 57, 95, 46, 58, 43, 45, 33]⟩ : ByteArray).data.toList = NameSet from rfl] at hin
   unfold nameB at hres
   rw [hle, decide_eq_true hll] at hres
   cases ha : allIn NameSet s.data.toList with
   | false =>
    have hr : res = false := by rw [← hres, ha]; simp
    subst hr
    rw [ha] at hin
    have Hin := qH hin
    clear hin ha hres hle h0 hsz hll
    go_enter Tryz.func61, Tryz.ntmps61
    go_wp2_with fail
    refine (Hin.out _).mono ?_
    rintro e w1 ⟨rfl, rfl⟩
    go_wp2
    go_ret
    exact ⟨rfl, rfl⟩
   | true =>
    rw [ha] at hin hres
    have Hin := qH hin
    by_cases h46 : s.data.toList = [46]
    ·have hr : res = false := by rw [← hres, h46]; rfl
     subst hr
     have hq : s.toList = [46] := by rw [Lib.toList_data, h46]
     clear hin ha hres hle h0 hsz hll h46
     go_enter Tryz.func61, Tryz.ntmps61
     go_wp2_with fail
     refine (Hin.out _).mono ?_
     rintro e w1 ⟨rfl, rfl⟩
     go_wp2
     go_ret
     exact ⟨rfl, rfl⟩
    ·have hq := ne_form h46
     by_cases h4646 : s.data.toList = [46, 46]
     ·have hr : res = false := by rw [← hres, h4646]; rfl
      subst hr
      have hq2 : s.toList = [46, 46] := by rw [Lib.toList_data, h4646]
      clear hin ha hres hle h0 hsz hll h46 h4646
      go_enter Tryz.func61, Tryz.ntmps61
      go_wp2_with fail
      refine (Hin.out _).mono ?_
      rintro e w1 ⟨rfl, rfl⟩
      go_wp2
      go_ret
      exact ⟨rfl, rfl⟩
     ·have hr : res = true := by
       rw [← hres]
       unfold isDotsB
       rw [beq_eq_false_iff_ne.2 h46, beq_eq_false_iff_ne.2 h4646]
       rfl
      subst hr
      have hq2 := ne_form h4646
      clear hin ha hres hle h0 hsz hll h46 h4646
      go_enter Tryz.func61, Tryz.ntmps61
      go_wp2_with fail
      refine (Hin.out _).mono ?_
      rintro e w1 ⟨rfl, rfl⟩
      go_wp2
      go_ret
      exact ⟨rfl, rfl⟩
  ·have hl' : ¬ (s.size : Int) ≤ 32 := by omega
   have hr : res = false := by
    rw [← hres]
    unfold nameB
    rw [decide_eq_false (show ¬ s.data.toList.length ≤ 32 by rw [← hsz]; exact hl)]
    simp
   subst hr
   clear h0 hsz hres hle
   go_enter Tryz.func61, Tryz.ntmps61
   go_wp2
   go_ret
   exact ⟨rfl, rfl⟩
end Go.Proofs.YtkkibibecgcbmaaGreatDoor.Nm
namespace Go.Proofs.YtkkibibecgcbmaaGreatDoor.Nm
open Go.RowKit
theorem refKey_any (s : ByteArray) (w : World) (hs : s.size ≤ 4611686018427387904) :
  Calls Tryz.prog 62 #[.string s] w fun e w' => e = .returned (.bool (keyB s.data.toList)) ∧ w' = w := by
 have hsz := Lib.size_eq s
 obtain ⟨res, hres⟩ : ∃ res, keyB s.data.toList = res := ⟨_, rfl⟩
 rw [hres]
 cases hl : s.data.toList with
 | nil =>
  have hr : res = false := by rw [← hres, hl]; rfl
  subst hr
  have he := empty_form hl
  clear hl hsz hres
  go_enter Tryz.func62, Tryz.ntmps62
  go_wp2
  go_ret
  exact ⟨rfl, rfl⟩
 | cons c r =>
  have he := nonempty_form (s := s) (by rw [hl]; simp)
  have hpos : 0 < s.size := by rw [hsz, hl]; simp
  have hpos' : (0 : Int) < (s.size : Int) := by omega
  have hkey : keyB (c :: r) = (decide ((c :: r).length ≤ 32) && UpSet.contains c && allIn KeySet (c :: r)) := rfl
  rw [← hl, ← hsz] at hkey
  have h1 : (s.extract 0 1).data.toList = [c] := by rw [Lib.extract_data, hl]; simp
  have hin := fun W => in_any s ⟨#[65, 66, 67, 68, 69, 70, 71, 72, 73, 74, 75, 76, 77, 78, 79, 80, 81, 82, 83, 84, 85, 86, 87, 88, 89, 90, 48, 49, 50, 51, 52, 53, 54, 55, 56, 57, 95]⟩ W hs
  rw [show (⟨#[65, 66, 67, 68, 69, 70, 71, 72, 73, 74, 75, 76, 77, 78, 79, 80, 81, 82, 83, 84, 85, 86, 87, 88, 89, 90, 48, 49, 50, 51, 52, 53, 54, 55, 56, 57, 95]⟩ : ByteArray).data.toList = KeySet from rfl] at hin
  have hin1 := fun W => in_any (s.extract 0 1) ⟨#[65, 66, 67, 68, 69, 70, 71, 72, 73, 74, 75, 76, 77, 78, 79, 80, 81, 82, 83, 84, 85, 86, 87, 88, 89, 90]⟩ W (by simp; omega)
  rw [show (⟨#[65, 66, 67, 68, 69, 70, 71, 72, 73, 74, 75, 76, 77, 78, 79, 80, 81, 82, 83, 84, 85, 86, 87, 88, 89, 90]⟩ : ByteArray).data.toList = UpSet from rfl, h1, show allIn UpSet [c] = UpSet.contains c from by simp [allIn]] at hin1
  rw [hkey] at hres
  clear hkey h1
  by_cases h32 : (s.size : Int) ≤ 32
  ·rw [decide_eq_true (by omega), Bool.true_and] at hres
   cases ha : allIn KeySet s.data.toList with
   | false =>
    have hr : res = false := by rw [← hres, ha]; simp
    subst hr
    rw [ha] at hin
    have Hin := qH hin
    clear hin hin1 ha hres hsz hl
    go_enter Tryz.func62, Tryz.ntmps62
    go_wp2_with fail
    refine (Hin.out _).mono ?_
    rintro e w1 ⟨rfl, rfl⟩
    go_wp2
    go_ret
    exact ⟨rfl, rfl⟩
   | true =>
    rw [ha, Bool.and_true] at hres
    rw [hres] at hin1
    rw [ha] at hin
    have Hin := qH hin
    have Hin1 := qH hin1
    clear hin hin1 ha hres hsz hl
    go_enter Tryz.func62, Tryz.ntmps62
    go_wp2_with fail
    refine (Hin.out _).mono ?_
    rintro e w1 ⟨rfl, rfl⟩
    go_wp2_with fail
    refine (Hin1.out _).mono ?_
    rintro e w2 ⟨rfl, rfl⟩
    go_wp2
    go_ret
    exact ⟨rfl, rfl⟩
  ·have hr : res = false := by rw [← hres, decide_eq_false (by omega)]; rfl
   subst hr
   clear hin hin1 hres hsz hl
   go_enter Tryz.func62, Tryz.ntmps62
   go_wp2
   go_ret
   exact ⟨rfl, rfl⟩
theorem text_iff (b : UInt8) : TextSet.contains b = (decide (32 ≤ (b.toNat : Int)) && decide ((b.toNat : Int) ≤ 126)) := by
 have := forall_u8 (p := fun b => TextSet.contains b == (decide (32 ≤ (b.toNat : Int)) && decide ((b.toNat : Int) ≤ 126))) (by decide +kernel) b
 simpa using this
theorem printable_any (s : ByteArray) (w : World) (hs : s.size ≤ 4611686018427387904) :
  Calls Tryz.prog 168 #[.string s] w fun e w' => e = .returned (.bool (allIn TextSet s.data.toList)) ∧ w' = w := by
 obtain ⟨res, hres⟩ : ∃ res, allIn TextSet s.data.toList = res := ⟨_, rfl⟩
 rw [hres]
 have Hres := qH hres
 clear hres
 go_enter Tryz.func168, Tryz.ntmps168
 go_wp2
 go_loop [3] (fun s3 => ∃ i : Nat, i ≤ s.size ∧ s3 = .int .i64 i ∧ allIn TextSet (s.data.toList.take i) = true) (fun s3 => s.size - (intOf s3).toNat)
 case atStart => exact ⟨0, by omega, rfl, rfl⟩
 case round =>
  obtain ⟨i, hi, rfl, hall⟩ := hrel
  have Hall := qH hall
  clear hall
  by_cases hlt : i < s.size
  ·have hiz : (i : Int) < (s.size : Int) := by omega
   obtain ⟨x, hx⟩ : ∃ x : UInt8, s[i]'hlt = x := ⟨_, rfl⟩
   have hxl : s.data.toList[i]? = some x := by rw [← hx]; exact Lib.data_getElem? s i hlt
   have hd := text_iff x
   by_cases h1 : 32 ≤ (x.toNat : Int)
   ·by_cases h2 : (x.toNat : Int) ≤ 126
    ·rw [decide_eq_true h1, decide_eq_true h2] at hd
     have ht : allIn TextSet (s.data.toList.take (i + 1)) = true := by
      rw [List.take_add_one, hxl]
      simp only [Option.toList]
      rw [allIn_snoc, Hall.out, hd]
      rfl
     have Ht := qH ht
     clear ht hxl hd
     go_wp2
     go_round
     case rel => exact ⟨i + 1, by omega, by go_num, Ht.out⟩
     case measure => simp [intOf]; omega
    ·rw [decide_eq_true h1, decide_eq_false h2] at hd
     have hf := allIn_false TextSet s.data.toList i x hxl hd
     have hr : res = false := by rw [← Hres.out, hf]
     subst hr
     clear hd hf hxl
     go_wp2
     go_ret
     exact ⟨rfl, rfl⟩
   ·rw [decide_eq_false h1, Bool.false_and] at hd
    have hf := allIn_false TextSet s.data.toList i x hxl hd
    have hr : res = false := by rw [← Hres.out, hf]
    subst hr
    clear hd hf hxl
    go_wp2
    go_ret
    exact ⟨rfl, rfl⟩
  ·have h : s.data.toList.take i = s.data.toList := List.take_of_length_le (by rw [← Lib.size_eq]; omega)
   rw [h] at Hall
   have hr : res = true := by rw [← Hres.out, Hall.out]
   subst hr
   go_wp2
   go_ret
   exact ⟨rfl, rfl⟩
theorem refText_any (s : ByteArray) (w : World) (hs : s.size ≤ 4611686018427387904) :
  Calls Tryz.prog 136 #[.string s] w fun e w' => e = .returned (.bool (textB s.data.toList)) ∧ w' = w := by
 have hsz := Lib.size_eq s
 have hp := fun W => printable_any s W hs
 obtain ⟨res, hres⟩ : ∃ res, textB s.data.toList = res := ⟨_, rfl⟩
 rw [hres]
 unfold textB at hres
 rw [← hsz] at hres
 cases ha : allIn TextSet s.data.toList with
 | false =>
  have hr : res = false := by rw [← hres, ha]; simp
  subst hr
  rw [ha] at hp
  have Hp := qH hp
  clear hp ha hres hsz
  go_enter Tryz.func136, Tryz.ntmps136
  go_wp2_with fail
  refine (Hp.out _).mono ?_
  rintro e w1 ⟨rfl, rfl⟩
  go_wp2
  go_ret
  exact ⟨rfl, rfl⟩
 | true =>
  rw [ha, Bool.and_true] at hres
  rw [ha] at hp
  have Hp := qH hp
  clear hp ha hsz
  by_cases hl : (s.size : Int) ≤ 256
  ·have hr : res = true := by rw [← hres]; exact decide_eq_true (by omega)
   subst hr
   clear hres
   go_enter Tryz.func136, Tryz.ntmps136
   go_wp2_with fail
   refine (Hp.out _).mono ?_
   rintro e w1 ⟨rfl, rfl⟩
   go_wp2
   go_ret
   exact ⟨rfl, rfl⟩
  ·have hr : res = false := by rw [← hres]; exact decide_eq_false (by omega)
   subst hr
   have hdl : decide ((s.size : Int) ≤ 256) = false := decide_eq_false hl
   clear hres
   go_enter Tryz.func136, Tryz.ntmps136
   go_wp2_with fail
   refine (Hp.out _).mono ?_
   rintro e w1 ⟨rfl, rfl⟩
   go_wp2
   go_ret
   exact ⟨rfl, rfl⟩
end Go.Proofs.YtkkibibecgcbmaaGreatDoor.Nm
