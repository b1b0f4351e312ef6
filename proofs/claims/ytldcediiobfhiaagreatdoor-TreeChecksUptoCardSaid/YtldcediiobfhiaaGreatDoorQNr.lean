/- The reference's small functions: which texts are names, keys, texts. The reference's small functions, the second part, and interface names. strings.Split at a slash, and the reference's link names. -/
import Derived.Test.YtldcediiobfhiaaGreatDoorQNa
import Derived.Test.YtldcediiobfhiaaGreatDoorQSh
import Derived.Lib.IndexAny
import Derived.Test.YtldcediiobfhiaaGreatDoorQNE
import Derived.Lib.SplitLaws
namespace Go.Proofs.YtldcediiobfhiaaGreatDoor.Nm
open Go.RowKit
theorem index_neg {S : List UInt8} {x : UInt8} (h : S.contains x = false) : Lib.indexByte S x = -1 := by
 have h1 := Lib.contains_iff_indexByte S x
 rw [h] at h1
 have h2 : ¬ 0 ≤ Lib.indexByte S x := of_decide_eq_false h1.symm
 have h3 := Lib.indexByte_ge S x
 omega
theorem index_pos {S : List UInt8} {x : UInt8} (h : S.contains x = true) : 0 ≤ Lib.indexByte S x := by
 have h1 := Lib.contains_iff_indexByte S x
 rw [h] at h1
 exact of_decide_eq_true h1.symm
theorem u8_back (x : UInt8) : ((x.toNat : Int)).toNat.toUInt8 = x := by simp
set_option maxHeartbeats 400000 in
set_option maxRecDepth 100000 in
theorem in_any (s S : ByteArray) (w : World) (hs : s.size ≤ 4611686018427387904) :
  Calls Tryz.prog 128 #[.string s, .string S] w fun e w' => e = .returned (.bool (allIn S.data.toList s.data.toList)) ∧ w' = w := by
 obtain ⟨res, hres⟩ : ∃ res, allIn S.data.toList s.data.toList = res := ⟨_, rfl⟩
 rw [hres]
 have Hres := Lib.hid hres
 clear hres
 go_enter Tryz.func128, Tryz.ntmps128
 go_wp2
 go_loop [5] (fun s5 => ∃ i : Nat, i ≤ s.size ∧ s5 = .int .i64 i ∧ allIn S.data.toList (s.data.toList.take i) = true) (fun s5 => s.size - (intOf s5).toNat)
 case atStart => exact ⟨0, by omega, rfl, rfl⟩
 case round =>
  obtain ⟨i, hi, rfl, hall⟩ := hrel
  have Hall := Lib.hid hall
  clear hall
  by_cases hlt : i < s.size
  ·have hiz : (i : Int) < (s.size : Int) := by omega
   obtain ⟨x, hx⟩ : ∃ x : UInt8, s[i]'hlt = x := ⟨_, rfl⟩
   have hxl : s.data.toList[i]? = some x := by rw [← hx]; exact Lib.data_getElem? s i hlt
   have hib := fun W => Tryz.strings_IndexByte S (x.toNat : Int) W
   rw [u8_back] at hib
   cases hc : S.data.toList.contains x with
   | false =>
    have hf := allIn_false S.data.toList s.data.toList i x hxl hc
    rw [index_neg hc] at hib
    have hr : res = false := by rw [← Hres.out, hf]
    subst hr
    have Hib := Lib.hid hib
    clear hib hc hf hxl
    go_wp2_with (go_at_call 157; refine (Hib.out _).mono ?_; rintro e w' ⟨rfl, rfl⟩)
    go_ret
    exact ⟨rfl, rfl⟩
   | true =>
    have ht : allIn S.data.toList (s.data.toList.take (i + 1)) = true := by
     rw [List.take_add_one, hxl]
     simp only [Option.toList]
     rw [allIn_snoc, Hall.out, hc]
     rfl
    have hpos := index_pos hc
    generalize Lib.indexByte S.data.toList x = k at *
    have Hib := Lib.hid hib
    have Ht := Lib.hid ht
    clear hib hc ht hxl
    go_wp2_with (go_at_call 157; refine (Hib.out _).mono ?_; rintro e w' ⟨rfl, rfl⟩)
    go_round
    case rel => exact ⟨i + 1, by omega, by go_num, Ht.out⟩
    case measure => simp [intOf]; omega
  ·have h : s.data.toList.take i = s.data.toList := List.take_of_length_le (by rw [← Lib.size_eq]; omega)
   rw [h] at Hall
   have hr : res = true := by rw [← Hres.out, Hall.out]
   subst hr
   go_wp2
   go_ret
   exact ⟨rfl, rfl⟩
/-- "s != c" for a short constant, in the walk's forms. -/
theorem ne_form {s : ByteArray} {l : List UInt8} (h : s.data.toList ≠ l) : (s.toList == l) = false := by rw [Lib.toList_data]; exact beq_eq_false_iff_ne.2 h
set_option maxHeartbeats 400000 in
set_option maxRecDepth 100000 in
theorem refValid_any (s : ByteArray) (w : World) (hs : s.size ≤ 4611686018427387904) :
  Calls Tryz.prog 92 #[.string s] w fun e w' => e = .returned (.bool (nameB NameSet s.data.toList)) ∧ w' = w := by
 have hsz := Lib.size_eq s
 obtain ⟨res, hres⟩ : ∃ res, nameB NameSet s.data.toList = res := ⟨_, rfl⟩
 rw [hres]
 by_cases h0 : s.data.toList = []
 ·have hr : res = false := by rw [← hres]; simp [nameB, h0]
  subst hr
  have he := empty_form h0
  clear h0 hsz hres
  go_enter Tryz.func92, Tryz.ntmps92
  go_wp2
  go_ret
  exact ⟨rfl, rfl⟩
 ·have he := nonempty_form h0
  have hle : s.data.toList.isEmpty = false := by rw [← Lib.toList_data]; exact he
  by_cases hl : s.size ≤ 32
  ·have hl' : (s.size : Int) ≤ 32 := by omega
   have hll : s.data.toList.length ≤ 32 := by rw [← hsz]; exact hl
   have hin := fun W => in_any s ⟨#[65, 66, 67, 68, 69, 70, 71, 72, 73, 74, 75, 76, 77, 78, 79, 80, 81, 82, 83, 84, 85, 86, 87, 88, 89, 90, 97, 98, 99, 100, 101, 102, 103, 104, 105, 106, 107, 108, 109, 110, 111, 112, 113, 114, 115, 116, 117, 118, 119, 120, 121, 122, 48, 49, 50, 51, 52, 53, 54, 55, 56, 57, 95, 46, 58, 43, 45, 33]⟩ W hs
   rw [show (⟨#[65, 66, 67, 68, 69, 70, 71, 72, 73, 74, 75, 76, 77, 78, 79, 80, 81, 82, 83, 84, 85, 86, 87, 88, 89, 90, 97, 98, 99, 100, 101, 102, 103, 104, 105, 106, 107, 108, 109, 110, 111, 112, 113, 114, 115, 116, 117, 118, 119, 120, 121, 122, 48, 49, 50, 51, 52, 53, 54, 55, 56, 57, 95, 46, 58, 43, 45, 33]⟩ : ByteArray).data.toList = NameSet from rfl] at hin
   unfold nameB at hres
   rw [hle, decide_eq_true hll] at hres
   cases ha : allIn NameSet s.data.toList with
   | false =>
    have hr : res = false := by rw [← hres, ha]; simp
    subst hr
    rw [ha] at hin
    have Hin := Lib.hid hin
    clear hin ha hres hle h0 hsz hll
    go_enter Tryz.func92, Tryz.ntmps92
    go_wp2_with fail
    refine (Hin.out _).mono ?_
    rintro e w1 ⟨rfl, rfl⟩
    go_wp2
    go_ret
    exact ⟨rfl, rfl⟩
   | true =>
    rw [ha] at hin hres
    have Hin := Lib.hid hin
    by_cases h46 : s.data.toList = [46]
    ·have hr : res = false := by rw [← hres, h46]; rfl
     subst hr
     have hq : s.toList = [46] := by rw [Lib.toList_data, h46]
     clear hin ha hres hle h0 hsz hll h46
     go_enter Tryz.func92, Tryz.ntmps92
     go_wp2_with fail
     refine (Hin.out _).mono ?_
     rintro e w1 ⟨rfl, rfl⟩
     go_wp2
     go_ret
     exact ⟨rfl, rfl⟩
    ·have hq := ne_form h46
     by_cases h4646 : s.data.toList = [46, 46]
     ·have hr : res = false := by rw [← hres, h4646]; rfl
      subst hr
      have hq2 : s.toList = [46, 46] := by rw [Lib.toList_data, h4646]
      clear hin ha hres hle h0 hsz hll h46 h4646
      go_enter Tryz.func92, Tryz.ntmps92
      go_wp2_with fail
      refine (Hin.out _).mono ?_
      rintro e w1 ⟨rfl, rfl⟩
      go_wp2
      go_ret
      exact ⟨rfl, rfl⟩
     ·have hr : res = true := by
       rw [← hres]
       unfold isDotsB
       rw [beq_eq_false_iff_ne.2 h46, beq_eq_false_iff_ne.2 h4646]
       rfl
      subst hr
      have hq2 := ne_form h4646
      clear hin ha hres hle h0 hsz hll h46 h4646
      go_enter Tryz.func92, Tryz.ntmps92
      go_wp2_with fail
      refine (Hin.out _).mono ?_
      rintro e w1 ⟨rfl, rfl⟩
      go_wp2
      go_ret
      exact ⟨rfl, rfl⟩
  ·have hl' : ¬ (s.size : Int) ≤ 32 := by omega
   have hr : res = false := by
    rw [← hres]
    unfold nameB
    rw [decide_eq_false (show ¬ s.data.toList.length ≤ 32 by rw [← hsz]; exact hl)]
    simp
   subst hr
   clear h0 hsz hres hle
   go_enter Tryz.func92, Tryz.ntmps92
   go_wp2
   go_ret
   exact ⟨rfl, rfl⟩
end Go.Proofs.YtldcediiobfhiaaGreatDoor.Nm
namespace Go.Proofs.YtldcediiobfhiaaGreatDoor.Nm
open Go.RowKit
theorem text_iff (b : UInt8) : TextSet.contains b = (decide (32 ≤ (b.toNat : Int)) && decide ((b.toNat : Int) ≤ 126)) := by
 have := forall_u8 (p := fun b => TextSet.contains b == (decide (32 ≤ (b.toNat : Int)) && decide ((b.toNat : Int) ≤ 126))) (by decide +kernel) b
 simpa using this
set_option maxHeartbeats 400000 in
set_option maxRecDepth 100000 in
theorem printable_any (s : ByteArray) (w : World) (hs : s.size ≤ 4611686018427387904) :
  Calls Tryz.prog 129 #[.string s] w fun e w' => e = .returned (.bool (allIn TextSet s.data.toList)) ∧ w' = w := by
 obtain ⟨res, hres⟩ : ∃ res, allIn TextSet s.data.toList = res := ⟨_, rfl⟩
 rw [hres]
 have Hres := Lib.hid hres
 clear hres
 go_enter Tryz.func129, Tryz.ntmps129
 go_wp2
 go_loop [3] (fun s3 => ∃ i : Nat, i ≤ s.size ∧ s3 = .int .i64 i ∧ allIn TextSet (s.data.toList.take i) = true) (fun s3 => s.size - (intOf s3).toNat)
 case atStart => exact ⟨0, by omega, rfl, rfl⟩
 case round =>
  obtain ⟨i, hi, rfl, hall⟩ := hrel
  have Hall := Lib.hid hall
  clear hall
  by_cases hlt : i < s.size
  ·have hiz : (i : Int) < (s.size : Int) := by omega
   obtain ⟨x, hx⟩ : ∃ x : UInt8, s[i]'hlt = x := ⟨_, rfl⟩
   have hxl : s.data.toList[i]? = some x := by rw [← hx]; exact Lib.data_getElem? s i hlt
   have hd := text_iff x
   by_cases h1 : 32 ≤ (x.toNat : Int)
   ·by_cases h2 : (x.toNat : Int) ≤ 126
    ·rw [decide_eq_true h1, decide_eq_true h2] at hd
     have ht : allIn TextSet (s.data.toList.take (i + 1)) = true := by
      rw [List.take_add_one, hxl]
      simp only [Option.toList]
      rw [allIn_snoc, Hall.out, hd]
      rfl
     have Ht := Lib.hid ht
     clear ht hxl hd
     go_wp2
     go_round
     case rel => exact ⟨i + 1, by omega, by go_num, Ht.out⟩
     case measure => simp [intOf]; omega
    ·rw [decide_eq_true h1, decide_eq_false h2] at hd
     have hf := allIn_false TextSet s.data.toList i x hxl hd
     have hr : res = false := by rw [← Hres.out, hf]
     subst hr
     clear hd hf hxl
     go_wp2
     go_ret
     exact ⟨rfl, rfl⟩
   ·rw [decide_eq_false h1, Bool.false_and] at hd
    have hf := allIn_false TextSet s.data.toList i x hxl hd
    have hr : res = false := by rw [← Hres.out, hf]
    subst hr
    clear hd hf hxl
    go_wp2
    go_ret
    exact ⟨rfl, rfl⟩
  ·have h : s.data.toList.take i = s.data.toList := List.take_of_length_le (by rw [← Lib.size_eq]; omega)
   rw [h] at Hall
   have hr : res = true := by rw [← Hres.out, Hall.out]
   subst hr
   go_wp2
   go_ret
   exact ⟨rfl, rfl⟩
set_option maxHeartbeats 400000 in
theorem refText_any (s : ByteArray) (w : World) (hs : s.size ≤ 4611686018427387904) :
  Calls Tryz.prog 93 #[.string s] w fun e w' => e = .returned (.bool (textB s.data.toList)) ∧ w' = w := by
 have hsz := Lib.size_eq s
 have hp := fun W => printable_any s W hs
 obtain ⟨res, hres⟩ : ∃ res, textB s.data.toList = res := ⟨_, rfl⟩
 rw [hres]
 unfold textB at hres
 rw [← hsz] at hres
 cases ha : allIn TextSet s.data.toList with
 | false =>
  have hr : res = false := by rw [← hres, ha]; simp
  subst hr
  rw [ha] at hp
  have Hp := Lib.hid hp
  clear hp ha hres hsz
  go_enter Tryz.func93, Tryz.ntmps93
  go_wp2_with fail
  refine (Hp.out _).mono ?_
  rintro e w1 ⟨rfl, rfl⟩
  go_wp2
  go_ret
  exact ⟨rfl, rfl⟩
 | true =>
  rw [ha, Bool.and_true] at hres
  rw [ha] at hp
  have Hp := Lib.hid hp
  clear hp ha hsz
  by_cases hl : (s.size : Int) ≤ 256
  ·have hr : res = true := by rw [← hres]; exact decide_eq_true (by omega)
   subst hr
   clear hres
   go_enter Tryz.func93, Tryz.ntmps93
   go_wp2_with fail
   refine (Hp.out _).mono ?_
   rintro e w1 ⟨rfl, rfl⟩
   go_wp2
   go_ret
   exact ⟨rfl, rfl⟩
  ·have hr : res = false := by rw [← hres]; exact decide_eq_false (by omega)
   subst hr
   have hdl : decide ((s.size : Int) ≤ 256) = false := decide_eq_false hl
   clear hres
   go_enter Tryz.func93, Tryz.ntmps93
   go_wp2_with fail
   refine (Hp.out _).mono ?_
   rintro e w1 ⟨rfl, rfl⟩
   go_wp2
   go_ret
   exact ⟨rfl, rfl⟩
/-- Interface names: names of at most 15 bytes without ":" and "!". -/
def ifaceB (l : List UInt8) : Bool := nameB NameSet l && decide (l.length ≤ 15) && !l.contains 58 && !l.contains 33
theorem contains_one (s : ByteArray) (c : UInt8) : decide (0 ≤ Lib.indexByte s.data.toList c) = s.data.toList.contains c := (Lib.contains_iff_indexByte _ _).symm
set_option maxHeartbeats 400000 in
set_option maxRecDepth 100000 in
theorem refInterface_any (s : ByteArray) (w : World) (hs : s.size ≤ 4611686018427387904) :
  Calls Tryz.prog 94 #[.string s] w fun e w' => e = .returned (.bool (ifaceB s.data.toList)) ∧ w' = w := by
 have hsz := Lib.size_eq s
 have hv := fun W => refValid_any s W hs
 have h58 := fun W => Tryz.strings_Contains_one s 58 W
 have h33 := fun W => Tryz.strings_Contains_one s 33 W
 simp only [contains_one] at h58 h33
 obtain ⟨res, hres⟩ : ∃ res, ifaceB s.data.toList = res := ⟨_, rfl⟩
 rw [hres]
 unfold ifaceB at hres
 rw [← hsz] at hres
 clear hsz
 cases ha : nameB NameSet s.data.toList with
 | false =>
  have hr : res = false := by rw [← hres, ha]; rfl
  subst hr
  rw [ha] at hv
  have Hv := Lib.hid hv
  clear hv ha hres h58 h33
  go_enter Tryz.func94, Tryz.ntmps94
  go_wp2_with fail
  refine (Hv.out _).mono ?_
  rintro e w1 ⟨rfl, rfl⟩
  go_wp2
  go_ret
  exact ⟨rfl, rfl⟩
 | true =>
  rw [ha, Bool.true_and] at hres
  rw [ha] at hv
  have Hv := Lib.hid hv
  clear hv ha
  by_cases hl : (s.size : Int) ≤ 15
  ·rw [decide_eq_true (by omega), Bool.true_and] at hres
   cases h5 : s.data.toList.contains 58 with
   | true =>
    have hr : res = false := by rw [← hres, h5]; rfl
    subst hr
    rw [h5] at h58
    have H58 := Lib.hid h58
    clear h58 h33 hres h5
    go_enter Tryz.func94, Tryz.ntmps94
    go_wp2_with fail
    refine (Hv.out _).mono ?_
    rintro e w1 ⟨rfl, rfl⟩
    go_wp2_with fail
    refine (H58.out _).mono ?_
    rintro e w2 ⟨rfl, rfl⟩
    go_wp2
    go_ret
    exact ⟨rfl, rfl⟩
   | false =>
    rw [h5, Bool.not_false, Bool.true_and] at hres
    rw [h5] at h58
    have H58 := Lib.hid h58
    clear h58 h5
    cases h3 : s.data.toList.contains 33 with
    | true =>
     have hr : res = false := by rw [← hres, h3]; rfl
     subst hr
     rw [h3] at h33
     have H33 := Lib.hid h33
     clear h33 hres h3
     go_enter Tryz.func94, Tryz.ntmps94
     go_wp2_with fail
     refine (Hv.out _).mono ?_
     rintro e w1 ⟨rfl, rfl⟩
     go_wp2_with fail
     refine (H58.out _).mono ?_
     rintro e w2 ⟨rfl, rfl⟩
     go_wp2_with fail
     refine (H33.out _).mono ?_
     rintro e w3 ⟨rfl, rfl⟩
     go_wp2
     go_ret
     exact ⟨rfl, rfl⟩
    | false =>
     have hr : res = true := by rw [← hres, h3]; rfl
     subst hr
     rw [h3] at h33
     have H33 := Lib.hid h33
     clear h33 hres h3
     go_enter Tryz.func94, Tryz.ntmps94
     go_wp2_with fail
     refine (Hv.out _).mono ?_
     rintro e w1 ⟨rfl, rfl⟩
     go_wp2_with fail
     refine (H58.out _).mono ?_
     rintro e w2 ⟨rfl, rfl⟩
     go_wp2_with fail
     refine (H33.out _).mono ?_
     rintro e w3 ⟨rfl, rfl⟩
     go_wp2
     go_ret
     exact ⟨rfl, rfl⟩
  ·have hr : res = false := by rw [← hres, decide_eq_false (by omega)]; rfl
   subst hr
   clear hres h58 h33
   go_enter Tryz.func94, Tryz.ntmps94
   go_wp2_with fail
   refine (Hv.out _).mono ?_
   rintro e w1 ⟨rfl, rfl⟩
   go_wp2
   go_ret
   exact ⟨rfl, rfl⟩
theorem nameSet_ascii (b : UInt8) : (!NameSet.contains b || decide (b.toNat < 128)) = true :=
 forall_u8 (p := fun b => !NameSet.contains b || decide (b.toNat < 128)) (by decide +kernel) b
theorem name_ascii {l : List UInt8} (h : nameB NameSet l = true) : ∀ (j : Nat) b, l[j]? = some b → b.toNat < 128 := by
 intro j b hb
 unfold nameB at h
 rw [Bool.and_eq_true] at h
 have h1 := List.all_eq_true.1 h.2 b (List.mem_of_getElem? hb)
 have h2 := nameSet_ascii b
 rw [h1] at h2
 simpa using h2
theorem containsAny_two : ∀ l : List UInt8, Lib.containsAny l [58, 33] = (l.contains 58 || l.contains 33)
 | [] => rfl
 | b :: l => by
  have ih := containsAny_two l
  unfold Lib.containsAny at ih ⊢
  rw [Lib.indexAny]
  by_cases h1 : b = 58
  ·subst h1; simp
  ·by_cases h2 : b = 33
   ·subst h2; simp
   ·have hc : ([58, 33] : List UInt8).contains b = false := by simp [h1, h2]
    rw [if_neg (by rw [hc]; exact Bool.false_ne_true)]
    have e1 : (b :: l).contains 58 = l.contains 58 := by simp [Ne.symm h1]
    have e2 : (b :: l).contains 33 = l.contains 33 := by simp [Ne.symm h2]
    rw [e1, e2, ← ih]
    have hg := Lib.indexAny_ge [58, 33] l
    split
    ·rename_i h; have := eq_of_beq h; rw [this]
    ·rename_i h
     have h3 : Lib.indexAny l [58, 33] ≠ -1 := by simpa using h
     rw [decide_eq_true (by omega), decide_eq_true (by omega)]
set_option maxHeartbeats 400000 in
set_option maxRecDepth 100000 in
theorem interface_any (s : ByteArray) (w : World) (hs : s.size ≤ 4000000000) :
  Calls Tryz.prog 148 #[.string s] w (Bel (.bool (ifaceB s.data.toList)) w) := by
 have hsz := Lib.size_eq s
 have hv := fun W => valid_any s W (by omega)
 obtain ⟨res, hres⟩ : ∃ res, ifaceB s.data.toList = res := ⟨_, rfl⟩
 rw [hres]
 unfold ifaceB at hres
 rw [← hsz] at hres
 clear hsz
 by_cases hl : (s.size : Int) ≤ 15
 ·rw [decide_eq_true (by omega), Bool.and_true] at hres
  cases ha : nameB NameSet s.data.toList with
  | false =>
   have hr : res = false := by rw [← hres, ha]; rfl
   subst hr
   rw [ha] at hv
   have Hv := Lib.hid hv
   clear hv ha hres
   go_enter Tryz.func148, Tryz.ntmps148
   go_wp2_with fail
   refine (Hv.out _).mono ?_
   rintro e w1 ⟨rfl, hb⟩
   go_wp2
   go_ret
   exact ⟨rfl, hb⟩
  | true =>
   have hca := fun W => Tryz.strings_ContainsAny_laid s ⟨#[58, 33]⟩ W (by omega) (by decide) (name_ascii ha) (by
    intro j b hb
    match j, hb with
    | 0, hb => cases hb; decide
    | 1, hb => cases hb; decide
    | k + 2, hb => simp at hb)
   rw [show (⟨#[58, 33]⟩ : ByteArray).data.toList = [58, 33] from rfl, containsAny_two] at hca
   rw [ha, Bool.true_and] at hres
   rw [ha] at hv
   have hr : res = !(s.data.toList.contains 58 || s.data.toList.contains 33) := by rw [← hres, Bool.not_or]
   subst hr
   generalize (s.data.toList.contains 58 || s.data.toList.contains 33) = q at *
   have Hv := Lib.hid hv
   have Hca := Lib.hid hca
   clear hv ha hres hca
   go_enter Tryz.func148, Tryz.ntmps148
   go_wp2_with fail
   refine (Hv.out _).mono ?_
   rintro e w1 ⟨rfl, hb⟩
   go_wp2_with fail
   refine (Hca.out _).mono ?_
   rintro e w2 ⟨rfl, hb2⟩
   go_wp2
   go_ret
   exact ⟨rfl, hb.trans (hb2.mono hb.size)⟩
 ·have hr : res = false := by rw [← hres, decide_eq_false (show ¬ s.size ≤ 15 by omega)]; simp
  subst hr
  clear hv hres
  go_enter Tryz.func148, Tryz.ntmps148
  go_wp2
  go_ret
  exact ⟨rfl, Below.refl _ _⟩
end Go.Proofs.YtldcediiobfhiaaGreatDoor.Nm
namespace Go.Proofs.YtldcediiobfhiaaGreatDoor.Nm
open Go.RowKit
theorem indexB_one (s : ByteArray) (c : UInt8) : Lib.indexB s ⟨#[c]⟩ = Lib.indexByte s.data.toList c := Lib.index_one _ _
theorem splitB_pieces (c : UInt8) : ∀ (k : Nat) (s : ByteArray), Lib.countB s ⟨#[c]⟩ = k → Lib.splitB ⟨#[c]⟩ 0 k s = piecesB c s := by
 intro k
 induction k with
 | zero =>
  intro s hk
  by_cases hneg : Lib.indexByte s.data.toList c < 0
  ·rw [Lib.splitB_zero, piecesB_none c s hneg]
  ·obtain ⟨o, ho⟩ : ∃ o : Nat, Lib.indexByte s.data.toList c = (o : Int) := ⟨(Lib.indexByte s.data.toList c).toNat, by omega⟩
   have := Lib.countB_hit s ⟨#[c]⟩ o (by simp [ByteArray.size]) (by rw [indexB_one, ho])
   omega
 | succ k ih =>
  intro s hk
  by_cases hneg : Lib.indexByte s.data.toList c < 0
  ·have h1 : Lib.indexByte s.data.toList c = -1 := by have := Lib.indexByte_ge s.data.toList c; omega
   have := Lib.countB_miss s ⟨#[c]⟩ (by rw [indexB_one, h1])
   omega
  ·obtain ⟨o, ho⟩ : ∃ o : Nat, Lib.indexByte s.data.toList c = (o : Int) := ⟨(Lib.indexByte s.data.toList c).toNat, by omega⟩
   have hc := Lib.countB_hit s ⟨#[c]⟩ o (by simp [ByteArray.size]) (by rw [indexB_one, ho])
   rw [show (⟨#[c]⟩ : ByteArray).size = 1 from rfl] at hc
   rw [Lib.splitB_hit _ _ _ _ o (by rw [indexB_one, ho]), piecesB_some c s o ho, show (⟨#[c]⟩ : ByteArray).size = 1 from rfl, ih _ (by omega), Nat.add_zero]
/-- The cells from the beginning of block b hold these texts. -/
def Strs (W : World) (b : Nat) (xs : List ByteArray) : Prop := ∀ (j : Nat) x, xs[j]? = some x → W.cell? ⟨b, j, none⟩ = some (.string x)
def splitAt (w : World) (xs : List ByteArray) : World := w.alloc (.cells (xs.map Value.string).toArray 9)
theorem splitAt_strs (w : World) (xs : List ByteArray) : Strs (splitAt w xs) w.heap.size xs := by
 intro j x hx
 unfold splitAt
 rw [World.cell?_alloc_at _ _ _ _ rfl]
 simp [hx]
theorem Strs.below {W W' : World} {b B : Nat} {xs : List ByteArray} (h : Strs W b xs) (hb : Below B W W') (hB : b < B) : Strs W' b xs := fun j x hx => (hb.cell (p := ⟨b, j, none⟩) hB).trans (h j x hx)
set_option maxHeartbeats 400000 in
theorem split_slash (s : ByteArray) (m : Int) (w : World) (hs : s.size < 4294967281) (hm : w.cell? ⟨0, 0, none⟩ = some (.int .i64 m)) :
  Calls Tryz.prog 131 #[.string s, .string ⟨#[47]⟩] w fun e w' => e = .returned (.slice (some ⟨w.heap.size, 0, none⟩) (piecesB 47 s).length (piecesB 47 s).length) ∧ w' = splitAt w (piecesB 47 s) := by
 have h := Tryz.strings_Split s ⟨#[47]⟩ m w hs hm (by decide)
 have h1 := Lib.splitB_all ⟨#[47]⟩ (by decide) 0 _ s rfl
 rw [splitB_pieces 47 _ s rfl] at h h1
 rw [← h1] at h
 exact h
set_option maxHeartbeats 1000000 in
set_option maxRecDepth 100000 in
theorem refLink_any (s : ByteArray) (m : Int) (w : World) (hs : s.size < 4294967281) (hm : w.cell? ⟨0, 0, none⟩ = some (.int .i64 m)) :
  Calls Tryz.prog 96 #[.string s] w (Bel (.bool (linkB s.data.toList)) w) := by
 have hsz := Lib.size_eq s
 have hsp := split_slash s m w hs hm
 have hst := splitAt_strs w (piecesB 47 s)
 have hall := piecesB_all 47 s linkPart
 have hbel : Below w.heap.size w (splitAt w (piecesB 47 s)) := (Below.refl _ w).alloc (Nat.le_refl _) _
 have hxl : ∀ x ∈ piecesB 47 s, x.size ≤ s.size := fun x hx => piecesB_size hx
 have hnn : (piecesB 47 s).length ≤ s.size + 1 := by
  have h1 := Lib.splitB_all ⟨#[47]⟩ (by decide) 0 _ s rfl
  rw [splitB_pieces 47 _ s rfl] at h1
  have := Lib.countB_le ⟨#[47]⟩ (by decide) s.size s (Nat.le_refl _)
  omega
 obtain ⟨res, hres⟩ : ∃ res, linkB s.data.toList = res := ⟨_, rfl⟩
 rw [hres]
 unfold linkB at hres
 rw [← hall, ← hsz] at hres
 generalize splitAt w (piecesB 47 s) = W at *
 generalize piecesB 47 s = xs at *
 have Hsp := Lib.hid hsp
 have Hst := Lib.hid hst
 have Hres := Lib.hid hres
 clear hsp hst hres hall hsz hm
 go_enter Tryz.func96, Tryz.ntmps96
 go_wp2_with fail
 refine Hsp.out.mono ?_
 rintro e w1 ⟨rfl, rfl⟩
 go_wp2
 go_loop [4] (fun s4 => ∃ i : Nat, i ≤ xs.length ∧ s4 = .int .i64 i ∧ ((xs.take i).all fun x => linkPart x.data.toList) = true) (fun s4 => xs.length - (intOf s4).toNat)
 case atStart => exact ⟨0, by omega, rfl, rfl⟩
 case round =>
  obtain ⟨i, hi, rfl, ha⟩ := hrel
  have Ha := Lib.hid ha
  clear ha
  by_cases hlt : i < xs.length
  ·have hiz : (i : Int) < (xs.length : Int) := by omega
   obtain ⟨x, hx⟩ : ∃ x, xs[i]? = some x := ⟨_, List.getElem?_eq_getElem hlt⟩
   have hcell := Hst.out i x hx
   have hxs := hxl x (List.mem_of_getElem? hx)
   have hbad : linkPart x.data.toList = false → res = false := fun h => by
    rw [← Hres.out]
    have : (xs.all fun x => linkPart x.data.toList) = false := by
     rw [List.all_eq_false]
     exact ⟨x, List.mem_of_getElem? hx, by rw [h]; exact Bool.false_ne_true⟩
    rw [this, Bool.and_false]
   have hgood : linkPart x.data.toList = true → ((xs.take (i + 1)).all fun x => linkPart x.data.toList) = true := fun h => by
    rw [List.take_add_one, hx]
    simp only [Option.toList]
    rw [List.all_append, Ha.out]
    simp [h]
   clear hx
   by_cases h0 : x.data.toList = []
   ·have hr : res = false := hbad (by simp [linkPart, h0])
    subst hr
    have he := empty_form h0
    clear h0 hbad hgood
    go_wp2
    go_ret
    exact ⟨rfl, hbel⟩
   ·have he := nonempty_form h0
    by_cases h46 : x.data.toList = [46]
    ·have hr : res = false := hbad (by rw [h46]; decide)
     subst hr
     have hq : x.toList = [46] := by rw [Lib.toList_data, h46]
     clear h0 h46 hbad hgood
     go_wp2
     go_ret
     exact ⟨rfl, hbel⟩
    ·have hq := ne_form h46
     by_cases h4646 : x.data.toList = [46, 46]
     ·have hr : res = false := hbad (by rw [h4646]; decide)
      subst hr
      have hq2 : x.toList = [46, 46] := by rw [Lib.toList_data, h4646]
      clear h0 h46 h4646 hbad hgood
      go_wp2
      go_ret
      exact ⟨rfl, hbel⟩
     ·have hq2 := ne_form h4646
      have hin := fun W => in_any x ⟨#[65, 66, 67, 68, 69, 70, 71, 72, 73, 74, 75, 76, 77, 78, 79, 80, 81, 82, 83, 84, 85, 86, 87, 88, 89, 90, 97, 98, 99, 100, 101, 102, 103, 104, 105, 106, 107, 108, 109, 110, 111, 112, 113, 114, 115, 116, 117, 118, 119, 120, 121, 122, 48, 49, 50, 51, 52, 53, 54, 55, 56, 57, 95, 46, 58, 43, 45, 64, 35, 61, 37]⟩ W (by omega)
      rw [show (⟨#[65, 66, 67, 68, 69, 70, 71, 72, 73, 74, 75, 76, 77, 78, 79, 80, 81, 82, 83, 84, 85, 86, 87, 88, 89, 90, 97, 98, 99, 100, 101, 102, 103, 104, 105, 106, 107, 108, 109, 110, 111, 112, 113, 114, 115, 116, 117, 118, 119, 120, 121, 122, 48, 49, 50, 51, 52, 53, 54, 55, 56, 57, 95, 46, 58, 43, 45, 64, 35, 61, 37]⟩ : ByteArray).data.toList = LinkSet from rfl] at hin
      have hlp : linkPart x.data.toList = allIn LinkSet x.data.toList := by
       have hle : x.data.toList.isEmpty = false := by rw [← Lib.toList_data]; exact he
       unfold linkPart isDotsB
       rw [hle, beq_eq_false_iff_ne.2 h46, beq_eq_false_iff_ne.2 h4646]
       rfl
      rw [hlp] at hbad hgood
      cases hal : allIn LinkSet x.data.toList with
      | false =>
       have hr : res = false := hbad hal
       subst hr
       rw [hal] at hin
       have Hin := Lib.hid hin
       clear hin hal h0 h46 h4646 hbad hgood hlp
       go_wp2_with fail
       refine (Hin.out _).mono ?_
       rintro e w2 ⟨rfl, rfl⟩
       go_wp2
       go_ret
       exact ⟨rfl, hbel⟩
      | true =>
       rw [hal] at hin
       have Hin := Lib.hid hin
       have Hg := Lib.hid (hgood hal)
       clear hin hal h0 h46 h4646 hbad hgood hlp
       go_wp2_with fail
       refine (Hin.out _).mono ?_
       rintro e w2 ⟨rfl, rfl⟩
       go_wp2
       go_round
       case rel => exact ⟨i + 1, by omega, by go_num, Hg.out⟩
       case measure => simp [intOf]; omega
  ·have h : xs.take i = xs := List.take_of_length_le (by omega)
   rw [h] at Ha
   have hr : res = decide ((s.size : Int) ≤ 256) := by
    rw [← Hres.out, Ha.out, Bool.and_true]
    exact decide_eq_decide.2 (by omega)
   have Hr := Lib.hid hr
   clear hr h
   go_wp2
   go_ret
   exact ⟨by rw [Hr.out]; rfl, hbel⟩
end Go.Proofs.YtldcediiobfhiaaGreatDoor.Nm
