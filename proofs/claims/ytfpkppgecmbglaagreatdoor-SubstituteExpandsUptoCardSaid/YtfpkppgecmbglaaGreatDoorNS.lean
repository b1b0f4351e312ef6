/- The reference's small functions, the second part, and interface names. -/
import Derived.Test.YtfpkppgecmbglaaGreatDoorNR
namespace Go.Proofs.YtfpkppgecmbglaaGreatDoor.Nm
open Go.RowKit

set_option maxHeartbeats 400000 in
set_option maxRecDepth 100000 in
theorem refKey_any (s : ByteArray) (w : World) (hs : s.size ≤ 4611686018427387904) :
    Calls Tryz.prog 43 #[.string s] w fun e w' => e = .returned (.bool (keyB s.data.toList)) ∧ w' = w := by
  have hsz := Lib.size_eq s
  obtain ⟨res, hres⟩ : ∃ res, keyB s.data.toList = res := ⟨_, rfl⟩
  rw [hres]
  cases hl : s.data.toList with
  | nil =>
    have hr : res = false := by rw [← hres, hl]; rfl
    subst hr
    have he := empty_form hl
    clear hl hsz hres
    go_enter Tryz.func43, Tryz.ntmps43
    go_wp2
    go_ret
    exact ⟨rfl, rfl⟩
  | cons c r =>
    have he := nonempty_form (s := s) (by rw [hl]; simp)
    have hpos : 0 < s.size := by rw [hsz, hl]; simp
    have hpos' : (0 : Int) < (s.size : Int) := by omega
    have hkey : keyB (c :: r) = (decide ((c :: r).length ≤ 32) && UpSet.contains c && allIn KeySet (c :: r)) := rfl
    rw [← hl, ← hsz] at hkey
    have h1 : (s.extract 0 1).data.toList = [c] := by rw [Lib.extract_data, hl]; simp
    have hin := fun W => in_any s ⟨#[65, 66, 67, 68, 69, 70, 71, 72, 73, 74, 75, 76, 77, 78, 79, 80, 81, 82, 83, 84, 85, 86, 87, 88, 89, 90, 48, 49, 50, 51, 52, 53, 54, 55, 56, 57, 95]⟩ W hs
    rw [show (⟨#[65, 66, 67, 68, 69, 70, 71, 72, 73, 74, 75, 76, 77, 78, 79, 80, 81, 82, 83, 84, 85, 86, 87, 88, 89, 90, 48, 49, 50, 51, 52, 53, 54, 55, 56, 57, 95]⟩ : ByteArray).data.toList = KeySet from rfl] at hin
    have hin1 := fun W => in_any (s.extract 0 1) ⟨#[65, 66, 67, 68, 69, 70, 71, 72, 73, 74, 75, 76, 77, 78, 79, 80, 81, 82, 83, 84, 85, 86, 87, 88, 89, 90]⟩ W (by simp; omega)
    rw [show (⟨#[65, 66, 67, 68, 69, 70, 71, 72, 73, 74, 75, 76, 77, 78, 79, 80, 81, 82, 83, 84, 85, 86, 87, 88, 89, 90]⟩ : ByteArray).data.toList = UpSet from rfl, h1, show allIn UpSet [c] = UpSet.contains c from by simp [allIn]] at hin1
    rw [hkey] at hres
    clear hkey h1
    by_cases h32 : (s.size : Int) ≤ 32
    · rw [decide_eq_true (by omega), Bool.true_and] at hres
      cases ha : allIn KeySet s.data.toList with
      | false =>
        have hr : res = false := by rw [← hres, ha]; simp
        subst hr
        rw [ha] at hin
        have Hin := Lib.hid hin
        clear hin hin1 ha hres hsz hl
        go_enter Tryz.func43, Tryz.ntmps43
        go_wp2_with fail
        refine (Hin.out _).mono ?_
        rintro e w1 ⟨rfl, rfl⟩
        go_wp2
        go_ret
        exact ⟨rfl, rfl⟩
      | true =>
        rw [ha, Bool.and_true] at hres
        rw [hres] at hin1
        rw [ha] at hin
        have Hin := Lib.hid hin
        have Hin1 := Lib.hid hin1
        clear hin hin1 ha hres hsz hl
        go_enter Tryz.func43, Tryz.ntmps43
        go_wp2_with fail
        refine (Hin.out _).mono ?_
        rintro e w1 ⟨rfl, rfl⟩
        go_wp2_with fail
        refine (Hin1.out _).mono ?_
        rintro e w2 ⟨rfl, rfl⟩
        go_wp2
        go_ret
        exact ⟨rfl, rfl⟩
    · have hr : res = false := by rw [← hres, decide_eq_false (by omega)]; rfl
      subst hr
      clear hin hin1 hres hsz hl
      go_enter Tryz.func43, Tryz.ntmps43
      go_wp2
      go_ret
      exact ⟨rfl, rfl⟩

theorem text_iff (b : UInt8) : TextSet.contains b = (decide (32 ≤ (b.toNat : Int)) && decide ((b.toNat : Int) ≤ 126)) := by
  have := forall_u8 (p := fun b => TextSet.contains b == (decide (32 ≤ (b.toNat : Int)) && decide ((b.toNat : Int) ≤ 126))) (by decide +kernel) b
  simpa using this

set_option maxHeartbeats 400000 in
set_option maxRecDepth 100000 in
theorem printable_any (s : ByteArray) (w : World) (hs : s.size ≤ 4611686018427387904) :
    Calls Tryz.prog 41 #[.string s] w fun e w' => e = .returned (.bool (allIn TextSet s.data.toList)) ∧ w' = w := by
  obtain ⟨res, hres⟩ : ∃ res, allIn TextSet s.data.toList = res := ⟨_, rfl⟩
  rw [hres]
  have Hres := Lib.hid hres
  clear hres
  go_enter Tryz.func41, Tryz.ntmps41
  go_wp2
  go_loop [3] (fun s3 => ∃ i : Nat, i ≤ s.size ∧ s3 = .int .i64 i ∧ allIn TextSet (s.data.toList.take i) = true) (fun s3 => s.size - (intOf s3).toNat)
  case atStart => exact ⟨0, by omega, rfl, rfl⟩
  case round =>
    obtain ⟨i, hi, rfl, hall⟩ := hrel
    have Hall := Lib.hid hall
    clear hall
    by_cases hlt : i < s.size
    · have hiz : (i : Int) < (s.size : Int) := by omega
      obtain ⟨x, hx⟩ : ∃ x : UInt8, s[i]'hlt = x := ⟨_, rfl⟩
      have hxl : s.data.toList[i]? = some x := by rw [← hx]; exact Lib.data_getElem? s i hlt
      have hd := text_iff x
      by_cases h1 : 32 ≤ (x.toNat : Int)
      · by_cases h2 : (x.toNat : Int) ≤ 126
        · rw [decide_eq_true h1, decide_eq_true h2] at hd
          have ht : allIn TextSet (s.data.toList.take (i + 1)) = true := by
            rw [List.take_add_one, hxl]
            simp only [Option.toList]
            rw [allIn_snoc, Hall.out, hd]
            rfl
          have Ht := Lib.hid ht
          clear ht hxl hd
          go_wp2
          go_round
          case rel => exact ⟨i + 1, by omega, by go_num, Ht.out⟩
          case measure => simp [intOf]; omega
        · rw [decide_eq_true h1, decide_eq_false h2] at hd
          have hf := allIn_false TextSet s.data.toList i x hxl hd
          have hr : res = false := by rw [← Hres.out, hf]
          subst hr
          clear hd hf hxl
          go_wp2
          go_ret
          exact ⟨rfl, rfl⟩
      · rw [decide_eq_false h1, Bool.false_and] at hd
        have hf := allIn_false TextSet s.data.toList i x hxl hd
        have hr : res = false := by rw [← Hres.out, hf]
        subst hr
        clear hd hf hxl
        go_wp2
        go_ret
        exact ⟨rfl, rfl⟩
    · have h : s.data.toList.take i = s.data.toList := List.take_of_length_le (by rw [← Lib.size_eq]; omega)
      rw [h] at Hall
      have hr : res = true := by rw [← Hres.out, Hall.out]
      subst hr
      go_wp2
      go_ret
      exact ⟨rfl, rfl⟩

set_option maxHeartbeats 400000 in
theorem refText_any (s : ByteArray) (w : World) (hs : s.size ≤ 4611686018427387904) :
    Calls Tryz.prog 32 #[.string s] w fun e w' => e = .returned (.bool (textB s.data.toList)) ∧ w' = w := by
  have hsz := Lib.size_eq s
  have hp := fun W => printable_any s W hs
  obtain ⟨res, hres⟩ : ∃ res, textB s.data.toList = res := ⟨_, rfl⟩
  rw [hres]
  unfold textB at hres
  rw [← hsz] at hres
  cases ha : allIn TextSet s.data.toList with
  | false =>
    have hr : res = false := by rw [← hres, ha]; simp
    subst hr
    rw [ha] at hp
    have Hp := Lib.hid hp
    clear hp ha hres hsz
    go_enter Tryz.func32, Tryz.ntmps32
    go_wp2_with fail
    refine (Hp.out _).mono ?_
    rintro e w1 ⟨rfl, rfl⟩
    go_wp2
    go_ret
    exact ⟨rfl, rfl⟩
  | true =>
    rw [ha, Bool.and_true] at hres
    rw [ha] at hp
    have Hp := Lib.hid hp
    clear hp ha hsz
    by_cases hl : (s.size : Int) ≤ 256
    · have hr : res = true := by rw [← hres]; exact decide_eq_true (by omega)
      subst hr
      clear hres
      go_enter Tryz.func32, Tryz.ntmps32
      go_wp2_with fail
      refine (Hp.out _).mono ?_
      rintro e w1 ⟨rfl, rfl⟩
      go_wp2
      go_ret
      exact ⟨rfl, rfl⟩
    · have hr : res = false := by rw [← hres]; exact decide_eq_false (by omega)
      subst hr
      have hdl : decide ((s.size : Int) ≤ 256) = false := decide_eq_false hl
      clear hres
      go_enter Tryz.func32, Tryz.ntmps32
      go_wp2_with fail
      refine (Hp.out _).mono ?_
      rintro e w1 ⟨rfl, rfl⟩
      go_wp2
      go_ret
      exact ⟨rfl, rfl⟩
end Go.Proofs.YtfpkppgecmbglaaGreatDoor.Nm
