/- The reference: IDs. -/
import Derived.Test.YtoohnjlghjapnaaDoorP
namespace Go.Proofs.YtoohnjlghjapnaaDoor
open Go.RowKit

def idSet : List UInt8 := [65, 66, 67, 68, 69, 70, 71, 72, 73, 74, 75, 76, 77, 78, 79, 80, 81, 82, 83, 84, 85, 86, 87, 88, 89, 90, 97, 98, 99, 100, 101, 102, 103, 104, 105, 106, 107, 108, 109, 110, 111, 112, 113, 114, 115, 116, 117, 118, 119, 120, 121, 122, 48, 49, 50, 51, 52, 53, 54, 55, 56, 57, 95, 46, 45]
theorem set_id : ∀ n, n < 256 → decide (Lib.indexByte idSet (UInt8.ofNat n) < 0) = !idCh (UInt8.ofNat n) := by decide +kernel
theorem set_idCh (b : UInt8) : decide (Lib.indexByte idSet b < 0) = !idCh b := by
  have := set_id b.toNat b.toNat_lt
  rwa [UInt8.ofNat_toNat] at this
theorem byte_back (b : UInt8) : ((b.toNat : Int)).toNat.toUInt8 = b := by simp

set_option maxHeartbeats 1000000 in
set_option maxRecDepth 100000 in
theorem refID_any (s : ByteArray) (w : World) (hs : s.size ≤ 9223372036854775807) : Calls Tryd.prog 39 #[.string s] w fun e w' => e = .returned (.bool (isID s.data.toList)) ∧ w = w' := by
  have hsz := Lib.size_eq s
  have hv : isID s.data.toList = (s.data.toList.all idCh && !s.data.toList.isEmpty && decide (s.data.toList.length ≤ 16)) := rfl
  rw [← hsz] at hv
  have HZ := Lib.hid hsz
  have HVV := Lib.hid hv
  have HI := Lib.hid (fun (b : UInt8) W => by have := Tryd.strings_IndexByte (bs idSet) (b.toNat : Int) W; rw [bs_data, byte_back] at this; exact this)
  clear hsz hv
  go_enter Tryd.func39, Tryd.ntmps39
  go_wp2
  go_loop [3] (fun n => ∃ k : Nat, k ≤ s.size ∧ n = .int .i64 k ∧ (s.data.toList.take k).all idCh = true) (fun n => s.size - (intOf n).toNat)
  case atStart => exact ⟨0, Nat.zero_le _, rfl, by simp⟩
  case round =>
    obtain ⟨k, hk, rfl, hall⟩ := hrel
    have HA := Lib.hid hall
    clear hall
    by_cases hlt : k < s.size
    · have hb : s.data.toList[k]? = some s[k] := by rw [List.getElem?_eq_getElem (by rw [← HZ.out]; exact hlt)]; rfl
      have HB := Lib.hid hb
      have hq := set_idCh s[k]
      have hc := HI.out s[k]
      have HC := Lib.hid hc
      clear hb hc
      generalize Lib.indexByte idSet s[k] = x at *
      have hwr : IntKind.i64.wrap ((k : Int) + 1) = ((k + 1 : Nat) : Int) := by rw [IntKind.wrap_i64]; omega
      by_cases hx : x < 0
      · have HQ := Lib.hid (show idCh s[k] = false by rw [decide_eq_true hx] at hq; simpa using hq.symm)
        clear hq
        go_wp2_with (go_at_call 53; refine (HC.out _).mono ?_; rintro e w' ⟨rfl, rfl⟩)
        go_ret
        have hf : s.data.toList.all idCh = false := by
          cases e : s.data.toList.all idCh with
          | false => rfl
          | true => have := List.all_eq_true.1 e s[k] (List.mem_of_getElem? HB.out); rw [HQ.out] at this; cases this
        exact ⟨ret_b (by rw [HVV.out, hf]; rfl), rfl⟩
      · have HQ := Lib.hid (show idCh s[k] = true by rw [decide_eq_false hx] at hq; simpa using hq.symm)
        clear hq
        go_wp2_with (go_at_call 53; refine (HC.out _).mono ?_; rintro e w' ⟨rfl, rfl⟩)
        go_round
        case rel => exact ⟨k + 1, by omega, by go_num, take_all_succ HA.out HB.out HQ.out⟩
        case measure => simp [intOf]; omega
    · have hke : k = s.size := by omega
      have hall : s.data.toList.all idCh = true := by
        have := HA.out
        rw [List.take_of_length_le (by rw [← HZ.out]; omega)] at this
        exact this
      have HAL := Lib.hid hall
      clear hall
      by_cases h0 : s.data.toList = []
      · have he : s.toList.isEmpty = true := by rw [Lib.toList_data, h0]; rfl
        have H0 := Lib.hid h0
        clear h0
        subst hke
        go_wp2
        go_ret
        exact ⟨ret_b (by rw [HVV.out, H0.out]; rfl), rfl⟩
      · have he : s.toList.isEmpty = false := by
          rw [Lib.toList_data]
          cases hl : s.data.toList with
          | nil => exact absurd hl h0
          | cons _ _ => rfl
        have hne : s.data.toList.isEmpty = false := by rw [← Lib.toList_data]; exact he
        have HNE := Lib.hid hne
        clear h0 hne
        subst hke
        by_cases h16 : s.size ≤ 16
        · have hl : (s.size : Int) ≤ 16 := by omega
          go_wp2
          go_ret
          exact ⟨ret_b (by rw [HVV.out, HAL.out, HNE.out, decide_eq_true h16]; rfl), rfl⟩
        · have hl : ¬ (s.size : Int) ≤ 16 := by omega
          go_wp2
          go_ret
          exact ⟨ret_b (by rw [HVV.out, HAL.out, HNE.out, decide_eq_false h16]; rfl), rfl⟩
end Go.Proofs.YtoohnjlghjapnaaDoor
