/- The reference's byteOK and Printable. -/
import Derived.Test.YteiphphihclnfaaDoorGlM
namespace Go.Proofs.YteiphphihclnfaaDoor.Gl
open Go.RowKit

set_option maxHeartbeats 400000 in
set_option maxRecDepth 100000 in
theorem byteOK_any (c : UInt8) (w : World) : Calls Tryd.prog 59 #[.int .u8 (c.toNat : Int)] w fun e w' => e = .returned (.bool (isText c)) ∧ w' = w := by
  unfold isText
  by_cases h1 : (32 : Int) ≤ (c.toNat : Int)
  · have d1 : decide (32 ≤ c.toNat) = true := decide_eq_true (by omega)
    rw [d1, Bool.true_and]
    clear d1
    by_cases h2 : (c.toNat : Int) ≤ 126
    · have d2 : decide (c.toNat ≤ 126) = true := decide_eq_true (by omega)
      rw [d2]
      clear d2
      go_enter Tryd.func59, Tryd.ntmps59
      go_wp2
      go_ret
      exact ⟨rfl, rfl⟩
    · have d2 : decide (c.toNat ≤ 126) = false := decide_eq_false (by omega)
      rw [d2]
      clear d2
      go_enter Tryd.func59, Tryd.ntmps59
      go_wp2
      go_ret
      exact ⟨rfl, rfl⟩
  · have d1 : decide (32 ≤ c.toNat) = false := decide_eq_false (by omega)
    rw [d1, Bool.false_and]
    clear d1
    go_enter Tryd.func59, Tryd.ntmps59
    go_wp2
    go_ret
    exact ⟨rfl, rfl⟩

set_option maxHeartbeats 400000 in
set_option maxRecDepth 100000 in
theorem printable_any (s : ByteArray) (w : World) (hs : s.size ≤ 4611686018427387904) : Calls Tryd.prog 47 #[.string s] w fun e w' => e = .returned (.bool (s.data.toList.all isText)) ∧ w' = w := by
  have hsz := Lib.size_eq s
  have hsi : (s.size : Int) ≤ 4611686018427387904 := by omega
  have Hsz := Lib.hid hsz
  obtain ⟨R, hR⟩ : ∃ R, s.data.toList.all isText = R := ⟨_, rfl⟩
  rw [hR]
  have HR := Lib.hid hR
  clear hsz hR
  go_enter Tryd.func47, Tryd.ntmps47
  go_wp2
  go_loop [3] (fun s3 => ∃ k : Nat, k ≤ s.size ∧ s3 = .int .i64 k ∧ (s.data.toList.take k).all isText = true) (fun s3 => s.size - (intOf s3).toNat)
  case atStart => exact ⟨0, by omega, rfl, rfl⟩
  case round =>
    obtain ⟨k, hk, rfl, hall⟩ := hrel
    have Hall := Lib.hid hall
    clear hall
    by_cases hlt : (k : Int) < (s.size : Int)
    · obtain ⟨x, hx⟩ : ∃ x : UInt8, s[k]'(by omega) = x := ⟨_, rfl⟩
      have hxl : s.data.toList[k]? = some x := by rw [← hx]; exact Lib.data_getElem? s k (by omega)
      have hb := fun W => byteOK_any x W
      have Hxl := Lib.hid hxl
      clear hxl
      cases ht : isText x with
      | true =>
        rw [ht] at hb
        have Hb := Lib.hid hb
        have Hn := Lib.hid (show (s.data.toList.take (k + 1)).all isText = true by rw [List.take_add_one, Hxl.out, List.all_append, Hall.out]; simp [ht])
        clear hb ht
        go_wp2_with (go_at_call 59; refine (Hb.out _).mono ?_; rintro e W1 ⟨rfl, rfl⟩)
        go_round
        case rel => exact ⟨k + 1, by omega, rfl, Hn.out⟩
        case measure => simp [intOf]; omega
      | false =>
        rw [ht] at hb
        have Hb := Lib.hid hb
        have Hv := Lib.hid (show R = false from by
          rw [← HR.out, List.all_eq_false]
          exact ⟨x, List.mem_of_getElem? Hxl.out, by rw [ht]; simp⟩)
        clear hb ht
        go_wp2_with (go_at_call 59; refine (Hb.out _).mono ?_; rintro e W1 ⟨rfl, rfl⟩)
        go_ret
        exact ⟨by rw [Hv.out]; rfl, rfl⟩
    · obtain rfl : k = s.size := by omega
      have Hv := Lib.hid (show R = true from by
        rw [← HR.out]
        have := Hall.out
        rwa [Hsz.out, List.take_length] at this)
      go_wp2
      go_ret
      exact ⟨by rw [Hv.out]; rfl, rfl⟩
end Go.Proofs.YteiphphihclnfaaDoor.Gl
