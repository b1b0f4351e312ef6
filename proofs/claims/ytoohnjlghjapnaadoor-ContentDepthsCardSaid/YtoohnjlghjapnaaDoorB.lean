/- Bytes and words of IDs. -/
import Derived.Test.YtoohnjlghjapnaaDoorA
import Derived.Test.YtoohnjlghjapnaaDoorT8
namespace Go.Proofs.YtoohnjlghjapnaaDoor
open Go.RowKit

theorem u8_le (a b : UInt8) : decide ((a.toNat : Int) ≤ (b.toNat : Int)) = decide (a ≤ b) := by
  rw [Bool.eq_iff_iff]; simp [UInt8.le_iff_toNat_le]
theorem u8_eq (a b : UInt8) : ((a.toNat : Int) == (b.toNat : Int)) = (a == b) := by
  rw [Bool.eq_iff_iff]; simp only [beq_iff_eq, ← UInt8.toNat_inj]; omega
set_option maxHeartbeats 400000 in
theorem idByte_any (b : UInt8) (w : World) : Calls Tryd.prog 71 #[.int .u8 (b.toNat : Int)] w fun e w' => e = .returned (.bool (idCh b)) ∧ w = w' := by
  have e : idCh b = ((decide ((65 : Int) ≤ (b.toNat : Int)) && decide ((b.toNat : Int) ≤ 90)) || (decide ((97 : Int) ≤ (b.toNat : Int)) && decide ((b.toNat : Int) ≤ 122)) || (decide ((48 : Int) ≤ (b.toNat : Int)) && decide ((b.toNat : Int) ≤ 57)) || ((b.toNat : Int) == 95) || ((b.toNat : Int) == 46) || ((b.toNat : Int) == 45)) := by
    have := u8_le 65 b; have := u8_le b 90; have := u8_le 97 b; have := u8_le b 122; have := u8_le 48 b; have := u8_le b 57
    have := u8_eq b 95; have := u8_eq b 46; have := u8_eq b 45
    simp_all [idCh]
  obtain ⟨n, hn⟩ : ∃ n : Int, (b.toNat : Int) = n := ⟨_, rfl⟩
  rw [e, hn]
  clear e hn
  go_enter Tryd.func71, Tryd.ntmps71
  go_wp2
  all_goals
    go_ret
    first | (exfalso; omega) | skip
    simp
    first | done | omega | (rw [Bool.eq_iff_iff]; simp; omega)

theorem wrd_len_of {l : List UInt8} {k : Nat} (h : (l.take k).all idCh = true) (hk : k ≤ l.length) (he : ∀ b, l[k]? = some b → idCh b = false) : (wrd l).length = k := by
  have e : l = l.take k ++ l.drop k := (List.take_append_drop k l).symm
  have hst : Stop (l.drop k) := by
    cases hd : l.drop k with
    | nil => exact .inl rfl
    | cons b r =>
      refine .inr ⟨b, r, rfl, he b ?_⟩
      have : (l.drop k)[0]? = some b := by rw [hd]; rfl
      rwa [List.getElem?_drop, Nat.add_zero] at this
  have := (wrd_app h hst).1
  rw [← e] at this
  rw [this, List.length_take]
  omega
theorem take_all_succ {l : List UInt8} {k : Nat} {b : UInt8} (h : (l.take k).all idCh = true) (hb : l[k]? = some b) (hi : idCh b = true) : (l.take (k + 1)).all idCh = true := by
  rw [List.take_add_one, hb, List.all_append, h]
  simp [hi]

set_option maxHeartbeats 400000 in
set_option maxRecDepth 100000 in
theorem idLength_any (s : ByteArray) (w : World) (hs : s.size ≤ 9223372036854775807) : Calls Tryd.prog 59 #[.string s] w fun e w' => e = .returned (.int .i64 ((wrd s.data.toList).length : Int)) ∧ w = w' := by
  have hsz := Lib.size_eq s
  have HZ := Lib.hid hsz
  clear hsz
  go_enter Tryd.func59, Tryd.ntmps59
  go_wp2
  go_loop [3] (fun n => ∃ k : Nat, k ≤ s.size ∧ n = .int .i64 k ∧ (s.data.toList.take k).all idCh = true) (fun n => s.size - (intOf n).toNat)
  case atStart => exact ⟨0, Nat.zero_le _, rfl, by simp⟩
  case round =>
    obtain ⟨k, hk, rfl, hall⟩ := hrel
    have HA := Lib.hid hall
    clear hall
    by_cases hlt : k < s.size
    · have hb : s.data.toList[k]? = some s[k] := by rw [List.getElem?_eq_getElem (by rw [← HZ.out]; exact hlt)]; rfl
      have HB := Lib.hid hb
      clear hb
      have hc := fun W => idByte_any s[k] W
      cases hq : idCh s[k] with
      | true =>
        rw [hq] at hc
        have HC := Lib.hid hc
        have HQ := Lib.hid hq
        clear hc hq
        have hwr : IntKind.i64.wrap ((k : Int) + 1) = ((k + 1 : Nat) : Int) := by rw [IntKind.wrap_i64]; omega
        go_wp2_with (go_at_call 71; refine (HC.out _).mono ?_; rintro e w' ⟨rfl, rfl⟩)
        go_round
        case rel => exact ⟨k + 1, by omega, by go_num, take_all_succ HA.out HB.out HQ.out⟩
        case measure => simp [intOf]; omega
      | false =>
        rw [hq] at hc
        have HC := Lib.hid hc
        have HQ := Lib.hid hq
        clear hc hq
        go_wp2_with (go_at_call 71; refine (HC.out _).mono ?_; rintro e w' ⟨rfl, rfl⟩)
        go_ret
        have := wrd_len_of HA.out (by rw [← HZ.out]; exact hk) (fun b hb => by rw [HB.out] at hb; cases hb; exact HQ.out)
        rw [this]
        exact ⟨rfl, rfl⟩
    · have hke : k = s.size := by omega
      have := wrd_len_of HA.out (by rw [← HZ.out]; exact hk) (fun b hb => by rw [List.getElem?_eq_none (by rw [← HZ.out]; omega)] at hb; cases hb)
      have HW := Lib.hid this
      subst hke
      clear this
      go_wp2
      go_ret
      rw [HW.out]
      exact ⟨rfl, rfl⟩

theorem wrd_all {l : List UInt8} : l.all idCh = decide ((wrd l).length = l.length) := by
  rw [Bool.eq_iff_iff, decide_eq_true_iff]
  constructor
  · intro h
    have := (wrd_app h (.inl rfl : Stop [])).1
    rw [List.append_nil] at this
    rw [this]
  · intro h
    have e := wrd_rst l
    have hr : rst l = [] := by
      have := congrArg List.length e
      rw [List.length_append] at this
      exact List.length_eq_zero_iff.1 (by omega)
    rw [hr, List.append_nil] at e
    rw [← e]
    unfold wrd
    rw [List.all_eq_true]
    intro x hx
    exact List.all_eq_true.1 (List.all_takeWhile (p := idCh) (l := l)) x hx

set_option maxHeartbeats 400000 in
set_option maxRecDepth 100000 in
theorem isID_any (s : ByteArray) (w : World) (hs : s.size ≤ 9223372036854775807) : Calls Tryd.prog 70 #[.string s] w fun e w' => e = .returned (.bool (isID s.data.toList)) ∧ w = w' := by
  have hsz := Lib.size_eq s
  have hv : isID s.data.toList = (decide ((wrd s.data.toList).length = s.data.toList.length) && !s.data.toList.isEmpty && decide (s.data.toList.length ≤ 16)) := by
    unfold isID
    rw [wrd_all]
  rw [hv, ← hsz]
  have HL := Lib.hid (idLength_any s w hs)
  generalize (wrd s.data.toList).length = n at *
  by_cases h0 : s.data.toList = []
  · have he : s.toList.isEmpty = true := by rw [Lib.toList_data, h0]; rfl
    clear hv hsz
    have H0 := Lib.hid h0
    clear h0
    go_enter Tryd.func70, Tryd.ntmps70
    go_wp2
    go_ret
    rw [H0.out]
    simp
  · have he : s.toList.isEmpty = false := by
      rw [Lib.toList_data]
      cases hl : s.data.toList with
      | nil => exact absurd hl h0
      | cons _ _ => rfl
    have hne : s.data.toList.isEmpty = false := by rw [← Lib.toList_data]; exact he
    rw [hne]
    clear hne hv h0 hsz
    by_cases hl : s.size ≤ 16
    · have hl' : (s.size : Int) ≤ 16 := by omega
      by_cases hn : n = s.size
      · have HN := Lib.hid hn
        have h1 : ((n : Int) == (s.size : Int)) = true := by simp; omega
        clear hn
        go_enter Tryd.func70, Tryd.ntmps70
        go_wp2_with (go_at_call 59; refine HL.out.mono ?_; rintro e w' ⟨rfl, rfl⟩)
        go_ret
        rw [HN.out]
        simp [hl]
      · have HN := Lib.hid hn
        have h1 : ((n : Int) == (s.size : Int)) = false := by simp; omega
        have h2 : ¬ ((n : Int) = (s.size : Int)) := by omega
        clear hn
        go_enter Tryd.func70, Tryd.ntmps70
        go_wp2_with (go_at_call 59; refine HL.out.mono ?_; rintro e w' ⟨rfl, rfl⟩)
        go_ret
        simp [HN.out]
    · have hl' : ¬ (s.size : Int) ≤ 16 := by omega
      go_enter Tryd.func70, Tryd.ntmps70
      go_wp2
      go_ret
      simp

set_option maxHeartbeats 400000 in
theorem isCount_any (n m : Int) (w : World) : Calls Tryd.prog 69 #[.int .i64 n, .int .i64 m] w fun e w' => e = .returned (.bool (decide (1 ≤ n) && decide (n ≤ m))) ∧ w = w' := by
  by_cases h : 1 ≤ n
  · by_cases h2 : n ≤ m
    all_goals
      go_enter Tryd.func69, Tryd.ntmps69
      go_wp2
      go_ret
      simp [h, h2]
  · have h' : n < 1 := by omega
    go_enter Tryd.func69, Tryd.ntmps69
    go_wp2
    go_ret
    simp
    omega
end Go.Proofs.YtoohnjlghjapnaaDoor
