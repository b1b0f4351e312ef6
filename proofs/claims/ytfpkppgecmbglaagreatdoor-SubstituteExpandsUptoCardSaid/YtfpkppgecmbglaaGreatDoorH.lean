/- spellingLength; searching, cutting. -/
import Derived.Test.YtfpkppgecmbglaaGreatDoorG
namespace Go.Proofs.YtfpkppgecmbglaaGreatDoor
open Go.RowKit

theorem span_at {p : UInt8 → Bool} {s : List UInt8} {i : Nat} (h : (s.take i).all p = true) (hn : ∀ hi : i < s.length, p s[i] = false) : spanL p s = (s.take i, s.drop i) := by
  have := spanL_app p (s.take i) (s.drop i) h (fun b r hb => by
    have hi : i < s.length := by
      rcases Nat.lt_or_ge i s.length with h | h
      · exact h
      · rw [List.drop_eq_nil_of_le h] at hb; cases hb
    rw [List.drop_eq_getElem_cons hi] at hb
    cases hb
    exact hn hi)
  rwa [List.take_append_drop] at this
set_option maxHeartbeats 1000000 in
set_option maxRecDepth 100000 in
theorem spLen_letter (r : List UInt8) (w : World) (hl : r.length ≤ 1000000000000) : Calls Tryz.prog 61 #[.string (bs (37 :: r))] w fun e w' => e = .returned (.int .i64 ((min 2 (r.length + 1) : Nat) : Int)) ∧ Kp [] w w' := by
  have hsz : ((bs (37 :: r)).size : Int) = (r.length : Int) + 1 := by rw [bs_size, List.length_cons]; push_cast; rfl
  have h0 : 0 < (bs (37 :: r)).size := by rw [bs_size]; simp
  have hg : (bs (37 :: r))[0]'h0 = 37 := rfl
  have hmin : ((min 2 (r.length + 1) : Nat) : Int) = min 2 ((r.length : Int) + 1) := by omega
  rw [hmin]
  go_enter Tryz.func61, Tryz.ntmps61
  go_wp2
  go_ret
  exact ⟨rfl, Kp.refl _ _⟩
set_option maxHeartbeats 1000000 in
set_option maxRecDepth 100000 in
theorem spLen_word (b : UInt8) (r : List UInt8) (w : World) (hb : b ≠ 37) (hl : r.length ≤ 1000000000000) : Calls Tryz.prog 61 #[.string (bs (b :: r))] w fun e w' => e = .returned (.int .i64 (((spanL azCh r).1.length + 1 : Nat) : Int)) ∧ Kp [] w w' := by
  obtain ⟨K, hK⟩ : ∃ K, (spanL azCh r).1.length + 1 = K := ⟨_, rfl⟩
  have hfin : ∀ i, i ≤ r.length → (r.take i).all azCh = true → (∀ hi : i < r.length, azCh r[i] = false) → i + 1 = K := fun i hi h1 h2 => by
    rw [← hK, span_at h1 h2, List.length_take]
    omega
  rw [hK]
  clear hK
  have HF := Lib.hid hfin
  clear hfin
  have hsz : (bs (b :: r)).size = r.length + 1 := rfl
  have h0 : 0 < (bs (b :: r)).size := by omega
  have hg : (bs (b :: r))[0]'h0 = b := rfl
  have hbn : ((b.toNat : Int) == 37) = false := by
    rw [beq_eq_false_iff_ne]
    intro e
    exact hb (UInt8.toNat_inj.1 (by have h3 : (37 : UInt8).toNat = 37 := rfl; omega))
  go_enter Tryz.func61, Tryz.ntmps61
  go_wp2
  go_loopw [3] (fun s3 wx => ∃ i : Nat, i ≤ r.length ∧ s3 = .int .i64 ((i + 1 : Nat) : Int) ∧ (r.take i).all azCh = true ∧ Kp [] w wx) (fun s3 _ => r.length + 1 - (intOf s3).toNat)
  case atStart => exact ⟨0, by omega, rfl, rfl, Kp.refl _ _⟩
  case round =>
    obtain ⟨i, hi, rfl, hall, hk⟩ := hrel
    have HA := Lib.hid hall
    have HK := Lib.hid hk
    clear hall hk
    by_cases hlt : i < r.length
    · have hiz : ((i + 1 : Nat) : Int) < ((bs (b :: r)).size : Int) := by omega
      have hiz' : i + 1 < (bs (b :: r)).size := by omega
      obtain ⟨x, hx⟩ : ∃ x : UInt8, r[i] = x := ⟨_, rfl⟩
      have hgx : (bs (b :: r))[i + 1]'hiz' = x := (bs_get (b :: r) (i + 1) hiz').trans hx
      have HS := Lib.hid fun W => isSmall_any x W
      cases hz : azCh x with
      | true =>
        rw [hz] at HS
        have hn : (r.take (i + 1)).all azCh = true := by
          rw [List.take_add_one, List.getElem?_eq_getElem hlt, hx]
          simp only [Option.toList, List.all_append, HA.out, List.all_cons, hz, List.all_nil]
          rfl
        have HN := Lib.hid hn
        clear hn hz hx
        go_wp2_with (go_at_call 72; refine Calls.mono (by with_reducible exact HS.out _) ?_; rintro e w1 ⟨rfl, rfl⟩)
        go_roundw
        case rel => exact ⟨i + 1, by omega, by go_num, HN.out, HK.out⟩
        case measure => simp [intOf]; omega
      | false =>
        rw [hz] at HS
        obtain rfl := HF.out i hi HA.out (fun _ => by rw [hx, hz])
        clear hz hx
        go_wp2_with (go_at_call 72; refine Calls.mono (by with_reducible exact HS.out _) ?_; rintro e w1 ⟨rfl, rfl⟩)
        go_ret
        exact ⟨rfl, HK.out⟩
    · have hiz : ¬ (((i + 1 : Nat) : Int) < ((bs (b :: r)).size : Int)) := by omega
      obtain rfl := HF.out i hi HA.out (fun h => absurd h hlt)
      go_wp2
      go_ret
      exact ⟨rfl, HK.out⟩
end Go.Proofs.YtfpkppgecmbglaaGreatDoor
