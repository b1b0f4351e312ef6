/- Which terms are static, upward, looked at on a draft: both. -/
import Derived.Test.YthblgkjmjfhkdaaKGa
namespace Go.Proofs.Ythblgkjmjfhkdaa
open Go.RowKit

def stK (k : Int) : Bool := k == 2 || (k == 3 || (k == 4 || k == 5))
def upK (k : Int) : Bool := k == 8 || (k == 9 || (k == 10 || k == 11))
def drK (k : Int) : Bool := k == 1 || (k == 6 || (k == 7 || k == 13))
def statB (t : Tm) : Bool := stK t.key && matchB t.op
def upB (t : Tm) : Bool := upK t.key && matchB t.op
def drB (t : Tm) : Bool := drK t.key && matchB t.op
theorem stK_no {k : Int} (h2 : ¬ k = 2) (h3 : ¬ k = 3) (h4 : ¬ k = 4) (h5 : ¬ k = 5) : stK k = false := by simp [stK, h2, h3, h4, h5]
theorem upK_no {k : Int} (h2 : ¬ k = 8) (h3 : ¬ k = 9) (h4 : ¬ k = 10) (h5 : ¬ k = 11) : upK k = false := by simp [upK, h2, h3, h4, h5]
theorem drK_no {k : Int} (h2 : ¬ k = 1) (h3 : ¬ k = 6) (h4 : ¬ k = 7) (h5 : ¬ k = 13) : drK k = false := by simp [drK, h2, h3, h4, h5]
set_option maxRecDepth 100000 in
set_option maxHeartbeats 2000000 in
theorem static_any (t : Tm) (w : World) : Calls Try.prog 10 #[.agg (tmC t)] w fun e w' => e = .returned (.bool (statB t)) ∧ Kp [] w w' := by
  obtain ⟨k, n, o, v⟩ := t
  have hk := (Kp.refl [] w).alloc (.cells (tmC ⟨k, n, o, v⟩) 23)
  have HK := Lib.hid hk
  have HM := Lib.hid fun W => match_any ⟨k, n, o, v⟩ W
  clear hk
  unfold statB
  generalize matchB (Tm.op ⟨k, n, o, v⟩) = m at *
  unfold tmC at *
  simp only at *
  by_cases h2 : k = 2
  · subst h2
    go_enter Try.func10, Try.ntmps10
    go_wp2_with (first | (go_at_call 28; refine (HM.out _).mono ?_; rintro e w2 ⟨rfl, hk2⟩))
    go_ret
    exact ⟨rfl, HK.out.trans hk2⟩
  by_cases h3 : k = 3
  · subst h3
    go_enter Try.func10, Try.ntmps10
    go_wp2_with (first | (go_at_call 28; refine (HM.out _).mono ?_; rintro e w2 ⟨rfl, hk2⟩))
    go_ret
    exact ⟨rfl, HK.out.trans hk2⟩
  by_cases h4 : k = 4
  · subst h4
    go_enter Try.func10, Try.ntmps10
    go_wp2_with (first | (go_at_call 28; refine (HM.out _).mono ?_; rintro e w2 ⟨rfl, hk2⟩))
    go_ret
    exact ⟨rfl, HK.out.trans hk2⟩
  by_cases h5 : k = 5
  · subst h5
    go_enter Try.func10, Try.ntmps10
    go_wp2_with (first | (go_at_call 28; refine (HM.out _).mono ?_; rintro e w2 ⟨rfl, hk2⟩))
    go_ret
    exact ⟨rfl, HK.out.trans hk2⟩
  have HB := Lib.hid (stK_no h2 h3 h4 h5)
  go_enter Try.func10, Try.ntmps10
  go_wp2
  go_ret
  exact ⟨by rw [HB.out]; rfl, HK.out⟩
set_option maxRecDepth 100000 in
set_option maxHeartbeats 2000000 in
theorem upward_any (t : Tm) (w : World) : Calls Try.prog 12 #[.agg (tmC t)] w fun e w' => e = .returned (.bool (upB t)) ∧ Kp [] w w' := by
  obtain ⟨k, n, o, v⟩ := t
  have hk := (Kp.refl [] w).alloc (.cells (tmC ⟨k, n, o, v⟩) 23)
  have HK := Lib.hid hk
  have HM := Lib.hid fun W => match_any ⟨k, n, o, v⟩ W
  clear hk
  unfold upB
  generalize matchB (Tm.op ⟨k, n, o, v⟩) = m at *
  unfold tmC at *
  simp only at *
  by_cases h8 : k = 8
  · subst h8
    go_enter Try.func12, Try.ntmps12
    go_wp2_with (first | (go_at_call 28; refine (HM.out _).mono ?_; rintro e w2 ⟨rfl, hk2⟩))
    go_ret
    exact ⟨rfl, HK.out.trans hk2⟩
  by_cases h9 : k = 9
  · subst h9
    go_enter Try.func12, Try.ntmps12
    go_wp2_with (first | (go_at_call 28; refine (HM.out _).mono ?_; rintro e w2 ⟨rfl, hk2⟩))
    go_ret
    exact ⟨rfl, HK.out.trans hk2⟩
  by_cases h10 : k = 10
  · subst h10
    go_enter Try.func12, Try.ntmps12
    go_wp2_with (first | (go_at_call 28; refine (HM.out _).mono ?_; rintro e w2 ⟨rfl, hk2⟩))
    go_ret
    exact ⟨rfl, HK.out.trans hk2⟩
  by_cases h11 : k = 11
  · subst h11
    go_enter Try.func12, Try.ntmps12
    go_wp2_with (first | (go_at_call 28; refine (HM.out _).mono ?_; rintro e w2 ⟨rfl, hk2⟩))
    go_ret
    exact ⟨rfl, HK.out.trans hk2⟩
  have HB := Lib.hid (upK_no h8 h9 h10 h11)
  go_enter Try.func12, Try.ntmps12
  go_wp2
  go_ret
  exact ⟨by rw [HB.out]; rfl, HK.out⟩
set_option maxRecDepth 100000 in
set_option maxHeartbeats 2000000 in
theorem looks_any (t : Tm) (w : World) : Calls Try.prog 34 #[.agg (tmC t)] w fun e w' => e = .returned (.bool (drB t)) ∧ Kp [] w w' := by
  obtain ⟨k, n, o, v⟩ := t
  have hk := (Kp.refl [] w).alloc (.cells (tmC ⟨k, n, o, v⟩) 23)
  have HK := Lib.hid hk
  have HM := Lib.hid fun W => match_any ⟨k, n, o, v⟩ W
  clear hk
  unfold drB
  generalize matchB (Tm.op ⟨k, n, o, v⟩) = m at *
  unfold tmC at *
  simp only at *
  by_cases h1 : k = 1
  · subst h1
    go_enter Try.func34, Try.ntmps34
    go_wp2_with (first | (go_at_call 28; refine (HM.out _).mono ?_; rintro e w2 ⟨rfl, hk2⟩))
    go_ret
    exact ⟨rfl, HK.out.trans hk2⟩
  by_cases h6 : k = 6
  · subst h6
    go_enter Try.func34, Try.ntmps34
    go_wp2_with (first | (go_at_call 28; refine (HM.out _).mono ?_; rintro e w2 ⟨rfl, hk2⟩))
    go_ret
    exact ⟨rfl, HK.out.trans hk2⟩
  by_cases h7 : k = 7
  · subst h7
    go_enter Try.func34, Try.ntmps34
    go_wp2_with (first | (go_at_call 28; refine (HM.out _).mono ?_; rintro e w2 ⟨rfl, hk2⟩))
    go_ret
    exact ⟨rfl, HK.out.trans hk2⟩
  by_cases h13 : k = 13
  · subst h13
    go_enter Try.func34, Try.ntmps34
    go_wp2_with (first | (go_at_call 28; refine (HM.out _).mono ?_; rintro e w2 ⟨rfl, hk2⟩))
    go_ret
    exact ⟨rfl, HK.out.trans hk2⟩
  have HB := Lib.hid (drK_no h1 h6 h7 h13)
  go_enter Try.func34, Try.ntmps34
  go_wp2
  go_ret
  exact ⟨by rw [HB.out]; rfl, HK.out⟩
end Go.Proofs.Ythblgkjmjfhkdaa
