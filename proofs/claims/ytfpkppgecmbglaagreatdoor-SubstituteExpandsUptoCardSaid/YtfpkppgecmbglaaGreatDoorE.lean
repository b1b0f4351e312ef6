/- isPiece; spellings, kindOf, spellingLength. -/
import Derived.Test.YtfpkppgecmbglaaGreatDoorD
namespace Go.Proofs.YtfpkppgecmbglaaGreatDoor
open Go.RowKit

/-- Whether a piece is right by itself. -/
def okG (x : Gp) : Bool :=
  if x.kind = 9 then x.text.isEmpty && (decide (0 ≤ x.word) && (decide (x.word ≤ 99) && (decide (0 < x.word) || !x.more)))
  else if x.word ≠ 0 ∨ x.more = true then false
  else if x.kind = 1 then !x.text.isEmpty && x.text.all prCh
  else if x.kind = 7 then nmB x.text
  else if x.kind = 8 then kyB x.text
  else decide (1 < x.kind) && (decide (x.kind ≤ 11) && x.text.isEmpty)

set_option maxHeartbeats 2000000 in
set_option maxRecDepth 100000 in
theorem isPiece_any (x : Gp) (w : World) (hl : x.text.length ≤ 1000000000000) : Calls Tryz.prog 37 #[.agg (gpC x)] w fun e w' => e = .returned (.bool (okG x)) ∧ Kp [] w w' := by
  obtain ⟨k, t, n, m⟩ := x
  simp only at hl
  have he := bs_isEmpty t
  have HK := Lib.hid ((Kp.refl [] w).alloc (.cells #[.int .i64 k, .string (bs t), .int .i64 n, .bool m] 61))
  have hA := PAt.new w ⟨k, t, n, m⟩
  obtain ⟨d0, d1, d2, d3⟩ := hA.cells
  unfold gpC at d0 d1 d2 d3 hA
  simp only at d0 d1 d2 d3 hA
  unfold gpC
  simp only
  by_cases h9 : k = 9
  · subst h9
    have hb : okG ⟨9, t, n, m⟩ = (t.isEmpty && (decide (0 ≤ n) && (decide (n ≤ 99) && (decide (0 < n) || !m)))) := rfl
    rw [hb]
    clear hb hA
    cases hte : t.isEmpty <;> rw [hte] at he <;> clear hte
    · go_enter Tryz.func37, Tryz.ntmps37
      go_wp2
      go_ret
      exact ⟨rfl, HK.out⟩
    · by_cases h0 : 0 ≤ n
      · rw [decide_eq_true h0]
        by_cases h1 : n ≤ 99
        · rw [decide_eq_true h1]
          by_cases h2 : 0 < n
          · rw [decide_eq_true h2]
            go_enter Tryz.func37, Tryz.ntmps37
            go_wp2
            go_ret
            exact ⟨rfl, HK.out⟩
          · rw [decide_eq_false h2]
            go_enter Tryz.func37, Tryz.ntmps37
            go_wp2
            go_ret
            exact ⟨rfl, HK.out⟩
        · rw [decide_eq_false h1]
          go_enter Tryz.func37, Tryz.ntmps37
          go_wp2
          go_ret
          exact ⟨rfl, HK.out⟩
      · rw [decide_eq_false h0]
        go_enter Tryz.func37, Tryz.ntmps37
        go_wp2
        go_ret
        exact ⟨rfl, HK.out⟩
  have h9' : (k == 9) = false := by simpa using h9
  by_cases hn : n ≠ 0 ∨ m = true
  · have hb : okG ⟨k, t, n, m⟩ = false := by unfold okG; simp only; rw [if_neg h9, if_pos hn]
    rw [hb]
    clear hb hA
    by_cases h0 : n = 0
    · have hm : m = true := by rcases hn with h | h; exact absurd h0 h; exact h
      subst hm
      subst h0
      go_enter Tryz.func37, Tryz.ntmps37
      go_wp2
      go_ret
      exact ⟨rfl, HK.out⟩
    · have h0' : (n != 0) = true := by simpa using h0
      go_enter Tryz.func37, Tryz.ntmps37
      go_wp2
      go_ret
      exact ⟨rfl, HK.out⟩
  obtain rfl : n = 0 := by
    rcases Int.lt_trichotomy n 0 with h | h | h
    · exact absurd (.inl (by omega)) hn
    · exact h
    · exact absurd (.inl (by omega)) hn
  obtain rfl : m = false := by cases m with | false => rfl | true => exact absurd (.inr rfl) hn
  by_cases h1 : k = 1
  · subst h1
    have hb : okG ⟨1, t, 0, false⟩ = (!t.isEmpty && t.all prCh) := rfl
    rw [hb]
    have HP := Lib.hid fun W => isPrintable_any t W hl
    clear hb hA
    cases hte : t.isEmpty <;> rw [hte] at he <;> clear hte
    · go_enter Tryz.func37, Tryz.ntmps37
      go_wp2_with (go_at_call 67; refine Calls.mono (by with_reducible exact HP.out _) ?_; rintro e w1 ⟨rfl, rfl⟩)
      go_ret
      exact ⟨rfl, HK.out⟩
    · go_enter Tryz.func37, Tryz.ntmps37
      go_wp2
      go_ret
      exact ⟨rfl, HK.out⟩
  have h1' : (k == 1) = false := by simpa using h1
  by_cases h7 : k = 7
  · subst h7
    have hb : okG ⟨7, t, 0, false⟩ = nmB t := rfl
    rw [hb]
    have HP := Lib.hid fun W => valid_any t W hl
    clear hb hA he
    go_enter Tryz.func37, Tryz.ntmps37
    go_wp2_with (go_at_call 68; refine Calls.mono (by with_reducible exact HP.out _) ?_; rintro e w1 ⟨rfl, hk1⟩)
    go_ret
    exact ⟨rfl, HK.out.trans hk1⟩
  have h7' : (k == 7) = false := by simpa using h7
  by_cases h8 : k = 8
  · subst h8
    have hb : okG ⟨8, t, 0, false⟩ = kyB t := rfl
    rw [hb]
    have HP := Lib.hid fun W => key_any t W hl
    clear hb hA he
    go_enter Tryz.func37, Tryz.ntmps37
    go_wp2_with (go_at_call 69; refine Calls.mono (by with_reducible exact HP.out _) ?_; rintro e w1 ⟨rfl, hk1⟩)
    go_ret
    exact ⟨rfl, HK.out.trans hk1⟩
  have h8' : (k == 8) = false := by simpa using h8
  have hb : okG ⟨k, t, 0, false⟩ = (decide (1 < k) && (decide (k ≤ 11) && t.isEmpty)) := by
    unfold okG
    simp only
    rw [if_neg h9, if_neg (by simp), if_neg h1, if_neg h7, if_neg h8]
  rw [hb]
  clear hb hA
  by_cases h2 : 1 < k
  · rw [decide_eq_true h2]
    by_cases h3 : k ≤ 11
    · rw [decide_eq_true h3]
      cases hte : t.isEmpty <;> rw [hte] at he <;> clear hte
      · go_enter Tryz.func37, Tryz.ntmps37
        go_wp2
        go_ret
        exact ⟨rfl, HK.out⟩
      · go_enter Tryz.func37, Tryz.ntmps37
        go_wp2
        go_ret
        exact ⟨rfl, HK.out⟩
    · rw [decide_eq_false h3]
      go_enter Tryz.func37, Tryz.ntmps37
      go_wp2
      go_ret
      exact ⟨rfl, HK.out⟩
  · rw [decide_eq_false h2]
    go_enter Tryz.func37, Tryz.ntmps37
    go_wp2
    go_ret
    exact ⟨rfl, HK.out⟩
end Go.Proofs.YtfpkppgecmbglaaGreatDoor
