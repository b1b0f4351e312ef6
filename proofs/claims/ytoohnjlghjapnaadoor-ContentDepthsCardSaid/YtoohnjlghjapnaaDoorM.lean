/- Texts of numbers and slots. -/
import Derived.Test.YtoohnjlghjapnaaDoorL
import Derived.Deep.QuietTactic
import Derived.BigQuiet
import Derived.Deep.RegionHeld3
import Derived.Lib.Join
namespace Go.Proofs.YtoohnjlghjapnaaDoor
open Go.RowKit

theorem dec2_digits (n : Int) (h1 : 1 ≤ n) (h2 : n ≤ 16) : Lib.decDigits n.toNat = dec2 n := by
  have : n = 1 ∨ n = 2 ∨ n = 3 ∨ n = 4 ∨ n = 5 ∨ n = 6 ∨ n = 7 ∨ n = 8 ∨ n = 9 ∨ n = 10 ∨ n = 11 ∨ n = 12 ∨ n = 13 ∨ n = 14 ∨ n = 15 ∨ n = 16 := by omega
  rcases this with rfl | rfl | rfl | rfl | rfl | rfl | rfl | rfl | rfl | rfl | rfl | rfl | rfl | rfl | rfl | rfl <;> decide +kernel
theorem itoa_small (n : Int) (h1 : 1 ≤ n) (h2 : n ≤ 16) (w : World) : Calls Tryd.prog 36 #[.int .i64 n] w fun e w' => e = .returned (.string (bs (dec2 n))) ∧ w' = w := by
  have := Tryd.strconv_Itoa_small n.toNat (by omega) w
  rw [show ((n.toNat : Nat) : Int) = n by omega, dec2_digits n h1 h2] at this
  exact this
theorem bs_app (a b : List UInt8) : bs a ++ bs b = bs (a ++ b) := by
  apply ByteArray.ext
  rw [ByteArray.data_append]
  simp [bs]
theorem dec2_len (n : Int) : (dec2 n).length ≤ 2 := by unfold dec2; split <;> simp
def boxS (A : Nat) (k : Int) (i lab : List UInt8) (s t e : Int) (v : Value) : World → Prop := BoxV A (.int .i64 k) (.string (bs i)) (.string (bs lab)) (.int .i64 s) (.int .i64 t) (.int .i64 e) v

set_option maxHeartbeats 1000000 in
set_option maxRecDepth 100000 in
theorem slotText_any (k : Int) (i lab : List UInt8) (s t e : Int) (a : Option Addr) (n c : Nat) (w : World) (h1 : 1 ≤ s) (h2 : s ≤ 16) (h3 : 1 ≤ t) (h4 : t ≤ 16) :
    Calls Tryd.prog 35 #[.agg #[.int .i64 k, .string (bs i), .string (bs lab), .int .i64 s, .int .i64 t, .int .i64 e, .slice a n c]] w fun r w' => r = .returned (.string (bs (dec2 s ++ 47 :: dec2 t))) ∧ Kp [] w w' := by
  have HS := Lib.hid (fun W => itoa_small s h1 h2 W)
  have HT := Lib.hid (fun W => itoa_small t h3 h4 W)
  have hl1 : (bs (dec2 s)).size ≤ 2 := by rw [bs_size]; exact dec2_len s
  have hl2 : (bs (dec2 t)).size ≤ 2 := by rw [bs_size]; exact dec2_len t
  have HF := Lib.hid (show bs (dec2 s) ++ (⟨#[47]⟩ : ByteArray) ++ bs (dec2 t) = bs (dec2 s ++ 47 :: dec2 t) by
    rw [show (⟨#[47]⟩ : ByteArray) = bs [47] from rfl, bs_app, bs_app, List.append_assoc]; rfl)
  generalize bs (dec2 s ++ 47 :: dec2 t) = R at *
  generalize bs (dec2 s) = S at *
  generalize bs (dec2 t) = T at *
  obtain ⟨w1, hw1⟩ : ∃ w1, w.alloc (.cells #[.int .i64 k, .string (bs i), .string (bs lab), .int .i64 s, .int .i64 t, .int .i64 e, .slice a n c] 24) = w1 := ⟨_, rfl⟩
  have hk1 : Kp [] w w1 := by rw [← hw1]; exact (Kp.refl [] w).alloc _
  have hb1 : BoxV w.heap.size (.int .i64 k) (.string (bs i)) (.string (bs lab)) (.int .i64 s) (.int .i64 t) (.int .i64 e) (.slice a n c) w1 := by rw [← hw1]; exact al_new _ _
  obtain ⟨A, hA⟩ : ∃ A, w.heap.size = A := ⟨_, rfl⟩
  rw [hA] at hb1
  obtain ⟨c0, c1, c2, c3, c4, c5, c6⟩ := hb1.cells
  have K1 := Lib.hid hk1
  clear hk1 hb1 h1 h2 h3 h4
  go_enter Tryd.func35, Tryd.ntmps35
  go_wp2
  go_quiet (first | (go_at_call 36; exact Calls.quiet_of_same (HS.out _)) | (go_at_call 36; exact Calls.quiet_of_same (HT.out _)))
  go_wp2
  go_ret
  rw [← HF.out]
  exact ⟨rfl, K1.out.drew nq⟩

/-! ### the text of what is inside -/
theorem join_joinC : ∀ l : List (List UInt8), Lib.join l [44] = joinC l
  | [] => rfl
  | [a] => Lib.join_one a [44]
  | a :: b :: l => by
    have ih := join_joinC (b :: l)
    rw [Lib.join_cons] at ih ⊢
    unfold joinC
    rw [← ih]
    simp [Lib.joinTail]
/-- How long a text may be. -/
def tlen : Nat → Nat
  | 0 => 0
  | d + 1 => 100 + 16 * (tlen d + 1)
theorem joinC_bound {m : Nat} : ∀ l : List (List UInt8), (∀ x ∈ l, x.length ≤ m) → (joinC l).length ≤ l.length * (m + 1)
  | [], _ => by simp [joinC]
  | [a], h => by have := h a (by simp); simp [joinC]; omega
  | a :: b :: l, h => by
    have h1 := h a (by simp)
    have h2 := joinC_bound (b :: l) fun x hx => h x (by simp at hx ⊢; exact .inr hx)
    simp only [joinC, List.length_append, List.length_cons] at h2 ⊢
    rw [Nat.succ_mul]
    omega
theorem isID_len {s : List UInt8} (h : isID s = true) : s.length ≤ 16 := by
  simp only [isID, Bool.and_eq_true, decide_eq_true_eq] at h
  exact h.2
theorem lab_len {c : Con} (hh : headOK c = true) : c.lab.length ≤ 16 := by
  unfold headOK at hh
  split at hh
  · simp only [Bool.and_eq_true, Bool.or_eq_true, List.isEmpty_iff] at hh
    rcases hh.1.1 with h | h
    · rw [h]; simp
    · exact isID_len h
  split at hh
  · simp only [Bool.and_eq_true, List.isEmpty_iff] at hh; rw [hh.1.1.1]; simp
  split at hh
  · simp only [Bool.and_eq_true, List.isEmpty_iff] at hh; rw [hh.1.1]; simp
  split at hh
  · simp only [Bool.and_eq_true, List.isEmpty_iff] at hh; rw [hh.1.1.1]; simp
  split at hh
  · simp only [Bool.and_eq_true, List.isEmpty_iff] at hh; rw [hh.1.1]; simp
  · cases hh
theorem inner_len {c : Con} (hh : headOK c = true) : c.inner.length ≤ 16 := by
  unfold headOK at hh
  split at hh
  · simp only [Bool.and_eq_true, List.isEmpty_iff] at hh; rw [hh.2]; simp
  split at hh
  · simp only [Bool.and_eq_true, decide_eq_true_eq] at hh; omega
  split at hh
  · simp only [Bool.and_eq_true, decide_eq_true_eq] at hh; omega
  split at hh
  · simp only [Bool.and_eq_true, decide_eq_true_eq] at hh; omega
  split at hh
  · simp only [Bool.and_eq_true, decide_eq_true_eq] at hh; omega
  · cases hh
theorem head_len {c : Con} (hi : isID c.id = true) (hh : headOK c = true) : (headT c).length ≤ 60 := by
  have h1 := isID_len hi
  have h2 := lab_len hh
  have a := dec2_len c.slot
  have b := dec2_len c.tot
  have d := dec2_len c.lst
  unfold headT
  split
  · simp [wFs]; omega
  split
  · simp [wRaid]; omega
  split
  · simp [wCrypt]; omega
  split
  · simp [wPv]; omega
  · simp [wTable]; omega
theorem txt_len : ∀ (d : Nat) (c : Con), valN d c = true → c.txt.length ≤ tlen d
  | 0, c, hv => by
    unfold valN at hv
    split at hv
    · rename_i hk; rw [txt_eq, if_pos hk]; simp
    · cases hv
  | d + 1, c, hv => by
    unfold valN at hv
    split at hv
    · rename_i hk; rw [txt_eq, if_pos hk]; simp
    · rename_i hk
      simp only [Bool.and_eq_true] at hv
      obtain ⟨⟨hi, hh⟩, ha⟩ := hv
      have h1 := head_len hi hh
      have h2 := inner_len hh
      have h3 := joinC_bound (m := tlen d) (c.inner.map Con.txt) fun x hx => by
        obtain ⟨y, hy, rfl⟩ := List.mem_map.1 hx
        exact txt_len d y (List.all_eq_true.1 ha y hy)
      rw [List.length_map] at h3
      have h4 : c.inner.length * (tlen d + 1) ≤ 16 * (tlen d + 1) := Nat.mul_le_mul_right _ h2
      rw [txt_eq, if_neg hk]
      split
      · unfold tlen; omega
      · simp only [List.length_append, List.length_cons, List.length_nil, tlen]
        omega
theorem tlen_mono : ∀ d, tlen d ≤ tlen (d + 1)
  | 0 => Nat.zero_le _
  | d + 1 => by have := tlen_mono d; unfold tlen; omega
theorem tlen6 : ∀ d, d ≤ 6 → tlen d ≤ 4000000000 := fun d h => by
  have : d = 0 ∨ d = 1 ∨ d = 2 ∨ d = 3 ∨ d = 4 ∨ d = 5 ∨ d = 6 := by omega
  rcases this with rfl | rfl | rfl | rfl | rfl | rfl | rfl <;> decide +kernel
end Go.Proofs.YtoohnjlghjapnaaDoor
