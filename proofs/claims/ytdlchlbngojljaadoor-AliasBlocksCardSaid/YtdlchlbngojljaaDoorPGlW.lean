/- Sets of bytes as four words of 64 bits. -/
import Derived.Test.YtdlchlbngojljaaDoorPGlP3
import Derived.Lib.TrailingZeros
namespace Go.Proofs.YtdlchlbngojljaaDoor.Gl
def bitsN : Nat → (Nat → Bool) → Nat
 | 0, _ => 0
 | n + 1, f => (f 0).toNat + 2 * bitsN n fun k => f (k + 1)
theorem bitsN_lt : ∀ n f, bitsN n f < 2 ^ n
 | 0, _ => by simp [bitsN]
 | n + 1, f => by
  have := bitsN_lt n fun k => f (k + 1)
  have h : (f 0).toNat ≤ 1 := Bool.toNat_le (f 0)
  rw [bitsN, Nat.pow_succ]
  omega
theorem testBit_bitsN : ∀ n f k, (bitsN n f).testBit k = (decide (k < n) && f k)
 | 0, f, k => by simp [bitsN]
 | n + 1, f, 0 => by
  rw [bitsN]
  cases h : f 0 <;> simp [Nat.testBit_zero, Nat.add_mod]
 | n + 1, f, k + 1 => by
  rw [bitsN, Nat.testBit_succ, show ((f 0).toNat + 2 * bitsN n fun k => f (k + 1)) / 2 = bitsN n fun k => f (k + 1) from by
   have h : (f 0).toNat ≤ 1 := Bool.toNat_le (f 0)
   omega]
  rw [testBit_bitsN n _ k]
  simp
/-- The word i of a set. -/
def wd (S : UInt8 → Bool) (i : Nat) : Nat := bitsN 64 fun k => S (UInt8.ofNat (64 * i + k))
theorem wd_lt (S : UInt8 → Bool) (i : Nat) : wd S i < 18446744073709551616 := bitsN_lt 64 _
theorem wd_bit (S : UInt8 → Bool) (i k : Nat) : (wd S i).testBit k = (decide (k < 64) && S (UInt8.ofNat (64 * i + k))) := testBit_bitsN 64 _ k
theorem wd_has (S : UInt8 → Bool) (c : UInt8) : (wd S (c.toNat / 64)).testBit (c.toNat % 64) = S c := by
 rw [wd_bit, decide_eq_true (Nat.mod_lt _ (by decide)), Nat.div_add_mod]
 simp
theorem wd_ext {S : UInt8 → Bool} {i n : Nat} (h : n < 2 ^ 64) (hb : ∀ k, k < 64 → n.testBit k = S (UInt8.ofNat (64 * i + k))) : n = wd S i := by
 apply Nat.eq_of_testBit_eq
 intro k
 rw [wd_bit]
 by_cases hk : k < 64
 ·rw [hb k hk, decide_eq_true hk, Bool.true_and]
 ·rw [decide_eq_false hk, Bool.false_and]
  exact Nat.testBit_lt_two_pow (Nat.lt_of_lt_of_le h (Nat.pow_le_pow_right (by decide) (by omega)))
theorem ofNat_inj8 {x y : Nat} (hx : x < 256) (hy : y < 256) (h : UInt8.ofNat x = UInt8.ofNat y) : x = y := by
 have := congrArg UInt8.toNat h
 simp at this
 omega
theorem wd_add (S : UInt8 → Bool) (b : Nat) (hb : b < 256) : wd S (b / 64) ||| 2 ^ (b % 64) = wd (fun x => S x || x == UInt8.ofNat b) (b / 64) := by
 refine wd_ext (Nat.or_lt_two_pow (wd_lt S _) (Nat.pow_lt_pow_right (by decide) (Nat.mod_lt _ (by decide)))) fun k hk => ?_
 rw [Nat.testBit_or, wd_bit, Nat.testBit_two_pow, decide_eq_true hk, Bool.true_and]
 congr 1
 rw [show (UInt8.ofNat (64 * (b / 64) + k) == UInt8.ofNat b) = decide (b % 64 = k) from ?_]
 rw [Bool.eq_iff_iff]
 simp only [beq_iff_eq, decide_eq_true_eq]
 constructor
 ·intro h
  have := ofNat_inj8 (by omega) hb h
  omega
 ·intro h
  congr 1
  omega
theorem wd_other (S : UInt8 → Bool) (b i : Nat) (hb : b < 256) (hi : i < 4) (h : i ≠ b / 64) : wd (fun x => S x || x == UInt8.ofNat b) i = wd S i := by
 refine wd_ext (wd_lt _ _) fun k hk => ?_
 rw [wd_bit, decide_eq_true hk, Bool.true_and]
 rw [show (UInt8.ofNat (64 * i + k) == UInt8.ofNat b) = false from ?_, Bool.or_false]
 rw [beq_eq_false_iff_ne]
 intro h'
 have := ofNat_inj8 (by omega) hb h'
 omega
theorem wd_both (S T : UInt8 → Bool) (i : Nat) : wd S i &&& wd T i = wd (fun x => S x && T x) i := by
 refine wd_ext (Nat.and_lt_two_pow _ (wd_lt T i)) fun k hk => ?_
 rw [Nat.testBit_and, wd_bit, wd_bit, decide_eq_true hk, Bool.true_and, Bool.true_and]
theorem wd_without (S T : UInt8 → Bool) (i : Nat) : wd S i &&& (18446744073709551615 - wd T i) = wd (fun x => S x && !T x) i := by
 have hT := wd_lt T i
 refine wd_ext (Nat.and_lt_two_pow _ (by omega)) fun k hk => ?_
 rw [Nat.testBit_and, show 18446744073709551615 - wd T i = 2 ^ 64 - (wd T i + 1) from by omega, Nat.testBit_two_pow_sub_succ hT, wd_bit, wd_bit, decide_eq_true hk, Bool.true_and, Bool.true_and, Bool.true_and]
theorem wd_none : ∀ i, wd (fun _ => false) i = 0 := fun i => (wd_ext (S := fun _ => false) (n := 0) (by decide) (by simp)).symm
theorem wd_text0 : wd isText 0 = 18446744069414584320 := by decide +kernel
theorem wd_text1 : wd isText 1 = 9223372036854775807 := by decide +kernel
theorem wd_text2 : wd isText 2 = 0 := by decide +kernel
theorem wd_text3 : wd isText 3 = 0 := by decide +kernel
/-- The lowest bit of a word that is not nought. -/
theorem ctz_bit (x : Nat) (h0 : x ≠ 0) (h : x < 2 ^ 64) : x.testBit (Lib.ctz 64 x) = true ∧ (∀ j, j < Lib.ctz 64 x → x.testBit j = false) ∧ Lib.ctz 64 x < 64 := by
 obtain ⟨m, hm, hk⟩ := Lib.ctzFrom_spec 64 x (by omega) h
 have e : Lib.ctz 64 x = Lib.ctzFrom 64 x := by simp [Lib.ctz, h0]
 rw [e]
 clear e
 revert hm hk
 generalize Lib.ctzFrom 64 x = c
 intro hm hk
 clear h h0
 subst hm
 refine ⟨?_, fun j hj => ?_, hk⟩
 ·rw [Nat.mul_comm, Nat.testBit_mul_two_pow]
  simp [Nat.testBit_zero]
 ·rw [Nat.mul_comm, Nat.testBit_mul_two_pow]
  simp
  omega
/-- The least byte of a set, by its words: the first that is not nought has it. -/
theorem leastS_word (S : UInt8 → Bool) (i : Nat) (hi : i < 4) (h0 : wd S i ≠ 0) (hlow : ∀ j, j < i → wd S j = 0) : leastS S = some (UInt8.ofNat (64 * i + Lib.ctz 64 (wd S i))) := by
 obtain ⟨h1, h2, h3⟩ := ctz_bit (wd S i) h0 (wd_lt S i)
 have hs : S (UInt8.ofNat (64 * i + Lib.ctz 64 (wd S i))) = true := by
  rw [wd_bit, decide_eq_true h3, Bool.true_and] at h1; exact h1
 obtain ⟨c, hc, hSc, hle⟩ := leastS_of hs
 rw [hc]
 refine congrArg some ?_
 have hn : (UInt8.ofNat (64 * i + Lib.ctz 64 (wd S i))).toNat = 64 * i + Lib.ctz 64 (wd S i) := by simp; omega
 rw [hn] at hle
 have hc2 : wd S (c.toNat / 64) ≠ 0 := fun h => by
  have := wd_has S c
  rw [h, hSc] at this
  simp at this
 have hdiv : c.toNat / 64 = i := by
  rcases Nat.lt_or_ge (c.toNat / 64) i with h | h
  ·exact absurd (hlow _ h) hc2
  ·omega
 have hbit := wd_has S c
 rw [hSc, hdiv] at hbit
 have hge : Lib.ctz 64 (wd S i) ≤ c.toNat % 64 := by
  rcases Nat.lt_or_ge (c.toNat % 64) (Lib.ctz 64 (wd S i)) with h | h
  ·rw [h2 _ h] at hbit; simp at hbit
  ·exact h
 apply UInt8.toNat_inj.1
 rw [hn]
 omega
theorem leastS_none (S : UInt8 → Bool) (h : ∀ i, i < 4 → wd S i = 0) : leastS S = none := by
 cases hl : leastS S with
 | none => rfl
 | some c =>
  have h1 := (leastS_some hl).1
  have h2 := wd_has S c
  have h3 := UInt8.toNat_lt c
  rw [h _ (by omega), h1] at h2
  simp at h2
end Go.Proofs.YtdlchlbngojljaaDoor.Gl
