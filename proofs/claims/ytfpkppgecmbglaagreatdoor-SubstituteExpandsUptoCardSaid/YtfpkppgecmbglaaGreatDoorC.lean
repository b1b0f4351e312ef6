/- Plain facts on searching, cutting, numbers from 1 to 99; which texts are names and keys. -/
import Derived.Test.YtfpkppgecmbglaaGreatDoorB
import Derived.Lib.IndexAny
namespace Go.Proofs.YtfpkppgecmbglaaGreatDoor
open Go.RowKit

theorem index_plain : ∀ s : List UInt8, Lib.indexAny s [36, 37] = if (spanL plainCh s).2 = [] then -1 else ((spanL plainCh s).1.length : Int)
  | [] => rfl
  | b :: l => by
    have ih := index_plain l
    by_cases h : plainCh b = true
    · have hc : ([36, 37] : List UInt8).contains b = false := by
        simp only [plainCh, Bool.and_eq_true, bne_iff_ne] at h
        simp [h.1, h.2]
      have hs : spanL plainCh (b :: l) = (b :: (spanL plainCh l).1, (spanL plainCh l).2) := by rw [spanL, if_pos h]
      rw [Lib.indexAny, hc, hs, ih]
      simp only [Bool.false_eq_true, if_false, List.length_cons]
      split
      · rfl
      · rw [if_neg (by simp)]
        push_cast
        rfl
    · have hc : ([36, 37] : List UInt8).contains b = true := by
        simp only [plainCh, Bool.and_eq_true, bne_iff_ne] at h
        simp
        by_cases h1 : b = 36
        · exact .inl h1
        · right; by_cases h2 : b = 37
          · exact h2
          · exact absurd ⟨h1, h2⟩ h
      have hs : spanL plainCh (b :: l) = ([], b :: l) := by rw [spanL, if_neg h]
      rw [Lib.indexAny, hc, hs]
      simp
def noBr (b : UInt8) : Bool := b != 125
theorem index_brace : ∀ s : List UInt8, Lib.index s [125] = if (spanL noBr s).2 = [] then -1 else ((spanL noBr s).1.length : Int)
  | [] => rfl
  | b :: l => by
    have ih := index_brace l
    by_cases h : noBr b = true
    · have hc : List.isPrefixOf [125] (b :: l) = false := by
        simp only [List.isPrefixOf, Bool.and_true]
        simp only [noBr, bne_iff_ne] at h
        exact beq_eq_false_iff_ne.2 (Ne.symm h)
      have hs : spanL noBr (b :: l) = (b :: (spanL noBr l).1, (spanL noBr l).2) := by rw [spanL, if_pos h]
      rw [Lib.index, hc, hs, ih]
      simp only [Bool.false_eq_true, if_false, List.length_cons]
      split
      · rfl
      · rw [if_neg (by simp)]
        push_cast
        rfl
    · have hb : b = 125 := by simpa [noBr] using h
      subst hb
      rfl
theorem cut_brace (s : List UInt8) : Lib.cut s [125] = match (spanL noBr s).2 with
    | [] => (s, [], false)
    | _ :: r => ((spanL noBr s).1, r, true) := by
  have hi := index_brace s
  have he := (spanL_eq noBr s).1
  unfold Lib.cut
  cases h : (spanL noBr s).2 with
  | nil =>
    rw [h, if_pos rfl] at hi
    simp [hi]
  | cons b r =>
    rw [h, if_neg (by simp)] at hi
    rw [h] at he
    simp only [hi]
    rw [if_pos (by omega)]
    have e1 : s.take (spanL noBr s).1.length = (spanL noBr s).1 := by
      generalize (spanL noBr s).1 = x at he
      rw [← he, List.take_left' rfl]
    have e2 : s.drop ((spanL noBr s).1.length + 1) = r := by
      generalize (spanL noBr s).1 = x at he
      rw [← he, ← List.drop_drop, List.drop_left' rfl]
      rfl
    simp [e1, e2]
theorem braceL_cut (s : List UInt8) : braceL (123 :: s) = if (Lib.cut s [125]).2.2 then some ((Lib.cut s [125]).1, (Lib.cut s [125]).2.1) else none := by
  have e : (fun b : UInt8 => b != 125) = noBr := rfl
  rw [cut_brace, braceL, e]
  cases h : (spanL noBr s).2 <;> simp
theorem braceL_no {s : List UInt8} (h : s.head? ≠ some 123) : braceL s = none := by
  match s with
  | [] => rfl
  | b :: s =>
    have hb : b ≠ 123 := fun e => h (by rw [e]; rfl)
    unfold braceL
    split
    · rename_i e
      cases e
      exact absurd rfl hb
    · rfl
/-- Numbers as strconv spells them. -/
theorem itoa_dec : ∀ n : Nat, n < 99 → Lib.itoa ((n + 1 : Nat) : Int) = decN (n + 1) ∧ Lib.atoiAll (decN (n + 1)) = .ok ((n + 1 : Nat) : Int) := by
  intro n hn
  have h := List.all_eq_true.1 (show ((List.range 99).all fun n => decide (Lib.itoa ((n + 1 : Nat) : Int) = decN (n + 1)) && (match Lib.atoiAll (decN (n + 1)) with | .ok v => decide (v = ((n + 1 : Nat) : Int)) | _ => false)) = true by decide +kernel) n (List.mem_range.2 hn)
  rw [Bool.and_eq_true] at h
  refine ⟨by simpa using h.1, ?_⟩
  have h2 := h.2
  split at h2
  · rename_i v hv
    have : v = ((n + 1 : Nat) : Int) := by simpa using h2
    rw [hv, this]
  · cases h2
theorem numN_inv {s : List UInt8} {n : Nat} (h : numN s = some n) : s = decN n := by
  have u : ∀ (a : UInt8) (k : Nat), a.toNat = k → a = UInt8.ofNat k := fun a k e => by rw [← e]; simp
  unfold numN at h
  split at h
  · rename_i a
    split at h
    · rename_i hc
      cases h
      unfold decN
      rw [if_pos (by omega), show 48 + (a.toNat - 48) = a.toNat by omega]
      simp
    · cases h
  · rename_i a b
    split at h
    · rename_i hc
      cases h
      unfold decN
      rw [if_neg (by omega), show 48 + (10 * (a.toNat - 48) + (b.toNat - 48)) / 10 = a.toNat by omega, show 48 + (10 * (a.toNat - 48) + (b.toNat - 48)) % 10 = b.toNat by omega]
      simp
    · cases h
  · cases h
/-- The number that wordNumber reads. -/
def wnum (s : List UInt8) : Int := match Lib.atoiAll s with
  | .ok v => if Lib.itoa v = s then v else 0
  | _ => 0
theorem wnum_some {s : List UInt8} {n : Nat} (h : numN s = some n) : wnum s = n := by
  have hl := numN_le h
  have e := numN_inv h
  obtain ⟨k, rfl⟩ : ∃ k, n = k + 1 := ⟨n - 1, by omega⟩
  obtain ⟨h1, h2⟩ := itoa_dec k (by omega)
  subst e
  unfold wnum
  rw [h2]
  simp only
  rw [if_pos h1]
theorem wnum_none {s : List UInt8} (h : numN s = none) : ¬ (0 < wnum s ∧ wnum s ≤ 99) := by
  rintro ⟨h1, h2⟩
  unfold wnum at h1 h2
  split at h1
  · rename_i v hv
    split at h1
    · rename_i hi
      rw [hv] at h2
      simp only [if_pos hi] at h2
      obtain ⟨k, rfl⟩ : ∃ k : Nat, v = ((k + 1 : Nat) : Int) := ⟨v.toNat - 1, by omega⟩
      rw [(itoa_dec k (by omega)).1] at hi
      rw [← hi, numN_decN (by omega) (by omega)] at h
      cases h
    · omega
  · omega
def nmB (s : List UInt8) : Bool := Nm.nameB Nm.NameSet s
def kyB (s : List UInt8) : Bool := Nm.keyB s
def txB (s : List UInt8) : Bool := Nm.textB s
theorem all_no {S s : List UInt8} (h : Nm.allIn S s = true) (hS : S.contains 125 = false) : s.all (fun b => b != 125) = true := by
  unfold Nm.allIn at h
  rw [List.all_eq_true] at h ⊢
  intro b hb
  have := h b hb
  rw [bne_iff_ne]
  rintro rfl
  rw [hS] at this
  cases this
theorem nmB_no (s : List UInt8) (h : nmB s = true) : s.all (fun b => b != 125) = true := by
  unfold nmB Nm.nameB at h
  simp only [Bool.and_eq_true] at h
  exact all_no h.2 (by decide)
theorem kyB_no (s : List UInt8) (h : kyB s = true) : s.all (fun b => b != 125) = true := by
  unfold kyB at h
  cases s with
  | nil => rfl
  | cons c r =>
    simp only [Nm.keyB, Bool.and_eq_true] at h
    exact all_no h.2 (by decide)
theorem nmB_len {s : List UInt8} (h : nmB s = true) : s.length ≤ 32 := by
  unfold nmB Nm.nameB at h
  simp only [Bool.and_eq_true, decide_eq_true_eq] at h
  exact h.1.1.2
theorem kyB_len {s : List UInt8} (h : kyB s = true) : s.length ≤ 32 := by
  unfold kyB at h
  cases s with
  | nil => simp
  | cons c r =>
    simp only [Nm.keyB, Bool.and_eq_true, decide_eq_true_eq] at h
    exact h.1.1
theorem text_ch : (fun c : UInt8 => Nm.TextSet.contains c) = prCh := funext fun b => by
  have := List.all_eq_true.1 (show ((List.range 256).all fun n => Nm.TextSet.contains (UInt8.ofNat n) == prCh (UInt8.ofNat n)) = true by decide +kernel) b.toNat (List.mem_range.2 (UInt8.toNat_lt b))
  simpa using this
theorem txB_eq (s : List UInt8) : txB s = (decide (s.length ≤ 256) && s.all prCh) := by
  unfold txB Nm.textB Nm.allIn
  rw [text_ch]
theorem pr_lt {b : UInt8} (h : prCh b = true) : b.toNat < 128 := by
  have := List.all_eq_true.1 (show ((List.range 256).all fun n => !prCh (UInt8.ofNat n) || decide (n < 128)) = true by decide +kernel) b.toNat (List.mem_range.2 (UInt8.toNat_lt b))
  simp [h] at this
  exact this
theorem text_any (s : List UInt8) (w : World) (hs : s.length ≤ 1000000000000) : Calls Tryz.prog 29 #[.string (bs s)] w fun e w' => e = .returned (.bool (txB s)) ∧ Kp [] w w' :=
  (Nm.text_any (bs s) w (by rw [bs_size]; omega)).mono fun _ _ ⟨h1, h2⟩ => ⟨h1, Kp.of_below h2⟩
theorem valid_any (s : List UInt8) (w : World) (hs : s.length ≤ 1000000000000) : Calls Tryz.prog 68 #[.string (bs s)] w fun e w' => e = .returned (.bool (nmB s)) ∧ Kp [] w w' :=
  (Nm.valid_any (bs s) w (by rw [bs_size]; omega)).mono fun _ _ ⟨h1, h2⟩ => ⟨h1, Kp.of_below h2⟩
theorem key_any (s : List UInt8) (w : World) (hs : s.length ≤ 1000000000000) : Calls Tryz.prog 69 #[.string (bs s)] w fun e w' => e = .returned (.bool (kyB s)) ∧ Kp [] w w' :=
  (Nm.key_any (bs s) w (by rw [bs_size]; omega)).mono fun _ _ ⟨h1, h2⟩ => ⟨h1, Kp.of_below h2⟩
end Go.Proofs.YtfpkppgecmbglaaGreatDoor
