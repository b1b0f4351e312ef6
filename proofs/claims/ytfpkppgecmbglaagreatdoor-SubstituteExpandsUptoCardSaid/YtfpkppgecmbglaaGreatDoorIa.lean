/- The reference's braces, count, kind. -/
import Derived.Test.YtfpkppgecmbglaaGreatDoorI
import Derived.BigQuiet
import Derived.OwnWalk
namespace Go.Proofs.YtfpkppgecmbglaaGreatDoor
open Go.RowKit

theorem indexByte_span (c : UInt8) : ∀ s : List UInt8, Lib.indexByte s c = if (spanL (fun b => b != c) s).2 = [] then -1 else ((spanL (fun b => b != c) s).1.length : Int)
  | [] => rfl
  | b :: l => by
    have ih := indexByte_span c l
    rw [Lib.indexByte, spanL, ih]
    by_cases h : b = c
    · subst h
      simp
    · have h1 : (b == c) = false := by simpa using h
      have h2 : (b != c) = true := by simp [h]
      rw [h1, if_pos h2]
      simp only [Bool.false_eq_true, if_false]
      by_cases he : (spanL (fun b => b != c) l).2 = []
      · simp [he]
      · have : (((spanL (fun b => b != c) l).1.length : Int) == -1) = false := by
          rw [beq_eq_false_iff_ne]
          omega
        rw [if_neg he, if_neg he, this]
        simp [List.length_cons]
theorem toL0 (s : List UInt8) : (bs s).toList = s := by rw [Lib.toList_data, bs_data]
/-- What braces answers. -/
def braV (s : List UInt8) : Value := match braceL s with
  | some x => .tuple #[.string (bs x.1), .string (bs x.2), .bool true]
  | none => .tuple #[.string (bs []), .string (bs s), .bool false]
set_option maxRecDepth 100000 in
set_option maxHeartbeats 2000000 in
theorem refBraces_any (s : List UInt8) (hs : s.length ≤ 1000000000) (w : World) : Calls Tryz.prog 65 #[.string (bs s)] w fun e w' => e = .returned (braV s) ∧ Kp [] w w' := by
  cases s with
  | nil =>
    have h0 : (bs []).toList.isEmpty = true := by rw [toL0]; rfl
    go_enter Tryz.func65, Tryz.ntmps65
    go_wp2
    go_ret3
    exact ⟨rfl, Kp.refl _ _⟩
  | cons b t =>
    rw [List.length_cons] at hs
    have h0 : (bs (b :: t)).toList.isEmpty = false := by rw [toL0]; rfl
    have hsz : (bs (b :: t)).size = t.length + 1 := rfl
    have hz : 0 < (bs (b :: t)).size := by omega
    have hg : (bs (b :: t))[0]'hz = b := rfl
    by_cases hb : b = 123
    · subst hb
      have hi := Tryz.strings_IndexByte (bs (123 :: t)) 125
      rw [bs_data, show ((125 : Int).toNat.toUInt8) = 125 from rfl, indexByte_span, show spanL (fun b => b != 125) (123 :: t) = (123 :: (spanL (fun b => b != 125) t).1, (spanL (fun b => b != 125) t).2) from rfl] at hi
      have hE := spanL_eq (fun b => b != 125) t
      obtain ⟨x, hx⟩ : ∃ x, (spanL (fun b => b != 125) t).1 = x := ⟨_, rfl⟩
      rw [hx] at hi hE
      cases hr : (spanL (fun b => b != 125) t).2 with
      | nil =>
        rw [hr] at hi
        simp only [if_true] at hi
        have HI := Lib.hid hi
        rw [show braV (123 :: t) = .tuple #[.string (bs []), .string (bs (123 :: t)), .bool false] by unfold braV braceL; simp only [hr]]
        clear hi hE hx hr
        go_enter Tryz.func65, Tryz.ntmps65
        go_wp2_with (go_at_call 34; refine Calls.mono (by with_reducible exact HI.out _) ?_; rintro e w1 ⟨rfl, hk1⟩; subst hk1)
        go_ret3
        exact ⟨rfl, Kp.refl _ _⟩
      | cons c r =>
        rw [hr] at hi hE
        simp only [reduceCtorEq, if_false, List.length_cons] at hi
        rw [show braV (123 :: t) = .tuple #[.string (bs x), .string (bs r), .bool true] by unfold braV braceL; simp only [hr, hx]]
        have hl : x.length + (c :: r).length = t.length := by rw [← hE.1, List.length_append]
        rw [List.length_cons] at hl
        obtain ⟨n, hn⟩ : ∃ n, x.length + 1 = n := ⟨_, rfl⟩
        rw [hn] at hi
        have HI := Lib.hid hi
        have hwn : IntKind.i64.wrap ((n : Int) + 1) = ((n + 1 : Nat) : Int) := by rw [IntKind.wrap_i64]; omega
        have hq1 : 1 ≤ n := by omega
        have hq2 : n ≤ (bs (123 :: t)).size := by omega
        have hq3 : n + 1 ≤ (bs (123 :: t)).size := by omega
        have e1 : (bs (123 :: t)).extract 1 n = bs x := by
          rw [bs_mid, ← hE.1, ← hn, List.take_succ_cons, List.drop_succ_cons, List.drop_zero, List.take_left' rfl]
        have e2 : (bs (123 :: t)).extract (n + 1) (bs (123 :: t)).size = bs r := by
          rw [bs_drop, ← hE.1, ← hn, List.drop_succ_cons, show x.length + 1 = x.length + 1 from rfl, ← List.drop_drop, List.drop_left' rfl]
          rfl
        have e2' : (bs (123 :: t)).extract (n + 1) (t.length + 1) = bs r := e2
        have hnz : ¬ ((n : Int) < 0) := by omega
        clear hi hE hx hr hl hn
        go_enter Tryz.func65, Tryz.ntmps65
        go_wp2_with (go_at_call 34; refine Calls.mono (by with_reducible exact HI.out _) ?_; rintro e w1 ⟨rfl, hk1⟩; subst hk1)
        go_quiet (fail)
        go_wp2
        go_ret3
        exact ⟨rfl, (Kp.refl _ _).drew _⟩
    · have hbn : ((b.toNat : Int) == 123) = false := by
        rw [beq_eq_false_iff_ne]
        intro e
        exact hb (UInt8.toNat_inj.1 (by have h3 : (123 : UInt8).toNat = 123 := rfl; omega))
      have hV : braV (b :: t) = .tuple #[.string (bs []), .string (bs (b :: t)), .bool false] := by
        unfold braV braceL
        split
        · rename_i h
          split at h
          · rename_i h2
            exact absurd (List.cons.inj h2).1 hb
          · cases h
        · rfl
      rw [hV]
      clear hV
      go_enter Tryz.func65, Tryz.ntmps65
      go_wp2
      go_ret3
      exact ⟨rfl, Kp.refl _ _⟩
/-- What count answers. -/
def cntV (s : List UInt8) : Value := match countL s with
  | some c => .tuple #[.int .i64 (c.1 : Int), .bool c.2, .bool true]
  | none => .tuple #[.int .i64 0, .bool false, .bool false]
theorem trim43 (l : List UInt8) (w : World) (hl : l.length ≤ 1000000000000) : Calls Tryz.prog 108 #[.string (bs l), .string ⟨#[43]⟩] w fun r w' => r = .returned (.string (bs (plusL l))) ∧ w = w' := by
  have h := Tryz.strings_TrimSuffix (bs l) ⟨#[43]⟩ w (by rw [bs_size]; omega)
  rw [bs_data, show (⟨#[43]⟩ : ByteArray).data.toList = [43] from rfl] at h
  have e : (⟨(Lib.trimSuffix l [43]).toArray⟩ : ByteArray) = bs (plusL l) := by
    unfold Lib.trimSuffix plusL
    rw [suffix_one]
    by_cases hp : l.getLast? = some 43
    · rw [if_pos (by simpa using hp), if_pos hp, List.dropLast_eq_take]
      rfl
    · rw [if_neg (by simpa using hp), if_neg hp]
      rfl
  rw [e] at h
  exact h.mono fun _ _ ⟨h1, h2⟩ => ⟨h1, h2.symm⟩
theorem suf43 (l : List UInt8) (w : World) (hl : l.length ≤ 1000000000000) : Calls Tryz.prog 107 #[.string (bs l), .string ⟨#[43]⟩] w fun r w' => r = .returned (.bool (l.getLast? == some 43)) ∧ w = w' := by
  have h := Tryz.strings_HasSuffix (bs l) ⟨#[43]⟩ w (by rw [bs_size]; omega)
  rw [bs_data, show (⟨#[43]⟩ : ByteArray).data.toList = [43] from rfl, suffix_one] at h
  exact h.mono fun _ _ ⟨h1, h2⟩ => ⟨h1, h2.symm⟩
theorem itoa_num {s : List UInt8} (m : Int) (h1 : 1 ≤ m) (h2 : m ≤ 99) : Lib.itoa m = s ↔ numN s = some m.toNat := by
  obtain ⟨k, rfl⟩ : ∃ k : Nat, m = ((k + 1 : Nat) : Int) := ⟨m.toNat - 1, by omega⟩
  obtain ⟨e, _⟩ := itoa_dec k (by omega)
  rw [e, Int.toNat_natCast]
  constructor
  · rintro rfl
    exact numN_decN (by omega) (by omega)
  · intro h
    exact (numN_inv h).symm
set_option maxRecDepth 100000 in
set_option maxHeartbeats 2000000 in
theorem refCount_any {w : World} (hE : Env w) (s : List UInt8) (hs : s.length ≤ 1000000000) : Calls Tryz.prog 66 #[.string (bs s)] w fun e w' => e = .returned (cntV s) ∧ Kp [] w w' := by
  have HI := Lib.hid fun (z : Int) (h1 : -1000 ≤ z) (h2 : z ≤ 1000) (W : World) (h : Kp [] w W) => itoa_any (hE.kp0 h) z (by omega) (by omega)
  have HS := Lib.hid fun W => suf43 s W (by omega)
  have HT := Lib.hid fun W => trim43 s W (by omega)
  obtain ⟨V, hV⟩ : ∃ V, cntV s = V := ⟨_, rfl⟩
  obtain ⟨z, hz⟩ : ∃ z, plusL s = z := ⟨_, rfl⟩
  obtain ⟨pl, hpl⟩ : ∃ b, (s.getLast? == some 43) = b := ⟨_, rfl⟩
  have hcv : ∀ x, numN z = x → V = (match x with | some n => Value.tuple #[.int .i64 (n : Int), .bool pl, .bool true] | none => .tuple #[.int .i64 0, .bool false, .bool false]) := fun x hx => by
    rw [← hV]
    unfold cntV
    rw [countL_eq, hz, hx, hpl]
    cases x <;> rfl
  have HY := Lib.hid fun (m : Int) (h1 : 1 ≤ m) (h2 : m ≤ 99) (h : Lib.itoa m = z) => (show V = Value.tuple #[.int .i64 m, .bool pl, .bool true] from by
    rw [hcv _ ((itoa_num m h1 h2).1 h)]
    simp only [Int.toNat_of_nonneg (show 0 ≤ m by omega)])
  have HN := Lib.hid fun (h : ∀ j : Int, 1 ≤ j → j < 100 → Lib.itoa j ≠ z) => (show V = Value.tuple #[.int .i64 0, .bool false, .bool false] from by
    cases hx : numN z with
    | none => exact hcv _ hx
    | some n =>
      have hl := numN_le hx
      exact absurd ((itoa_num (n : Int) (by omega) (by omega)).2 (by rw [hx]; rfl)) (h _ (by omega) (by omega)))
  rw [hz] at HT
  rw [hpl] at HS
  rw [hV]
  clear hcv hV hz hpl hE
  go_enter Tryz.func66, Tryz.ntmps66
  go_wp2_with (first
    | (go_at_call 107; refine Calls.mono (by with_reducible exact HS.out _) ?_; rintro e w1 ⟨rfl, hk1⟩; subst hk1)
    | (go_at_call 108; refine Calls.mono (by with_reducible exact HT.out _) ?_; rintro e w1 ⟨rfl, hk1⟩; subst hk1))
  go_loopw [6] (fun s6 wx => ∃ m : Int, s6 = .int .i64 m ∧ 1 ≤ m ∧ m ≤ 100 ∧ (∀ j : Int, 1 ≤ j → j < m → Lib.itoa j ≠ z) ∧ Kp [] w wx) (fun s6 _ => (100 - intOf s6).toNat)
  case atStart => exact ⟨1, rfl, by omega, by omega, fun j h1 h2 => by omega, Kp.refl _ _⟩
  case round =>
    obtain ⟨m, rfl, h1, h2, hn, hk⟩ := hrel
    have HNN := Lib.hid hn
    have HK := Lib.hid hk
    clear hn
    by_cases hz : m = 100
    · subst hz
      obtain rfl := HN.out HNN.out
      clear h1 h2 hk
      go_wp2
      go_ret3
      exact ⟨rfl, HK.out⟩
    have hz2 : m ≤ 99 := by omega
    have hwz : IntKind.i64.wrap (m + 1) = m + 1 := by rw [IntKind.wrap_i64]; omega
    have HC := Lib.hid (HI.out m (by omega) (by omega) _ hk)
    have hs := str_eq (Lib.itoa m) z
    have HYY := Lib.hid (HY.out m h1 hz2)
    have H1 := Lib.hid h1
    have hst := fun (h : (Lib.itoa m == z) = false) (j : Int) (q1 : 1 ≤ j) (q2 : j < m + 1) => (show Lib.itoa j ≠ z from by
      by_cases q : j = m
      · subst q
        simpa using h
      · exact HNN.out j q1 (by omega))
    have HST := Lib.hid hst
    clear hst h1 h2 hk
    generalize bs (Lib.itoa m) = q at *
    cases hb : (Lib.itoa m == z) with
    | true =>
      rw [hb] at hs
      obtain rfl := HYY.out (by simpa using hb)
      clear hb
      go_wp2_with (go_at_call 71; refine Calls.mono (by with_reducible exact HC.out) ?_; rintro e w1 ⟨rfl, hk1⟩; have HK1 := Lib.hid (HK.out.trans hk1); clear hk1)
      go_ret3
      exact ⟨rfl, HK1.out⟩
    | false =>
      rw [hb] at hs
      have HS2 := Lib.hid (HST.out hb)
      clear hb
      go_wp2_with (go_at_call 71; refine Calls.mono (by with_reducible exact HC.out) ?_; rintro e w1 ⟨rfl, hk1⟩; have HK1 := Lib.hid (HK.out.trans hk1); clear hk1)
      exact ⟨⟨m + 1, rfl, by have := H1.out; omega, by omega, HS2.out, HK1.out⟩, by simp only [intOf]; omega⟩
def wdsA : Array Value := #[.string ⟨#[]⟩, .string ⟨#[]⟩, .string ⟨#[107, 101, 114, 110, 101, 108]⟩, .string ⟨#[110, 117, 109, 98, 101, 114]⟩, .string ⟨#[100, 101, 118, 112, 97, 116, 104]⟩, .string ⟨#[105, 100]⟩, .string ⟨#[100, 114, 105, 118, 101, 114]⟩, .string ⟨#[97, 116, 116, 114]⟩, .string ⟨#[101, 110, 118]⟩, .string ⟨#[114, 101, 115, 117, 108, 116]⟩, .string ⟨#[112, 97, 114, 101, 110, 116]⟩, .string ⟨#[110, 97, 109, 101]⟩]
theorem refWds_any (w : World) : Calls Tryz.prog 46 #[] w fun r w' => r = .returned (.slice (some ⟨w.heap.size, 0, none⟩) 12 12) ∧ w' = w.alloc (.cells wdsA 9) := by
  go_enter Tryz.func46, Tryz.ntmps46
  go_wp2
  go_ret
  exact ⟨rfl, rfl⟩
theorem words_cell {w W : World} (hk : Kp [] (w.alloc (.cells wdsA 9)) W) {j : Nat} (h : j < 12) : W.cell? ⟨w.heap.size, j, none⟩ = some (.string (bs (wordOf j))) := by
  have hb := (hk.block w.heap.size (by simp) (by simp)).trans (heap_alloc_last w (.cells wdsA 9))
  rw [cell_of_row _ _ _ _ _ _ hb]
  match j, h with
  | 0, _ => rfl
  | 1, _ => rfl
  | 2, _ => rfl
  | 3, _ => rfl
  | 4, _ => rfl
  | 5, _ => rfl
  | 6, _ => rfl
  | 7, _ => rfl
  | 8, _ => rfl
  | 9, _ => rfl
  | 10, _ => rfl
  | 11, _ => rfl
set_option maxRecDepth 100000 in
set_option maxHeartbeats 2000000 in
theorem refKind_any (s : List UInt8) (w : World) : Calls Tryz.prog 35 #[.string (bs s)] w fun e w' => e = .returned (.int .i64 (kindOfWord s : Int)) ∧ Kp [] w w' := by
  obtain ⟨K, hK⟩ : ∃ K, kindOfWord s = K := ⟨_, rfl⟩
  have HY := Lib.hid fun (m : Nat) (h1 : 2 ≤ m) (h2 : m ≤ 11) (h : wordOf m = s) => (show K = m by rw [← hK, ← h]; exact (kindOfWord_of h1 h2).1)
  have HN := Lib.hid fun (h : ∀ j, 2 ≤ j → j < 12 → wordOf j ≠ s) => (show K = 0 by
    rw [← hK]
    rcases kindOfWord_le s with h0 | ⟨h1, h2, h3⟩
    · exact h0
    · exact absurd h3 (h _ h1 (by omega)))
  rw [hK]
  clear hK
  have HW := Lib.hid (refWds_any w)
  obtain ⟨W0, hW0⟩ : ∃ W0, w.alloc (.cells wdsA 9) = W0 := ⟨_, rfl⟩
  have HC := Lib.hid fun W (h : Kp [] W0 W) j (hj : j < 12) => words_cell (w := w) (W := W) (by rw [hW0]; exact h) hj
  have HK0 := Lib.hid (show Kp [] w W0 by rw [← hW0]; exact (Kp.refl [] w).alloc _)
  rw [hW0] at HW
  obtain ⟨B, hB⟩ : ∃ B, w.heap.size = B := ⟨_, rfl⟩
  rw [hB] at HW HC
  clear hW0 hB
  go_enter Tryz.func35, Tryz.ntmps35
  go_wp2_with (go_at_call 46; refine Calls.mono (by with_reducible exact HW.out) ?_; rintro e w1 ⟨rfl, hk1⟩; have hk2 := hk1.symm; subst hk2; clear hk1)
  go_loopw [4] (fun s4 wx => ∃ m : Nat, s4 = .int .i64 (m : Int) ∧ 2 ≤ m ∧ m ≤ 12 ∧ (∀ j, 2 ≤ j → j < m → wordOf j ≠ s) ∧ Kp [] W0 wx) (fun s4 _ => (12 - intOf s4).toNat)
  case atStart => exact ⟨2, rfl, by omega, by omega, fun j h1 h2 => by omega, Kp.refl _ _⟩
  case round =>
    obtain ⟨m, rfl, h1, h2, hn, hk⟩ := hrel
    have HNN := Lib.hid hn
    have HK := Lib.hid (HK0.out.trans hk)
    have HK2 := Lib.hid hk
    clear hn
    by_cases hz : m = 12
    · subst hz
      obtain rfl := HN.out HNN.out
      clear h1 h2 hk
      go_wp2
      go_ret
      exact ⟨rfl, HK.out⟩
    have hlt : m < 12 := by omega
    have hlz : (m : Int) < 12 := by omega
    have c0 := HC.out _ hk m hlt
    have hwz : IntKind.i64.wrap ((m : Int) + 1) = ((m + 1 : Nat) : Int) := by rw [IntKind.wrap_i64]; omega
    have hs := str_eq (wordOf m) s
    have HYY := Lib.hid (HY.out m h1 (by omega))
    have H1 := Lib.hid h1
    have hst := fun (h : (wordOf m == s) = false) (j : Nat) (q1 : 2 ≤ j) (q2 : j < m + 1) => (show wordOf j ≠ s from by
      by_cases q : j = m
      · subst q
        simpa using h
      · exact HNN.out j q1 (by omega))
    have HST := Lib.hid hst
    have HZ := Lib.hid hz
    clear hst h1 h2 hk hz
    generalize bs (wordOf m) = q at *
    cases hb : (wordOf m == s) with
    | true =>
      rw [hb] at hs
      obtain rfl := HYY.out (by simpa using hb)
      clear hb
      go_wp2
      go_ret
      exact ⟨rfl, HK.out⟩
    | false =>
      rw [hb] at hs
      have HS2 := Lib.hid (HST.out hb)
      clear hb
      go_wp2
      exact ⟨⟨m + 1, rfl, by have := H1.out; omega, by omega, HS2.out, HK2.out⟩, by simp only [intOf]; omega⟩
end Go.Proofs.YtfpkppgecmbglaaGreatDoor
