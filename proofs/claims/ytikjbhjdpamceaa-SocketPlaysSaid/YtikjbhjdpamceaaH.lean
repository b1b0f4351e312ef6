/- The reference's New; the walk of SocketSizes. -/
import Derived.Test.YtikjbhjdpamceaaG
namespace Go.Proofs.Ytikjbhjdpamceaa
open Go.RowKit

set_option maxHeartbeats 1000000 in
set_option maxRecDepth 100000 in
theorem refNew_bad (z : Int) (w : World) (h : z < 1 ∨ 256 < z) : Calls Try.prog 9 #[.int .i64 z] w fun e w' => e = .returned (.tuple #[.agg #[.int .i64 0, .slice none 0 0, .bool false], .int .i64 60]) ∧ Kp [] w w' := by
  by_cases h1 : z < 1
  · have h1' : decide (z < 1) = true := by simpa using h1
    go_enter Try.func9, Try.ntmps9
    go_wp2
    refine bodyPost_ret (v := .tuple #[.agg #[.int .i64 0, .slice none 0 0, .bool false], .int .i64 60]) (by simp [results, Try.results9, go_sem]) rfl ⟨rfl, ?_⟩
    exact (Kp.refl [] w).alloc _
  · have h2 : 256 < z := by omega
    have h1' : decide (z < 1) = false := by simpa using h1
    have h2' : decide (256 < z) = true := by simpa using h2
    go_enter Try.func9, Try.ntmps9
    go_wp2
    refine bodyPost_ret (v := .tuple #[.agg #[.int .i64 0, .slice none 0 0, .bool false], .int .i64 60]) (by simp [results, Try.results9, go_sem]) rfl ⟨rfl, ?_⟩
    exact (Kp.refl [] w).alloc _

set_option maxHeartbeats 1000000 in
set_option maxRecDepth 100000 in
theorem refNew_any (n : Nat) (w : World) (h1 : 1 ≤ n) (h2 : n ≤ 256) : Calls Try.prog 9 #[.int .i64 n] w fun e w' => e = .returned (.tuple #[.agg #[.int .i64 n, .slice none 0 0, .bool false], .int .i64 0]) ∧ Kp [] w w' := by
  have a1 : ¬ ((n : Int) < 1) := by omega
  have a2 : ¬ (256 < (n : Int)) := by omega
  go_enter Try.func9, Try.ntmps9
  go_wp2
  refine bodyPost_ret (v := .tuple #[.agg #[.int .i64 n, .slice none 0 0, .bool false], .int .i64 0]) (by simp [results, Try.results9, go_sem]) rfl ⟨rfl, ?_⟩
  exact (Kp.refl [] w).alloc _

def upTo (i : Nat) : List Ev := (List.range i).map fun j : Nat => evn (j : Int)
theorem upTo_len (i : Nat) : (upTo i).length = i := by simp [upTo]
theorem upTo_succ (i : Nat) : upTo (i + 1) = upTo i ++ [evn (i : Int)] := by simp [upTo, List.range_succ]
def Fill (w0 : World) (sb rb n i : Nat) (w : World) : Prop := Que w sb rb n (upTo i) false ∧ w0.heap.size ≤ sb ∧ w0.heap.size ≤ rb ∧ Kp [] w0 w

set_option maxHeartbeats 2000000 in
set_option maxRecDepth 100000 in
theorem socketSizes_walk (z m : Int) (w : World) : Calls Try.prog 4 #[.int .i64 z, .int .i64 m] w fun e w' => e = .returned (.bool true) ∧ Below w.heap.size w w' := by
  have hcase : (∃ c k : Int, c = 60 ∧ k = 0 ∧ Calls Try.prog 8 #[.int .i64 z] w (fun e w' => ∃ pa : Option Addr, pa = none ∧ e = .returned (.tuple #[.pointer pa, .int .i64 60]) ∧ Kp [] w w') ∧ ∀ W, Calls Try.prog 9 #[.int .i64 z] W (fun e w' => e = .returned (.tuple #[.agg #[.int .i64 k, .slice none 0 0, .bool false], .int .i64 60]) ∧ Kp [] W w')) ∨
      (∃ c k : Int, c = 0 ∧ k = z ∧ Calls Try.prog 8 #[.int .i64 z] w (fun e w' => ∃ pa : Option Addr, (∃ x, pa = some x) ∧ e = .returned (.tuple #[.pointer pa, .int .i64 0]) ∧ Kp [] w w') ∧ ∀ W, Calls Try.prog 9 #[.int .i64 z] W (fun e w' => e = .returned (.tuple #[.agg #[.int .i64 k, .slice none 0 0, .bool false], .int .i64 0]) ∧ Kp [] W w')) := by
    by_cases hz : z < 1 ∨ 256 < z
    · exact .inl ⟨60, 0, rfl, rfl, (new_bad z w hz).mono fun e w' h => by obtain ⟨rfl, rfl⟩ := h; exact ⟨none, rfl, rfl, Kp.refl _ _⟩, fun W => refNew_bad z W hz⟩
    · obtain ⟨n, rfl⟩ : ∃ n : Nat, z = n := ⟨z.toNat, by omega⟩
      exact .inr ⟨0, n, rfl, rfl, (new_any n w (by omega) (by omega)).mono fun e w' h => by obtain ⟨sb, rb, rfl, _, _, _, hk⟩ := h; exact ⟨_, ⟨_, rfl⟩, rfl, hk⟩, fun W => refNew_any n W (by omega) (by omega)⟩
  have hfold := fun W => fold_any m 256 W (by omega) (by omega)
  have HFo := Lib.hid hfold
  clear hfold
  rcases hcase with ⟨c, k, -, -, h1, h2⟩ | ⟨c, k, -, -, h1, h2⟩
  all_goals
    have HN := Lib.hid h1
    have HR := Lib.hid h2
    clear h1 h2
    go_enter Try.func4, Try.ntmps4
    go_wp2_with fail
    refine HN.out.mono ?_
    rintro e w1 ⟨pa, hpa, rfl, hk⟩
    first
      | obtain rfl := hpa
      | obtain ⟨⟨b, o, x⟩, rfl⟩ := hpa
    have K1 := Lib.hid hk
    clear hk
    go_wp2_with fail
    refine (HR.out _).mono ?_
    rintro e w2 ⟨rfl, hk⟩
    have K2 := Lib.hid (K1.out.trans hk)
    clear hk
    go_wp2_with fail
    refine (known_any _).mono ?_
    rintro e w3 ⟨rfl, hk⟩
    have K3 := Lib.hid ((K2.out.alloc _).trans hk)
    clear hk
    go_wp2_with fail
    refine (HFo.out _).mono ?_
    rintro e w4 ⟨r, hr, rfl, rfl⟩
    obtain ⟨q, hq⟩ : ∃ q, r + 1 = q := ⟨_, rfl⟩
    have hwr : IntKind.i64.wrap (1 + (r : Int)) = (q : Int) := by rw [IntKind.wrap_i64]; omega
    have hr1 : 1 ≤ q := by omega
    have hr2 : q ≤ 256 := by omega
    clear hq hr
    go_wp2_with fail
    clear hwr
    refine (new_any q _ hr1 hr2).mono ?_
    rintro e w5 ⟨sb, rb, rfl, hq, hs1, hs2, hk⟩
    have hfill : Fill w sb rb q 0 w5 := ⟨hq, Nat.le_trans K3.out.size hs1, Nat.le_trans K3.out.size hs2, K3.out.trans hk⟩
    have HF0 := Lib.hid hfill
    clear hfill hq hs1 hs2 hk
    go_wp2_with fail
    go_loopw [11] (fun s11 wx => ∃ i : Nat, i ≤ q ∧ s11 = .int .i64 (i : Int) ∧ Fill w sb rb q i wx) (fun s11 _ => q - (intOf s11).toNat)
    case atStart => exact ⟨0, Nat.zero_le _, rfl, HF0.out⟩
    case round =>
      obtain ⟨i, hi, rfl, hq, hs1, hs2, hk⟩ := hrel
      have Q := Lib.hid hq
      have K := Lib.hid hk
      clear hq hk
      by_cases hlt : i < q
      · have hlti : (i : Int) < (q : Int) := by omega
        have hwr : IntKind.i64.wrap ((i : Int) + 1) = ((i + 1 : Nat) : Int) := by rw [IntKind.wrap_i64]; omega
        go_wp2_with fail
        refine (sendn_any i Q.out (by rw [upTo_len]; exact hlt)).mono ?_
        rintro e w6 ⟨rfl, hq, hk⟩
        have hnx : Fill w sb rb q (i + 1) w6 := ⟨by rw [upTo_succ]; exact hq, hs1, hs2, K.out.up hk (by simp; omega)⟩
        have HX := Lib.hid hnx
        clear hnx hq hk
        go_wp2
        exact ⟨⟨i + 1, by omega, rfl, HX.out⟩, by simp [intOf]; omega⟩
      · have hiq : i = q := by omega
        subst hiq
        have hlti : ¬ ((i : Int) < (i : Int)) := by omega
        go_wp2_with fail
        refine (sendn_full 0 Q.out (upTo_len i)).mono ?_
        rintro e w6 ⟨rfl, hq, hk⟩
        have Q2 := Lib.hid hq
        have K2 := Lib.hid (K.out.up hk (by simp; omega))
        clear hq hk
        go_wp2_with fail
        refine (len_any Q2.out).mono ?_
        rintro e w7 ⟨rfl, rfl⟩
        have hli : ((upTo i).length : Int) = (i : Int) := by rw [upTo_len]
        have hwr : IntKind.i64.wrap ((i : Int) + 1) = ((i + 1 : Nat) : Int) := by rw [IntKind.wrap_i64]; omega
        go_wp2_with fail
        clear hli hwr
        refine (receive_any ((i + 1 : Nat) : Int) i Q2.out (by rw [upTo_len]; exact Nat.le_refl _) (by rw [upTo_len]; omega)).mono ?_
        rintro e w8 ⟨g, rfl, hg, hh, hq, hk⟩
        rw [List.drop_of_length_le (by rw [upTo_len]; exact Nat.le_refl _)] at hq
        have Q3 := Lib.hid hq
        have K3 := Lib.hid (K2.out.up hk (by simp; omega))
        clear hq hk hh
        go_wp2_with fail
        refine (len_any Q3.out).mono ?_
        rintro e w9 ⟨rfl, rfl⟩
        go_wp2
        go_ret
        exact ⟨rfl, K3.out.below (Nat.le_refl _) (by simp)⟩
end Go.Proofs.Ytikjbhjdpamceaa
