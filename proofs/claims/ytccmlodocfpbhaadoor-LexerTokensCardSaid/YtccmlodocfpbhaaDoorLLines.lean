/- The walk of LexerLines. -/
import Derived.Test.YtccmlodocfpbhaaDoorM
import Derived.Test.YtccmlodocfpbhaaDoorN
import Derived.Test.YtccmlodocfpbhaaDoorP
namespace Go.Proofs.YtccmlodocfpbhaaDoor
open Go.RowKit

theorem Kp.toBelowL {w w' : World} (h : Kp [] w w') : Below w.heap.size w w' := h.below (Nat.le_refl _) (fun _ hx => by simp at hx)
theorem linesN_len : ∀ (m i : Nat) (l : List (List UInt8)), l.length ≤ m → (linesN i l).length ≤ l.length
  | _, i, [], _ => by simp [linesN]
  | m + 1, i, a :: r, h => by
    have hl := contL_len a r
    have ih := linesN_len m (i + 1 + (r.length - (contL a r).2.length)) (contL a r).2 (by simp at h; omega)
    rw [linesN_cons, List.length_append]
    simp only [List.length_cons] at h ⊢
    split
    · simp only [List.length_nil]; omega
    · simp only [List.length_cons, List.length_nil]; omega
theorem linesL_len (s : List UInt8) : (linesL s).length ≤ s.length + 1 := by
  have h1 := (pieces_len s).2
  have h2 := linesN_len (physL s).length 1 (physL s) (Nat.le_refl _)
  have h3 : (physL s).length ≤ (piecesL s).length := by
    unfold physL
    split
    · rw [List.length_dropLast]; omega
    · exact Nat.le_refl _
  unfold linesL
  omega

set_option maxHeartbeats 2000000 in
set_option maxRecDepth 100000 in
theorem lexerLines_list (l : List UInt8) (w : World) (hm : Max w) : Calls Tryd.prog 3 #[.string (bs l)] w fun e w' => e = .returned (.bool true) ∧ Below w.heap.size w w' := by
  have HK := Lib.hid fun W (h : Kp [] w W) => known_any W (hm.kp h (by simp))
  by_cases hl : 2000 < l.length
  · have hz : (2000 : Int) < ((bs l).size : Int) := by rw [bs_size]; omega
    have HK0 := Lib.hid (HK.out w (Kp.refl _ _))
    clear hl hm
    go_enter Tryd.func3, Tryd.ntmps3
    go_wp2_with (go_at_call 10; refine Calls.mono (by with_reducible exact HK0.out) ?_; rintro r w4 ⟨rfl, hk⟩; have HK4 := Lib.hid hk; clear hk)
    go_ret
    exact ⟨rfl, HK4.out.toBelowL⟩
  · have hz : ¬ (2000 : Int) < ((bs l).size : Int) := by rw [bs_size]; omega
    have HL := Lib.hid (lines_any l w hm (by omega))
    have HR := Lib.hid fun W (h : Kp [] w W) => refLines_any l W (hm.kp h (by simp)) (by omega)
    have hn := linesL_len l
    have HS := Lib.hid fun W u v => sameLines_any (w := W) (su := u) (sv := v) (l := linesL l) (by omega)
    clear hl hm hn
    go_enter Tryd.func3, Tryd.ntmps3
    go_wp2_with (first
      | (go_at_call 12; refine Calls.mono (by with_reducible exact HL.out) ?_; rintro r w1 ⟨v1, rfl, ho, hk⟩; have HK1 := Lib.hid hk; have HO1 := Lib.hid ho.has; clear hk ho)
      | (go_at_call 13; refine Calls.mono (by with_reducible exact HR.out _ HK1.out) ?_; rintro r w2 ⟨v2, rfl, ho, hk⟩; have HK2 := Lib.hid (HK1.out.trans hk); have HO2 := Lib.hid ho.has; have HO1b := Lib.hid (HO1.out.kp0 hk); clear hk ho)
      | (go_at_call 11; refine Calls.mono (by with_reducible exact HS.out _ _ _ HO1b.out HO2.out) ?_; rintro r w3 ⟨rfl, hk⟩; have HK3 := Lib.hid (HK2.out.trans hk); clear hk)
      | (go_at_call 10; refine Calls.mono (by with_reducible exact HK.out _ HK3.out) ?_; rintro r w4 ⟨rfl, hk⟩; have HK4 := Lib.hid (HK3.out.trans hk); clear hk))
    go_ret
    exact ⟨rfl, HK4.out.toBelowL⟩
theorem lexerLines_walk (s : ByteArray) (w : World) (hm : Max w) : Calls Tryd.prog 3 #[.string s] w fun e w' => e = .returned (.bool true) ∧ Below w.heap.size w w' := by
  rw [← bs_of s]
  exact lexerLines_list _ w hm
end Go.Proofs.YtccmlodocfpbhaaDoor
