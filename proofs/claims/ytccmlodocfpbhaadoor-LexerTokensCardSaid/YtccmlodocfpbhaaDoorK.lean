/- Lines. -/
import Derived.Test.YtccmlodocfpbhaaDoorJ
import Derived.Test.YtccmlodocfpbhaaDoorF
namespace Go.Proofs.YtccmlodocfpbhaaDoor
open Go.RowKit

theorem cutL_sum (s : List UInt8) : (cutL s).1.length + (cutL s).2.length ≤ s.length := by
  have := congrArg List.length (List.takeWhile_append_dropWhile (p := fun x : UInt8 => x != 10) (l := s))
  rw [List.length_append] at this
  unfold cutL
  simp only [List.length_drop]
  omega
theorem first_len : ∀ (f : Nat) (s : List UInt8), (firstF f s).2.1 + (firstF f s).2.2.length ≤ s.length ∧ (firstF f s).1.length + (firstF f s).2.2.length ≤ s.length
  | 0, s => by simp [firstF]
  | f + 1, s => by
    rw [firstF]
    by_cases h : s = []
    · rw [if_pos h]; simp
    · rw [if_neg h]
      have h1 := cutL_sum s
      have h2 := cutL_len s h
      split
      · have ih := first_len f (cutL s).2
        simp only [List.length_append, List.length_dropLast]
        omega
      · simp only
        omega
theorem kp_grownK {w W w' : World} {v : Value} (h : Kp [] w W) (g : W.grownBy w' v.ownBlock) (hv : ∀ b, v.ownBlock = some b → w.heap.size ≤ b) : Kp [] w w' := by
  cases hb : v.ownBlock with
  | none =>
    rw [hb] at g
    exact h.trans (Kp.of_grown_none g)
  | some b =>
    rw [hb] at g
    exact h.up (Kp.of_grown g) (by intro x hx; simp at hx; subst hx; exact .inr (hv x hb))
theorem ln_push {w W W7 : World} {Nb : Nat} {x : Ln} {v : Value} {xs : List Ln} (hk : Kp [] w W) (ho : lnT.Own W w.heap.size v xs) (hN : W.heap.size = Nb)
    (hW : W.alloc (.cells #[.int .i64 (x.1 : Int), .string (bs x.2)] 53) = W7) : Kp [] w W7 ∧ lnT.Own W7 w.heap.size v xs ∧ W7.rangeAt Nb 0 (lnT.cf x) := by
  have hk1 : Kp [] W W7 := by rw [← hW]; exact (Kp.refl [] _).alloc _
  refine ⟨hk.trans hk1, ho.kp0 hk1, fun m u hu => ?_⟩
  have h := heap_alloc_last W (.cells #[.int .i64 (x.1 : Int), .string (bs x.2)] 53)
  rw [hW, hN] at h
  rw [cell_of_row _ _ _ _ _ _ h, Nat.zero_add]
  simpa [lnT, lnC] using hu

set_option maxHeartbeats 4000000 in
set_option maxRecDepth 100000 in
theorem lines_any (s : List UInt8) (w : World) (hm : Max w) (hl : s.length ≤ 100000) : Calls Tryd.prog 12 #[.string (bs s)] w fun r w' => ∃ v, r = .returned v ∧ lnT.Own w' w.heap.size v (linesL s) ∧ Kp [] w w' := by
  go_enter Tryd.func12, Tryd.ntmps12
  go_wp2
  go_loopg [0, 3, 4] s.length (fun g s0 s3 s4 wx => ∃ t v xs i, s0 = .string (bs t) ∧ v = s3 ∧ s4 = .int .i64 ((i : Nat) : Int) ∧ lnT.Own wx w.heap.size v xs ∧ Kp [] w wx ∧ t.length ≤ g ∧ i + t.length ≤ s.length + 1 ∧ xs.length + t.length ≤ s.length ∧ Hid (xs ++ linesN i (physL t) = linesL s))
  case atStart => exact ⟨s, _, [], 1, rfl, rfl, rfl, RT.Own.nil _ _ _, Kp.refl _ _, Nat.le_refl _, by omega, by simp, Lib.hid rfl⟩
  case round =>
    obtain ⟨t, v, xs, i, rfl, rfl, rfl, hown, hkp, htg, hit, hxt, HL⟩ := hrel
    have HO := Lib.hid hown
    have HK := Lib.hid hkp
    by_cases htn : t = []
    · have hte : (bs t).toList.isEmpty = true := by rw [bs_isEmpty, htn]; rfl
      have HE := Lib.hid (show linesL s = xs by rw [← HL.out, htn]; simp [physL, piecesL, linesN])
      clear hown hkp htn htg hit hxt
      go_wp2
      go_ret
      exact ⟨_, rfl, by rw [HE.out]; exact HO.out, HK.out⟩
    · have hte : (bs t).toList.isEmpty = false := by
        rw [bs_isEmpty]
        cases t with
        | nil => exact absurd rfl htn
        | cons _ _ => rfl
      have htp : 0 < t.length := List.length_pos_iff.2 htn
      obtain ⟨g, rfl⟩ : ∃ g, gk = g + 1 := ⟨gk - 1, by omega⟩
      have HF := Lib.hid (firstLine_any t t.length wr (hm.kp hkp (by simp)) (by omega) (Nat.le_refl _))
      have hn := lines_next i t.length htn (Nat.le_refl _)
      have hfl := first_len t.length t
      have hf4 := (first_spec t.length t htn (Nat.le_refl _)).2.2.2
      obtain ⟨L, n, q, hq⟩ : ∃ L n q, firstF t.length t = (L, n, q) := ⟨_, _, _, rfl⟩
      rw [hq] at HF hn hfl hf4
      simp only at HF hn hfl hf4
      have HB := Lib.hid fun W => isBlank_any L W (by omega)
      have hwn : IntKind.i64.wrap ((i : Int) + (n : Int)) = ((i + n : Nat) : Int) := by rw [IntKind.wrap_i64]; omega
      have HN := Lib.hid (show q.length ≤ g ∧ i + n + q.length ≤ s.length + 1 ∧ xs.length + 1 + q.length ≤ s.length ∧ xs.length ≤ 1000000 by omega)
      have HLN := Lib.hid (HL.out.symm.trans (by rw [hn] : _ = xs ++ ((if blankL L = true then [] else [(i, L)]) ++ linesN (i + n) (physL q))))
      clear hown hkp htn htg hit hxt htp hn hfl hf4 hq
      cases hb : blankL L with
      | true =>
        rw [hb] at HB HLN
        clear hb
        go_wp2_with (first
          | (go_at_call 27; refine Calls.mono (by with_reducible exact HF.out) ?_; rintro r w1 ⟨rfl, hk⟩; have HK1 := Lib.hid (HK.out.trans hk); have HO1 := Lib.hid (HO.out.kp0 hk); clear hk)
          | (go_at_call 28; refine Calls.mono (by with_reducible exact HB.out _) ?_; rintro r w2 ⟨rfl, hk⟩; have HK2 := Lib.hid (HK1.out.trans hk); have HO2 := Lib.hid (HO1.out.kp0 hk); clear hk))
        go_roundg g
        case measure => omega
        case rel =>
          have h := HN.out
          refine ⟨q, v, xs, i + n, rfl, rfl, rfl, HO2.out, HK2.out, h.1, h.2.1, by omega, Lib.hid ?_⟩
          rw [HLN.out]
          simp
      | false =>
        rw [hb] at HB HLN
        clear hb
        go_wp2_with (first
          | (go_at_call 27; refine Calls.mono (by with_reducible exact HF.out) ?_; rintro r w1 ⟨rfl, hk⟩; have HK1 := Lib.hid (HK.out.trans hk); have HO1 := Lib.hid (HO.out.kp0 hk); clear hk)
          | (go_at_call 28; refine Calls.mono (by with_reducible exact HB.out _) ?_; rintro r w2 ⟨rfl, hk⟩; have HK2 := Lib.hid (HK1.out.trans hk); have HO2 := Lib.hid (HO1.out.kp0 hk); clear hk; obtain ⟨Nb, hNb⟩ : ∃ Nb, w2.heap.size = Nb := ⟨_, rfl⟩; obtain ⟨w7, hw7⟩ : ∃ w7, w2.alloc (.cells #[.int .i64 (i : Int), .string (bs L)] 53) = w7 := ⟨_, rfl⟩; have H7 := Lib.hid (ln_push (x := (i, L)) HK2.out HO2.out hNb hw7))
          | (at_builtin; refine wpList_append_r (r := lnT) rfl (.tmp 19) (.tmp 23) rfl w.heap.size v xs rfl H7.out.2.1 Nb 1 (i, L) rfl H7.out.2.2 HN.out.2.2.2 H7.out.1.size ?_; intro v8 w8 hown8 hgr8; have HO8 := Lib.hid hown8; have HK8 := Lib.hid (kp_grownK H7.out.1 hgr8 fun b hb => (H7.out.2.1.ge b hb).1); clear hown8 hgr8))
        go_roundg g
        case measure => omega
        case rel =>
          have h := HN.out
          refine ⟨q, v8, xs ++ [(i, L)], i + n, rfl, rfl, rfl, HO8.out, HK8.out, h.1, h.2.1, by rw [List.length_append, List.length_singleton]; omega, Lib.hid ?_⟩
          rw [HLN.out]
          simp
end Go.Proofs.YtccmlodocfpbhaaDoor
