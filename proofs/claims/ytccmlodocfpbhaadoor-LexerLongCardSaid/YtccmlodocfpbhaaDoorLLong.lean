/- The walk of LexerLong. -/
import Derived.Test.YtccmlodocfpbhaaDoorM
import Derived.Test.YtccmlodocfpbhaaDoorD
namespace Go.Proofs.YtccmlodocfpbhaaDoor
open Go.RowKit

theorem rep_one (c : Nat) : Lib.repeatL [120] c = List.replicate c 120 := by
  induction c with
  | zero => rfl
  | succ c ih => rw [Lib.repeatL, ih, List.replicate_succ]; rfl
def longT (n : Nat) : Tok := ⟨[65], [], [61], List.replicate (1016 + n) 120⟩
theorem long_good (n : Nat) : Good (longT n) := by
  refine ⟨by simp [longT], rfl, rfl, by simp [longT, opsL], ?_, ?_⟩
  · exact List.all_eq_true.2 fun b hb => by rw [(List.mem_replicate.1 hb).2]; rfl
  · simp [longT, List.getLast?_replicate]
theorem fmtV_rep (m : Nat) : fmtV (List.replicate m 120) = List.replicate m 120 := by
  induction m with
  | zero => rfl
  | succ m ih => rw [List.replicate_succ, fmtV_cons, ih]; rfl
theorem long_fmt (n : Nat) : fmtT (longT n) = 65 :: 61 :: 34 :: (List.replicate (1016 + n) 120 ++ [34]) := by
  unfold fmtT longT
  simp only [fmtV_rep]
  rfl
theorem long_tokens (n : Nat) : tokensE (fmtT (longT n)) = if 4 < n then ([], 81) else ([longT n], 0) := by
  have hl : (fmtT (longT n)).length = 1020 + n := by rw [long_fmt]; simp; omega
  have ha : (fmtT (longT n)).all lnCh = true := by
    rw [long_fmt]
    simp only [List.all_cons, List.all_append, List.all_nil, Bool.and_true]
    rw [show (List.replicate (1016 + n) (120 : UInt8)).all lnCh = true from List.all_eq_true.2 fun b hb => by rw [(List.mem_replicate.1 hb).2]; rfl]
    rfl
  have ht := tokensL_fmt (l := [longT n]) (fun x hx => by rw [List.mem_singleton.1 hx]; exact long_good n)
  unfold tokensE
  rw [hl, show fmtL [longT n] = fmtT (longT n) from rfl] at *
  by_cases h : 4 < n
  · rw [if_pos (by omega), if_pos h]
  · rw [if_neg (by omega), if_neg h, if_neg (by rw [ha]; simp), ht]

theorem rep_any (n : Nat) (w : World) (h : n < 9) : Calls Tryd.prog 19 #[.string ⟨#[120]⟩, .int .i64 (1016 + (n : Int))] w fun r w' => r = .returned (.string (bs (List.replicate (1016 + n) 120))) ∧ Kp [] w w' := by
  have h := Tryd.strings_Repeat ⟨#[120]⟩ (1016 + n) w (by omega) (by rw [show (⟨#[120]⟩ : ByteArray).size = 1 from rfl]; omega)
  rw [show (⟨#[120]⟩ : ByteArray).data.toList = [120] from rfl, rep_one, show ((1016 + n : Nat) : Int) = 1016 + (n : Int) by omega] at h
  exact h.mono fun _ _ ⟨h1, h2⟩ => ⟨h1, Kp.of_below h2⟩
theorem toks1 {w : World} {v : Value} {a : Tok} (h : tokT.Has w v [a]) : ∃ blk o c, v = .slice (some ⟨blk, o, none⟩) 1 c ∧ w.cell? ⟨blk, o + 3, none⟩ = some (.string (bs a.val)) := by
  rcases h with ⟨_, _, _, hn⟩ | ⟨blk, o, c, rfl, _, hr⟩
  · cases hn
  · exact ⟨blk, o, c, rfl, (tokRow hr (j := 0) rfl).2.2.2⟩
theorem Kp.toBelow {w w' : World} (h : Kp [] w w') : Below w.heap.size w w' := h.below (Nat.le_refl _) (fun _ hx => by simp at hx)

set_option maxHeartbeats 4000000 in
set_option maxRecDepth 100000 in
theorem lexerLong_walk (z : Int) (w : World) (hm : Max w) : Calls Tryd.prog 9 #[.int .i64 z] w fun e w' => e = .returned (.bool true) ∧ Below w.heap.size w w' := by
  have HF := Lib.hid (fold_any z 9 w (by decide) (by decide))
  have HM := Lib.hid hm
  clear hm
  go_enter Tryd.func9, Tryd.ntmps9
  go_wp2_with (go_at_call 26; refine Calls.mono (by exact HF.out) ?_; rintro r w1 ⟨n, hn, rfl, rfl⟩; have HR := Lib.hid (rep_any n w1 hn); have hwn : IntKind.i64.wrap (1016 + (n : Int)) = 1016 + (n : Int) := (by rw [IntKind.wrap_i64]; omega))
  have hst : (bs [65, 61, 34] ++ bs (List.replicate (1016 + n) 120)) ++ bs [34] = bs (fmtT (longT n)) := by
    rw [long_fmt, bs_app, bs_app]
    rfl
  have hsz : (bs (List.replicate (1016 + n) 120)).size = 1016 + n := by rw [bs_size, List.length_replicate]
  have HT := Lib.hid fun W (h : Kp [] w1 W) => tokens_any (fmtT (longT n)) W (HM.out.kp h (by simp)) (by rw [long_fmt]; simp; omega)
  have HK := Lib.hid fun W (h : Kp [] w1 W) => known_any W (HM.out.kp h (by simp))
  rw [long_tokens] at HT
  have HST := Lib.hid hst
  have HSZ := Lib.hid hsz
  have hsz2 : ((bs (fmtT (longT n))).size : Int) = 1020 + (n : Int) := by rw [bs_size, long_fmt]; simp; omega
  have HSZ2 := Lib.hid hsz2
  have a1 := fun W => @run_add_str Tryd.prog W (⟨#[65, 61, 34]⟩ : ByteArray) (bs (List.replicate (1016 + n) 120)) (by rw [hsz, show (⟨#[65, 61, 34]⟩ : ByteArray).size = 3 from rfl]; omega)
  have a2 := fun W => @run_add_str Tryd.prog W ((⟨#[65, 61, 34]⟩ : ByteArray) ++ bs (List.replicate (1016 + n) 120)) ⟨#[34]⟩ (by rw [ByteArray.size_append, hsz, show (⟨#[65, 61, 34]⟩ : ByteArray).size = 3 from rfl, show (⟨#[34]⟩ : ByteArray).size = 1 from rfl]; omega)
  clear hst hsz hsz2
  obtain ⟨S, hS⟩ : ∃ S, (⟨#[65, 61, 34]⟩ : ByteArray) ++ bs (List.replicate (1016 + n) 120) ++ ⟨#[34]⟩ = S := ⟨_, rfl⟩
  have hSb : S = bs (fmtT (longT n)) := by rw [← hS]; exact HST.out
  rw [← hSb] at HT HSZ2
  have hSz := HSZ2.out
  clear HST hSb
  by_cases h4 : 4 < n
  · rw [if_pos h4] at HT
    have hgt : (1024 : Int) < (S.size : Int) := by omega
    clear hSz h4 hn HSZ HSZ2
    go_wp2_with (first
      | (go_at_call 19; refine Calls.mono (by with_reducible exact HR.out) ?_; rintro r w2 ⟨rfl, hk⟩; have HK2 := Lib.hid hk; clear hk)
      | (go_at_call 15; refine Calls.mono (by with_reducible exact HT.out _ HK2.out) ?_; rintro r w3 ⟨v, rfl, hown, hk⟩; have HK3 := Lib.hid (HK2.out.trans hk); obtain ⟨va, vc, hvf⟩ := hown.form; subst hvf; clear hown hk)
      | (go_at_call 10; refine Calls.mono (by with_reducible exact HK.out _ HK3.out) ?_; rintro r w4 ⟨rfl, hk⟩; have HK4 := Lib.hid (HK3.out.trans hk); clear hk))
    go_ret
    exact ⟨rfl, HK4.out.toBelow⟩
  · rw [if_neg h4] at HT
    have hgt : ¬ (1024 : Int) < (S.size : Int) := by omega
    clear hSz h4 HSZ2
    have hL : (bs (longT n).val).size = 1016 + n := by rw [bs_size]; simp [longT]
    have hLi : (((bs (longT n).val).size : Int) == 1016 + (n : Int)) = true := by rw [hL]; simp
    clear hL hn HSZ
    go_wp2_with (first
      | (go_at_call 19; refine Calls.mono (by with_reducible exact HR.out) ?_; rintro r w2 ⟨rfl, hk⟩; have HK2 := Lib.hid hk; clear hk)
      | (go_at_call 15; refine Calls.mono (by with_reducible exact HT.out _ HK2.out) ?_; rintro r w3 ⟨v, rfl, hown, hk⟩; have HK3 := Lib.hid (HK2.out.trans hk); obtain ⟨vb, vo, vc, hvf, d3⟩ := toks1 hown.has; subst hvf; clear hown hk)
      | (go_at_call 10; refine Calls.mono (by with_reducible exact HK.out _ HK3.out) ?_; rintro r w4 ⟨rfl, hk⟩; have HK4 := Lib.hid (HK3.out.trans hk); clear hk))
    go_ret
    exact ⟨rfl, HK4.out.toBelow⟩
end Go.Proofs.YtccmlodocfpbhaaDoor
