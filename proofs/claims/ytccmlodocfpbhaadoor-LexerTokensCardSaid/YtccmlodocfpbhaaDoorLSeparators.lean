/- The walk of LexerSeparators. -/
import Derived.Test.YtccmlodocfpbhaaDoorU
import Derived.Test.YtccmlodocfpbhaaDoorM
import Derived.Test.YtccmlodocfpbhaaDoorLJoins
namespace Go.Proofs.YtccmlodocfpbhaaDoor
open Go.RowKit

def sBegin : List (List UInt8) := [[], [32], [44, 44], [9, 32]]
theorem one_sBegin {w : World} {tb k : Nat} (hk : k ≤ 1000000) (h : Tape w tb k) : Calls Tryd.prog 23 #[.pointer (some ⟨tb, 0, none⟩), .slice (some ⟨w.heap.size, 0, none⟩) 4 4] (w.alloc (.cells #[.string ⟨#[]⟩, .string ⟨#[32]⟩, .string ⟨#[44, 44]⟩, .string ⟨#[9, 32]⟩] 9)) fun e w' =>
    ∃ x, x ∈ sBegin ∧ e = .returned (.string (bs x)) ∧ Tape w' tb (k + 1) ∧ Kp [tb] w w' := one_new sBegin (by decide) (by decide) hk h
def sMid : List (List UInt8) := [[32], [44], [9], [32, 44, 32], [44, 44]]
theorem one_sMid {w : World} {tb k : Nat} (hk : k ≤ 1000000) (h : Tape w tb k) : Calls Tryd.prog 23 #[.pointer (some ⟨tb, 0, none⟩), .slice (some ⟨w.heap.size, 0, none⟩) 5 5] (w.alloc (.cells #[.string ⟨#[32]⟩, .string ⟨#[44]⟩, .string ⟨#[9]⟩, .string ⟨#[32, 44, 32]⟩, .string ⟨#[44, 44]⟩] 9)) fun e w' =>
    ∃ x, x ∈ sMid ∧ e = .returned (.string (bs x)) ∧ Tape w' tb (k + 1) ∧ Kp [tb] w w' := one_new sMid (by decide) (by decide) hk h
theorem mid_ok : ∀ s ∈ sMid, SepOK s := by
  intro s hs
  simp only [sMid, List.mem_cons, List.not_mem_nil, or_false] at hs
  rcases hs with rfl | rfl | rfl | rfl | rfl <;> exact ⟨by simp, rfl, by decide⟩
theorem Kp.toBelowS {w w' : World} (h : Kp [] w w') : Below w.heap.size w w' := h.below (Nat.le_refl _) (fun _ hx => by simp at hx)
theorem Kp.tapeOff {w w1 w' : World} {tb : Nat} (h : Kp [] w w1) (g : Kp [tb] w1 w') (ht : w.heap.size ≤ tb) : Kp [] w w' := h.up g (by intro x hx; simp at hx; subst hx; exact .inr ht)

set_option maxHeartbeats 8000000 in
set_option maxRecDepth 100000 in
theorem lexerSeparators_walk (a : Option Addr) (n c : Nat) (w : World) (hm : Max w) (hi : Ints w w.heap.size (.slice a n c)) : Calls Tryd.prog 7 #[.slice a n c] w fun e w' => e = .returned (.bool true) ∧ Below w.heap.size w w' := by
  obtain ⟨tb, htb⟩ : ∃ tb, w.heap.size = tb := ⟨_, rfl⟩
  obtain ⟨w1, hw1⟩ : ∃ w1, w.alloc (.cells #[.slice a n c, .int .i64 0] 31) = w1 := ⟨_, rfl⟩
  have ht0 := tape_new hi
  rw [hw1, htb] at ht0
  have hk1 : Kp [] w w1 := by rw [← hw1]; exact (Kp.refl [] w).alloc _
  have htw : w.heap.size ≤ tb := by omega
  have HTW := Lib.hid htw
  have HK1 := Lib.hid hk1
  have HT1B := Lib.hid ht0.lt
  have HD := Lib.hid (drawn_any ht0 (by omega))
  have HM := Lib.hid hm
  clear ht0 hi hm hk1 htw
  go_enter Tryd.func7, Tryd.ntmps7
  go_wp2_with (first
    | (go_at_call 18; refine Calls.mono (by with_reducible exact HD.out) ?_; rintro r w2 ⟨v, rfl, xs, hown, hxl, hgd, k2, hT2, hk2, hkp⟩; have HO2 := Lib.hid hown; have HGD := Lib.hid hgd; have HXL := Lib.hid hxl; have HK2 := Lib.hid (HK1.out.tapeOff hkp HTW.out); have HT2 := Lib.hid hT2; have HS2 := Lib.hid (one_sBegin (w := w2) (by omega) hT2); have HKK2 := Lib.hid (show k2 ≤ 100 by omega); clear hown hxl hgd hT2 hk2 hkp)
    | (go_at_call 23; refine Calls.mono (by with_reducible exact HS2.out) ?_; rintro r w3 ⟨sp, hsp, rfl, hT3, hkp⟩; have HSP := Lib.hid hsp; have HT3 := Lib.hid hT3; have HK3 := Lib.hid (HK2.out.tapeOff hkp HTW.out); have HO3 := Lib.hid (HO2.out.kp hkp (fun b hb => by have := (HO2.out.ge b hb).1; have := HT1B.out; simp; omega)); clear hsp hT3 hkp))
  have hf2 := HO3.out.form2
  have hv2 : ∃ ad cp, v = .slice ad xs.length cp ∧ xs.length ≤ cp ∧ cp ≤ maxLen ∧ (∀ i, i < xs.length → ∃ g, ad = some ⟨g, 0, none⟩) := by
    rcases hf2 with ⟨rfl, rfl⟩ | ⟨g, cap, rfl, _, _, h1, h2, _⟩
    · exact ⟨none, 0, rfl, Nat.le_refl _, by simp [maxLen], fun i hi => absurd hi (Nat.not_lt_zero _)⟩
    · exact ⟨_, _, rfl, h1, h2, fun i _ => ⟨g, rfl⟩⟩
  obtain ⟨ad, cp, rfl, hcp, hcpm, had⟩ := hv2
  have HAD := Lib.hid had
  have HCP := Lib.hid (show xs.length ≤ cp ∧ cp ≤ 9223372036854775807 from ⟨hcp, hcpm⟩)
  have hsb : sp.all sepCh = true ∧ sp.length ≤ 3 := by
    have h1 : ∀ s ∈ sBegin, (s.all sepCh && decide (s.length ≤ 3)) = true := by decide
    have := h1 sp HSP.out
    rw [Bool.and_eq_true, decide_eq_true_eq] at this
    exact this
  have HSB := Lib.hid hsb
  clear hf2 had hcp hcpm hsb
  go_loopg [5, 6] xs.length (fun g s5 s6 wx => ∃ (i : Nat) (m : List (Tok × List UInt8)) (kk : Nat), s6 = .int .i64 (i : Int) ∧ s5 = .string (bs (sp ++ lineL m)) ∧ i + g = xs.length ∧ m.map Prod.fst = xs.take i ∧ (∀ p ∈ m, Good p.1 ∧ SepOK p.2) ∧ (lineL m).length ≤ 50 * i ∧ Tape wx tb kk ∧ kk ≤ 200 + i ∧ Kp [] w wx ∧ tokT.Own wx w1.heap.size (.slice ad xs.length cp) xs)
  case atStart => exact ⟨0, [], k2 + 1, rfl, by simp [lineL], by omega, rfl, (fun p hp => by cases hp), by simp [lineL], HT3.out, by have := HKK2.out; omega, HK3.out, HO3.out⟩
  case round =>
    obtain ⟨i, m, kk, rfl, rfl, hig, hmx, hmg, hml, hT, hkk, hkp, hown⟩ := hrel
    have HT := Lib.hid hT
    have HK := Lib.hid hkp
    have HO := Lib.hid hown
    by_cases hi : i < xs.length
    · obtain ⟨g, rfl⟩ : ∃ g, gk = g + 1 := ⟨gk - 1, by omega⟩
      obtain ⟨gb, rfl⟩ := HAD.out i hi
      obtain ⟨x, hx⟩ : ∃ x, xs[i]? = some x := ⟨_, List.getElem?_eq_getElem hi⟩
      have hgx := HGD.out x (List.mem_of_getElem? hx)
      have hiz : (i : Int) < (xs.length : Int) := by omega
      have hcp := HCP.out
      have hic : (i : Int) + 1 ≤ (cp : Int) := by omega
      have hwi : IntKind.i64.wrap ((i : Int) + 1) = (i : Int) + 1 := by rw [IntKind.wrap_i64]; omega
      have hfe : fmtE [x] = (fmtT x, 0) := by
        rw [fmtE_good (fun y hy => by rw [List.mem_singleton.1 hy]; exact hgx.1), if_neg (by have := fmtT_lo hgx.2; simp [fmtL]; omega)]
        rfl
      have hf := format_any (HM.out.kp hkp (by simp)) (own_one hown hx (cp - i)) (by simp) (fun y hy => by rw [List.mem_singleton.1 hy]; exact lo_sm hgx.2)
      rw [hfe] at hf
      have HF := Lib.hid (show Calls Tryd.prog 21 #[.slice (some ⟨gb, i * 4, none⟩) 1 (cp - i)] wr fun r w' => r = .returned (.tuple #[.string (bs (fmtT x)), .int .i64 0]) ∧ Kp [] wr w' from hf)
      have hfl := fmtT_lo hgx.2
      have HFL := Lib.hid hfl
      have HXI := Lib.hid hx
      have HGX := Lib.hid hgx.1
      have HN := Lib.hid (show i + (g + 1) = xs.length ∧ m.map Prod.fst = xs.take i ∧ (∀ p ∈ m, Good p.1 ∧ SepOK p.2) ∧ (lineL m).length ≤ 50 * i ∧ kk ≤ 200 + i ∧ i ≤ 4 from ⟨hig, hmx, hmg, hml, hkk, by have := HXL.out; omega⟩)
      clear hfe hf hfl hx hgx hig hmx hmg hml hT hkk hkp hown hcp hi
      go_wp2_with (first
        | (go_at_call 21; refine Calls.mono (by with_reducible exact HF.out) ?_; rintro r w5 ⟨rfl, hkp⟩; have HK5 := Lib.hid (HK.out.trans hkp); have HO5 := Lib.hid (HO.out.kp0 hkp); have HS5 := Lib.hid (one_sMid (w := w5) (by have := HN.out; omega) (HT.out.kp hkp (by simp))); clear hkp)
        | (go_at_call 23; refine Calls.mono (by with_reducible exact HS5.out) ?_; rintro r w6 ⟨y, hy, rfl, hT6, hkp⟩; have hyl := mid_ok y hy; have HY := Lib.hid hyl; have HT6 := Lib.hid hT6; have HK6 := Lib.hid (HK5.out.tapeOff hkp HTW.out); have HO6 := Lib.hid (HO5.out.kp hkp (fun b hb => by have := (HO5.out.ge b hb).1; have := HT1B.out; simp; omega)); have hadd1 := (fun W => @run_add_str Tryd.prog W (bs (fmtT x)) (bs y) (by rw [bs_size, bs_size]; have := HFL.out; have := hyl.2.2; omega)); have hadd2 := (fun W => @run_add_str Tryd.prog W (bs (sp ++ lineL m)) (bs (fmtT x) ++ bs y) (by rw [ByteArray.size_append, bs_size, bs_size, bs_size, List.length_append]; have := HFL.out; have := hyl.2.2; have := HSB.out.2; have := HN.out.2.2.2; omega)); clear hT6 hkp hy hyl))
      rw [show bs (sp ++ lineL m) ++ (bs (fmtT x) ++ bs y) = bs (sp ++ lineL (m ++ [(x, y)])) by rw [bs_app, bs_app, lineL_snoc]; simp]
      go_roundg g
      case measure => omega
      case rel =>
        obtain ⟨n1, n2, n3, n4, n5, n6⟩ := HN.out
        refine ⟨i + 1, m ++ [(x, y)], kk + 1, rfl, rfl, by omega, ?_, ?_, ?_, HT6.out, by omega, HK6.out, HO6.out⟩
        · rw [List.map_append, n2, List.take_add_one, HXI.out]; rfl
        · intro p hp
          rcases List.mem_append.1 hp with hp | hp
          · exact n3 p hp
          · rw [List.mem_singleton.1 hp]
            exact ⟨HGX.out, HY.out⟩
        · rw [lineL_snoc, List.length_append, List.length_append]
          have := HFL.out
          have := HY.out.2.2
          omega
    · have hie : i = xs.length := by omega
      have hiz : ¬ ((i : Int) < (xs.length : Int)) := by omega
      have hxl := HXL.out
      have hmm : m.map Prod.fst = xs := by rw [hmx, hie, List.take_length]
      have hll : (sp ++ lineL m).length ≤ 1024 := by rw [List.length_append]; have := HSB.out.2; omega
      have hte := lineE HSB.out.1 hmg hll
      rw [hmm] at hte
      have htk := tokens_any (sp ++ lineL m) wr (HM.out.kp hkp (by simp)) (by omega)
      rw [hte] at htk
      have HTK := Lib.hid htk
      have HSM := Lib.hid fun W u v => same_any (w := W) (su := u) (sv := v) (l := xs) (by omega)
      have HKN := Lib.hid fun W (h : Kp [] w W) => known_any W (HM.out.kp h (by simp))
      clear hig hmx hmg hml hT hkk hkp hown hi hie hmm hll hte htk hxl
      go_wp2_with (first
        | (go_at_call 15; refine Calls.mono (by with_reducible exact HTK.out) ?_; rintro r w5 ⟨v2, rfl, ho, hkp⟩; have HK5 := Lib.hid (HK.out.trans hkp); have HO5 := Lib.hid (HO.out.kp0 hkp).has; have HO52 := Lib.hid ho.has; clear hkp ho)
        | (go_at_call 17; refine Calls.mono (by with_reducible exact HSM.out _ _ _ HO5.out HO52.out) ?_; rintro r w6 ⟨rfl, hkp⟩; have HK6 := Lib.hid (HK5.out.trans hkp); clear hkp)
        | (go_at_call 10; refine Calls.mono (by with_reducible exact HKN.out _ HK6.out) ?_; rintro r w7 ⟨rfl, hkp⟩; have HK7 := Lib.hid (HK6.out.trans hkp); clear hkp))
      go_ret
      exact ⟨rfl, HK7.out.toBelowS⟩
end Go.Proofs.YtccmlodocfpbhaaDoor
