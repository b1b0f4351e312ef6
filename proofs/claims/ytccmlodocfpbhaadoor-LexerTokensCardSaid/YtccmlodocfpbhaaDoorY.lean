/- line: a line of tokens, or nearly so. -/
import Derived.Test.YtccmlodocfpbhaaDoorX
import Derived.Test.YtccmlodocfpbhaaDoorLSeparators
namespace Go.Proofs.YtccmlodocfpbhaaDoor
open Go.RowKit

def lBegin : List (List UInt8) := [[], [32], [44], [9]]
theorem one_lBegin {w : World} {tb k : Nat} (hk : k ≤ 1000000) (h : Tape w tb k) : Calls Tryd.prog 23 #[.pointer (some ⟨tb, 0, none⟩), .slice (some ⟨w.heap.size, 0, none⟩) 4 4] (w.alloc (.cells #[.string ⟨#[]⟩, .string ⟨#[32]⟩, .string ⟨#[44]⟩, .string ⟨#[9]⟩] 9)) fun e w' =>
    ∃ x, x ∈ lBegin ∧ e = .returned (.string (bs x)) ∧ Tape w' tb (k + 1) ∧ Kp [tb] w w' := one_new lBegin (by decide) (by decide) hk h
def lMid : List (List UInt8) := [[44], [32], [44, 32], [9, 44], []]
theorem one_lMid {w : World} {tb k : Nat} (hk : k ≤ 1000000) (h : Tape w tb k) : Calls Tryd.prog 23 #[.pointer (some ⟨tb, 0, none⟩), .slice (some ⟨w.heap.size, 0, none⟩) 5 5] (w.alloc (.cells #[.string ⟨#[44]⟩, .string ⟨#[32]⟩, .string ⟨#[44, 32]⟩, .string ⟨#[9, 44]⟩, .string ⟨#[]⟩] 9)) fun e w' =>
    ∃ x, x ∈ lMid ∧ e = .returned (.string (bs x)) ∧ Tape w' tb (k + 1) ∧ Kp [tb] w w' := one_new lMid (by decide) (by decide) hk h
def lIns : List (List UInt8) := [[], [34], [92], [123], [125], [61], [97], [32], [128], [9]]
theorem one_lIns {w : World} {tb k : Nat} (hk : k ≤ 1000000) (h : Tape w tb k) : Calls Tryd.prog 23 #[.pointer (some ⟨tb, 0, none⟩), .slice (some ⟨w.heap.size, 0, none⟩) 10 10] (w.alloc (.cells #[.string ⟨#[]⟩, .string ⟨#[34]⟩, .string ⟨#[92]⟩, .string ⟨#[123]⟩, .string ⟨#[125]⟩, .string ⟨#[61]⟩, .string ⟨#[97]⟩, .string ⟨#[32]⟩, .string ⟨#[128]⟩, .string ⟨#[9]⟩] 9)).drew fun e w' =>
    ∃ x, x ∈ lIns ∧ e = .returned (.string (bs x)) ∧ Tape w' tb (k + 1) ∧ Kp [tb] w.drew w' := one_new (w := w.drew) lIns (by decide) (by decide) hk h
theorem begin_ok : ∀ s ∈ lBegin, s.length ≤ 2 := by decide
theorem lmid_ok : ∀ s ∈ lMid, s.length ≤ 2 := by decide
theorem ins_ok : ∀ s ∈ lIns, s.length ≤ 1 := by decide
theorem as_bs (Z : ByteArray) (n : Nat) (h : Z.size ≤ n) : ∃ l, Z = bs l ∧ l.length ≤ n := ⟨Z.data.toList, (bs_of Z).symm, by rw [← Lib.size_eq]; exact h⟩

set_option maxHeartbeats 8000000 in
set_option maxRecDepth 100000 in
theorem line_any {w : World} {tb k : Nat} (hm : Max w) (ht0 : Tape w tb k) (hk0 : k ≤ 500) (htn : 0 ≠ tb) : Calls Tryd.prog 14 #[.pointer (some ⟨tb, 0, none⟩)] w fun r w' => ∃ l, r = .returned (.string (bs l)) ∧ l.length ≤ 1000 ∧ Kp [tb] w w' ∧ ∃ k', Tape w' tb k' ∧ k' ≤ k + 50 := by
  have HT1B := Lib.hid ht0.lt
  have HM := Lib.hid hm
  have htz : 0 < w.heap.size := hm.pos
  have HS0 := Lib.hid (one_lBegin (w := w) (by omega) ht0)
  clear hm ht0 htz
  go_enter Tryd.func14, Tryd.ntmps14
  go_wp2_with (first
    | (go_at_call 23; refine Calls.mono (by with_reducible exact HS0.out) ?_; rintro r w2 ⟨sp, hsp, rfl, hT2, hkp⟩; have HSP := Lib.hid (begin_ok sp hsp); have HK2 := Lib.hid hkp; have HD := Lib.hid (drawn_any hT2 (by omega)); clear hsp hT2 hkp)
    | (go_at_call 18; refine Calls.mono (by with_reducible exact HD.out) ?_; rintro r w3 ⟨v, rfl, xs, hown, hxl, hgd, k2, hT3, hk3, hkp⟩; have HO3 := Lib.hid hown; have HGD := Lib.hid hgd; have HXL := Lib.hid hxl; have HK3 := Lib.hid (HK2.out.trans hkp); have HT3 := Lib.hid hT3; have HKK := Lib.hid (show k2 ≤ k + 30 by omega); clear hown hxl hgd hT3 hk3 hkp))
  have hf2 := HO3.out.form2
  have hv2 : ∃ ad cp, v = .slice ad xs.length cp ∧ xs.length ≤ cp ∧ cp ≤ maxLen ∧ (∀ i, i < xs.length → ∃ g, ad = some ⟨g, 0, none⟩) := by
    rcases hf2 with ⟨rfl, rfl⟩ | ⟨g, cap, rfl, _, _, h1, h2, _⟩
    · exact ⟨none, 0, rfl, Nat.le_refl _, by simp [maxLen], fun i hi => absurd hi (Nat.not_lt_zero _)⟩
    · exact ⟨_, _, rfl, h1, h2, fun i _ => ⟨g, rfl⟩⟩
  obtain ⟨ad, cp, rfl, hcp, hcpm, had⟩ := hv2
  have HAD := Lib.hid had
  have HCP := Lib.hid (show xs.length ≤ cp ∧ cp ≤ 9223372036854775807 from ⟨hcp, hcpm⟩)
  clear hf2 had hcp hcpm
  go_loopg [3, 5] xs.length (fun g s3 s5 wx => ∃ (i : Nat) (s : List UInt8) (kk : Nat), s5 = .int .i64 (i : Int) ∧ s3 = .string (bs s) ∧ i + g = xs.length ∧ s.length ≤ 2 + 50 * i ∧ Tape wx tb kk ∧ kk ≤ k + 30 + i ∧ Kp [tb] w wx ∧ tokT.Own wx w2.heap.size (.slice ad xs.length cp) xs)
  case atStart => exact ⟨0, sp, k2, rfl, rfl, by omega, by have := HSP.out; omega, HT3.out, by have := HKK.out; omega, HK3.out, HO3.out⟩
  case round =>
    obtain ⟨i, s, kk, rfl, rfl, hig, hsl, hT, hkk, hkp, hown⟩ := hrel
    have HT := Lib.hid hT
    have HK := Lib.hid hkp
    have HO := Lib.hid hown
    have HTP := Lib.hid (show ∀ W, Kp [tb] w W → Max W from fun W h => HM.out.kp h (by simp; exact htn))
    by_cases hi : i < xs.length
    · obtain ⟨g, rfl⟩ : ∃ g, gk = g + 1 := ⟨gk - 1, by omega⟩
      obtain ⟨gb, rfl⟩ := HAD.out i hi
      obtain ⟨x, hx⟩ : ∃ x, xs[i]? = some x := ⟨_, List.getElem?_eq_getElem hi⟩
      have hgx := HGD.out x (List.mem_of_getElem? hx)
      have hiz : (i : Int) < (xs.length : Int) := by omega
      have hcp := HCP.out
      have hic : (i : Int) + 1 ≤ (cp : Int) := by omega
      have hwi : IntKind.i64.wrap ((i : Int) + 1) = (i : Int) + 1 := by rw [IntKind.wrap_i64]; omega
      have hfe : fmtE [x] = (fmtT x, 0) := by
        rw [fmtE_good (fun y hy => by rw [List.mem_singleton.1 hy]; exact hgx.1), if_neg (by have := fmtT_lo hgx.2; simp [fmtL]; omega)]
        rfl
      have hf := refFormat_any (HTP.out _ hkp) (own_one hown hx (cp - i)) (by simp) (fun y hy => by rw [List.mem_singleton.1 hy]; exact lo_sm hgx.2)
      rw [hfe] at hf
      have HF := Lib.hid (show Calls Tryd.prog 22 #[.slice (some ⟨gb, i * 4, none⟩) 1 (cp - i)] wr fun r w' => r = .returned (.tuple #[.string (bs (fmtT x)), .int .i64 0]) ∧ Kp [] wr w' from hf)
      have HFL := Lib.hid (fmtT_lo hgx.2)
      have HN := Lib.hid (show i + (g + 1) = xs.length ∧ s.length ≤ 2 + 50 * i ∧ kk ≤ k + 30 + i ∧ i ≤ 4 from ⟨hig, hsl, hkk, by have := HXL.out; omega⟩)
      clear hfe hf hx hgx hig hsl hT hkk hkp hown hcp hi
      go_wp2_with (first
        | (go_at_call 22; refine Calls.mono (by with_reducible exact HF.out) ?_; rintro r w5 ⟨rfl, hkp⟩; have HK5 := Lib.hid (HK.out.up hkp (by simp)); have HO5 := Lib.hid (HO.out.kp0 hkp); have HS5 := Lib.hid (one_lMid (w := w5) (by have := HN.out; omega) (HT.out.kp hkp (by simp))); clear hkp)
        | (go_at_call 23; refine Calls.mono (by with_reducible exact HS5.out) ?_; rintro r w6 ⟨y, hy, rfl, hT6, hkp⟩; have hyl := lmid_ok y hy; have HY := Lib.hid hyl; have HT6 := Lib.hid hT6; have HK6 := Lib.hid (HK5.out.trans hkp); have HO6 := Lib.hid (HO5.out.kp hkp (fun b hb => by have := (HO5.out.ge b hb).1; have := HK2.out.size; have := HT1B.out; simp; omega)); have hadd1 := (fun W => @run_add_str Tryd.prog W (bs (fmtT x)) (bs y) (by rw [bs_size, bs_size]; have := HFL.out; omega)); have hadd2 := (fun W => @run_add_str Tryd.prog W (bs s) (bs (fmtT x) ++ bs y) (by rw [ByteArray.size_append, bs_size, bs_size, bs_size]; have := HFL.out; have := HN.out; omega)); clear hT6 hkp hy hyl))
      rw [show bs s ++ (bs (fmtT x) ++ bs y) = bs (s ++ (fmtT x ++ y)) by rw [bs_app, bs_app]]
      go_roundg g
      case measure => omega
      case rel =>
        obtain ⟨n1, n2, n3, n4⟩ := HN.out
        refine ⟨i + 1, s ++ (fmtT x ++ y), kk + 1, rfl, rfl, by omega, ?_, HT6.out, by omega, HK6.out, HO6.out⟩
        rw [List.length_append, List.length_append]
        have := HFL.out
        have := HY.out
        omega
    · have hiz : ¬ ((i : Int) < (xs.length : Int)) := by omega
      have HN := Lib.hid (show s.length ≤ 300 ∧ kk ≤ k + 40 by have := HXL.out; omega)
      have hbz : ((bs s).size : Int) = (s.length : Int) := rfl
      cases s with
      | nil =>
        have hz : (((bs []).size : Int) == 0) = true := rfl
        clear hig hsl hT hkk hkp hown hi hbz
        go_wp2
        go_ret
        exact ⟨[], rfl, by simp, HK.out, kk, HT.out, by have := HN.out; omega⟩
      | cons s0 s1 =>
        have hz : (((bs (s0 :: s1)).size : Int) == 0) = false := by rw [hbz]; simp; omega
        generalize hS : s0 :: s1 = S at *
        have hSp : 1 ≤ S.length := by rw [← hS]; simp
        have HNX := Lib.hid (next_kp 2 (by decide) (by decide) (by have := HN.out; omega) hT)
        clear hig hsl hT hkk hkp hown hi hbz
        go_wp2_with fail
        refine Calls.mono (by exact HNX.out) ?_
        rintro r w5 ⟨c0, hc0, rfl, hT5, hkp⟩
        have HT5 := Lib.hid hT5
        have HK5 := Lib.hid (HK.out.trans hkp)
        by_cases hc : c0 = 0
        · subst hc
          clear hT5 hkp
          go_wp2
          go_ret
          exact ⟨S, rfl, by have := HN.out; omega, HK5.out, _, HT5.out, by have := HN.out; omega⟩
        · have hcc : ((c0 : Int) == 0) = false := by simp; exact hc
          have HNQ := Lib.hid (next_kp S.length hSp (by have := HN.out; omega) (by have := HN.out; omega) hT5)
          clear hT5 hkp hc
          go_wp2_with fail
          refine Calls.mono (by exact HNQ.out) ?_
          rintro r w6 ⟨q, hq, rfl, hT6, hkp⟩
          have HT6 := Lib.hid hT6
          have HK6 := Lib.hid (HK5.out.trans hkp)
          have HO := Lib.hid (one_lIns (by have := HN.out; omega) hT6)
          clear hT6 hkp
          have hq2 : q ≤ (bs S).size := by rw [bs_size]; omega
          have hq3 : (q : Int) ≤ ((bs S).size : Int) := by rw [bs_size]; omega
          have y1 : ((bs S).extract 0 q).size ≤ 300 := by rw [ByteArray.size_extract, bs_size]; have := HN.out; omega
          have y2 : ∀ j, ((bs S).extract j (bs S).size).size ≤ 300 := fun j => by rw [ByteArray.size_extract, bs_size]; have := HN.out; omega
          have hSl := HN.out.1
          have HQ := Lib.hid (show q < S.length from hq)
          have HY2 := Lib.hid y2
          clear y2 hq hSp
          go_wp2
          go_region_law (first
            | (go_simp; (with_reducible refine HO.out.mono ?_); rintro e wb ⟨x, hx, rfl, hTb, hkb⟩; have Kb := Lib.hid ((HK6.out.drew 1).trans hkb); have hxs : (bs x).size ≤ 1 := ins_ok x hx; have HNL := Lib.hid (next_kp 2 (by decide) (by decide) (by have := HN.out; omega) hTb); clear hTb hkb hx; generalize bs x = Y at *; have a1 := (fun W => @run_add_str Tryd.prog W ((bs S).extract 0 q) Y (by omega)); dsimp only)
            | (go_simp; (refine Calls.mono (by exact HNL.out) ?_); rintro e wc ⟨d, hd, rfl, hTc, hkc⟩; have Tc := Lib.hid hTc; have Kc := Lib.hid (Kb.out.trans hkc); have hwq : IntKind.i64.wrap ((q : Int) + (d : Int)) = (q : Int) + (d : Int) := (by rw [IntKind.wrap_i64]; have := HQ.out; have := HN.out; omega); have hqd0 : 0 ≤ (q : Int) + (d : Int) := (by omega); have hqdn : ((q : Int) + (d : Int)).toNat = q + d := (by omega); have hqd2 : (q : Int) + (d : Int) ≤ ((bs S).size : Int) := (by rw [bs_size]; have := HQ.out; omega); have a2 := (fun W => @run_add_str Tryd.prog W ((bs S).extract 0 q ++ Y) ((bs S).extract (q + d) (bs S).size) (by rw [ByteArray.size_append]; have := HY2.out (q + d); omega)); clear hTc hkc hd; dsimp only))
          all_goals
            go_wp2
            go_ret
            obtain ⟨l, hl, hll⟩ := as_bs ((bs S).extract 0 q ++ Y ++ (bs S).extract (q + d) (bs S).size) 1000 (by rw [ByteArray.size_append, ByteArray.size_append]; have := HY2.out (q + d); omega)
            rw [hl]
            exact ⟨l, rfl, hll, Kc.out, _, Tc.out, by have := HN.out; omega⟩
end Go.Proofs.YtccmlodocfpbhaaDoor
