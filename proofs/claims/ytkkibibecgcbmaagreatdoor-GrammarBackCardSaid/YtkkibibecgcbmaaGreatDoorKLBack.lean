/- The walk of GrammarBack. -/
import Derived.Test.YtkkibibecgcbmaaGreatDoorKGx
namespace Go.Proofs.YtkkibibecgcbmaaGreatDoor
open Go.RowKit

set_option maxHeartbeats 16000000 in
set_option maxRecDepth 100000 in
theorem grammarBack_list (raw : List UInt8) (a : Option Addr) (n c : Nat) (w : World) (hE : Env w) (hi : Ints w w.heap.size (.slice a n c)) : Calls Tryz.prog 6 #[.string (bs raw), .slice a n c] w fun e w' => e = .returned (.bool true) ∧ Kp [] w w' := by
  obtain ⟨tb, htb⟩ : ∃ tb, w.heap.size = tb := ⟨_, rfl⟩
  obtain ⟨w1, hw1⟩ : ∃ w1, w.alloc (.cells #[.slice a n c, .int .i64 0] 28) = w1 := ⟨_, rfl⟩
  have ht0 := tape_new hi
  rw [hw1, htb] at ht0
  have hk1 : Kp [] w w1 := by rw [← hw1]; exact (Kp.refl [] w).alloc _
  have HTW := Lib.hid (show w.heap.size ≤ tb by omega)
  have HK1 := Lib.hid hk1
  have HS := Lib.hid (spoilt_any (n := 0) (by omega) ht0.lt ⟨0, Nat.le_refl _, ht0⟩)
  have HP := Lib.hid fun W (h : Kp [] w W) s (hs : s.length ≤ 1000000000) => gparse_any (hE.kp0 h) s hs
  have HF := Lib.hid fun W (h : Kp [] w W) v l (hh : tmT.Has W v l) (hl : l.length ≤ 1000000) (hs : ∀ x ∈ l, SmT x) => gformat_any (hE.kp0 h) hh hl hs
  have HC := Lib.hid fun W (h : Kp [] w W) v l (hh : tmT.Has W v l) (hl : l.length ≤ 1000000) (hs : ∀ x ∈ l, SmT x) => gcheck_any (hE.kp0 h) hh hl hs
  have HKN := Lib.hid fun W (h : Kp [] w W) => known_any (hE.kp0 h)
  have HSM := Lib.hid fun (W : World) (u v : Value) (l : List Tm) (hl : l.length ≤ 1000000) => same_any (w := W) (su := u) (sv := v) (l := l) hl
  clear ht0 hi hk1 hE
  go_enter Tryz.func6, Tryz.ntmps6
  go_upto_region 3 with (first
    | (go_at_call 12; refine Calls.mono (by with_reducible exact HS.out) ?_; rintro r w2 ⟨v, l, rfl, ho, hl, hs, _, hkp⟩))
  have HK := Lib.hid (HK1.out.off hkp HTW.out)
  have HO := Lib.hid ho
  have HL := Lib.hid (show l.length ≤ 1000000 by omega)
  have HSL := Lib.hid hs
  obtain ⟨s, e, hfe⟩ : ∃ s e, formatG l = (s, e) := ⟨_, _, rfl⟩
  have hF := HF.out _ HK.out _ _ ho.has HL.out hs
  rw [hfe] at hF
  have HFM := Lib.hid (show Calls Tryz.prog 22 #[v] w2 fun r w' => r = .returned (.tuple #[.string (bs s), .int .i64 e]) ∧ Kp [] w2 w' from hF)
  have HSL9 := Lib.hid (show s.length ≤ 1000000000 by have := fmtLen l; rw [hfe] at this; simp only at this; omega)
  obtain ⟨lr, er, hpr⟩ : ∃ l e, parseG raw = (l, e) := ⟨_, _, rfl⟩
  obtain ⟨hrl, hrs⟩ := parseG_sm raw
  rw [hpr] at hrl hrs
  simp only at hrl hrs
  have HRL := Lib.hid (show lr.length ≤ 1000000 by omega)
  clear hF ho hl hs hkp hw1 htb
  by_cases hraw : 900 < raw.length
  · have hrz : (900 : Int) < ((bs raw).size : Int) := by rw [bs_size]; omega
    clear hraw hpr hrs hrl
    by_cases he : e = 0
    · subst he
      obtain ⟨hp, hc⟩ := parse_format (l := l) (by rw [hfe])
      rw [hfe] at hp
      have hps := fun W h => HP.out W h s HSL9.out
      rw [show parseG s = (l, 0) from hp] at hps
      have HPS := Lib.hid (show ∀ W, Kp [] w W → Calls Tryz.prog 19 #[.string (bs s)] W fun r w' => ∃ v, r = .returned (.tuple #[v, .int .i64 0]) ∧ tmT.Own w' W.heap.size v l ∧ Kp [] W w' from hps)
      have HCH := Lib.hid (show ∀ W, Kp [] w W → ∀ v, tmT.Has W v l → Calls Tryz.prog 15 #[v] W fun r w' => r = .returned (.int .i64 0) ∧ Kp [] W w' from fun W h v hh => by have := HC.out W h v l hh HL.out HSL.out; rw [hc] at this; exact this)
      clear hp hc hps hfe
      go_wp2_with (first
        | (go_at_call 22; refine Calls.mono (by with_reducible exact HFM.out) ?_; rintro r w3 ⟨rfl, hkp⟩; have HK := Lib.hid (HK.out.trans hkp); have HO := Lib.hid (HO.out.kp0 hkp); clear hkp)
        | (go_at_call 19; refine Calls.mono (by with_reducible exact HPS.out _ HK.out) ?_; rintro r w4 ⟨v4, rfl, ho4, hkp⟩; have HK4 := Lib.hid (HK.out.trans hkp); have HO4 := Lib.hid (HO.out.kp0 hkp); have HQ4 := Lib.hid ho4; clear hkp ho4)
        | (go_at_call 21; refine Calls.mono (by with_reducible exact HSM.out _ _ _ _ HL.out HO4.out.has HQ4.out.has) ?_; rintro r w5 ⟨rfl, hkp⟩; have HK5 := Lib.hid (HK4.out.trans hkp); have HO5 := Lib.hid (HO4.out.kp0 hkp); clear hkp)
        | (go_at_call 15; refine Calls.mono (by with_reducible exact HCH.out _ HK5.out _ HO5.out.has) ?_; rintro r w6 ⟨rfl, hkp⟩; have HKA := Lib.hid (HK5.out.trans hkp); clear hkp)
        | (go_at_call 11; refine Calls.mono (by with_reducible exact HKN.out _ HKA.out) ?_; rintro r wz ⟨rfl, hkp⟩; have HKZ := Lib.hid (HKA.out.trans hkp); clear hkp))
      go_ret
      exact ⟨rfl, HKZ.out⟩
    · have hez : (e == 0) = false := by simpa using he
      clear hfe
      go_wp2_with (first
        | (go_at_call 22; refine Calls.mono (by with_reducible exact HFM.out) ?_; rintro r w3 ⟨rfl, hkp⟩; have HK := Lib.hid (HK.out.trans hkp); have HO := Lib.hid (HO.out.kp0 hkp); clear hkp)
        | (go_at_call 11; refine Calls.mono (by with_reducible exact HKN.out _ HK.out) ?_; rintro r wz ⟨rfl, hkp⟩; have HKZ := Lib.hid (HK.out.trans hkp); clear hkp))
      go_ret
      exact ⟨rfl, HKZ.out⟩
  · have hrz : ¬ (900 : Int) < ((bs raw).size : Int) := by rw [bs_size]; omega
    have hpp := fun W h => HP.out W h raw (by omega)
    rw [hpr] at hpp
    simp only at hpp
    clear hraw
    by_cases her : er = 0
    · subst her
      have HPR := Lib.hid (show ∀ W, Kp [] w W → Calls Tryz.prog 19 #[.string (bs raw)] W fun r w' => ∃ v, r = .returned (.tuple #[v, .int .i64 0]) ∧ tmT.Own w' W.heap.size v lr ∧ Kp [] W w' from hpp)
      have hff := (format_parse (s := raw) (by rw [hpr])).2
      have hfp := fun W h v hh => HF.out W h v lr hh HRL.out hrs
      obtain ⟨t, et, hft⟩ : ∃ s e, formatG lr = (s, e) := ⟨_, _, rfl⟩
      rw [hpr] at hff
      simp only at hff
      rw [hft] at hff hfp
      simp only at hff
      clear hpp hrs hrl
      rcases hff with rfl | rfl
      · obtain ⟨hp, _⟩ := parse_format (l := lr) (by rw [hft])
        rw [hft] at hp
        have htl : t.length ≤ 1000000000 := by have := fmtLen lr; rw [hft] at this; simp only at this; omega
        have hpt := fun W h => HP.out W h t htl
        rw [show parseG t = (lr, 0) from hp] at hpt
        have HPT := Lib.hid (show ∀ W, Kp [] w W → Calls Tryz.prog 19 #[.string (bs t)] W fun r w' => ∃ v, r = .returned (.tuple #[v, .int .i64 0]) ∧ tmT.Own w' W.heap.size v lr ∧ Kp [] W w' from hpt)
        have HFR := Lib.hid (show ∀ W, Kp [] w W → ∀ v, tmT.Has W v lr → Calls Tryz.prog 22 #[v] W fun r w' => r = .returned (.tuple #[.string (bs t), .int .i64 0]) ∧ Kp [] W w' from hfp)
        clear hp htl hpt hfp hft hpr
        by_cases he : e = 0
        · subst he
          obtain ⟨hp, hc⟩ := parse_format (l := l) (by rw [hfe])
          rw [hfe] at hp
          have hps := fun W h => HP.out W h s HSL9.out
          rw [show parseG s = (l, 0) from hp] at hps
          have HPS := Lib.hid (show ∀ W, Kp [] w W → Calls Tryz.prog 19 #[.string (bs s)] W fun r w' => ∃ v, r = .returned (.tuple #[v, .int .i64 0]) ∧ tmT.Own w' W.heap.size v l ∧ Kp [] W w' from hps)
          have HCH := Lib.hid (show ∀ W, Kp [] w W → ∀ v, tmT.Has W v l → Calls Tryz.prog 15 #[v] W fun r w' => r = .returned (.int .i64 0) ∧ Kp [] W w' from fun W h v hh => by have := HC.out W h v l hh HL.out HSL.out; rw [hc] at this; exact this)
          clear hp hc hps hfe
          go_wp2_with (first
            | (go_at_call 22; refine Calls.mono (by with_reducible exact HFM.out) ?_; rintro r w3 ⟨rfl, hkp⟩; have HK := Lib.hid (HK.out.trans hkp); have HO := Lib.hid (HO.out.kp0 hkp); clear hkp)
            | (go_at_call 19; refine Calls.mono (by with_reducible exact HPS.out _ HK.out) ?_; rintro r w4 ⟨v4, rfl, ho4, hkp⟩; have HK4 := Lib.hid (HK.out.trans hkp); have HO4 := Lib.hid (HO.out.kp0 hkp); have HQ4 := Lib.hid ho4; clear hkp ho4)
            | (go_at_call 21; refine Calls.mono (by with_reducible exact HSM.out _ _ _ _ HL.out HO4.out.has HQ4.out.has) ?_; rintro r w5 ⟨rfl, hkp⟩; have HK5 := Lib.hid (HK4.out.trans hkp); have HO5 := Lib.hid (HO4.out.kp0 hkp); clear hkp)
            | (go_at_call 15; refine Calls.mono (by with_reducible exact HCH.out _ HK5.out _ HO5.out.has) ?_; rintro r w6 ⟨rfl, hkp⟩; have HKA := Lib.hid (HK5.out.trans hkp); clear hkp)
            | (go_at_call 19; refine Calls.mono (by with_reducible exact HPR.out _ HKA.out) ?_; rintro r wa ⟨va, rfl, hoa, hkp⟩; have HKB := Lib.hid (HKA.out.trans hkp); have HOA := Lib.hid hoa; clear hkp hoa)
            | (go_at_call 22; refine Calls.mono (by with_reducible exact HFR.out _ HKB.out _ HOA.out.has) ?_; rintro r wb ⟨rfl, hkp⟩; have HKC := Lib.hid (HKB.out.trans hkp); have HOB := Lib.hid (HOA.out.kp0 hkp); clear hkp)
            | (go_at_call 19; refine Calls.mono (by with_reducible exact HPT.out _ HKC.out) ?_; rintro r wc ⟨vc, rfl, hoc, hkp⟩; have HKD := Lib.hid (HKC.out.trans hkp); have HOC := Lib.hid (HOB.out.kp0 hkp); have HQC := Lib.hid hoc; clear hkp hoc)
            | (go_at_call 21; refine Calls.mono (by with_reducible exact HSM.out _ _ _ _ HRL.out HOC.out.has HQC.out.has) ?_; rintro r wd ⟨rfl, hkp⟩; have HKE := Lib.hid (HKD.out.trans hkp); clear hkp)
            | (go_at_call 11; refine Calls.mono (by with_reducible exact HKN.out _ HKE.out) ?_; rintro r wz ⟨rfl, hkp⟩; have HKZ := Lib.hid (HKE.out.trans hkp); clear hkp))
          go_ret
          exact ⟨rfl, HKZ.out⟩
        · have hez : (e == 0) = false := by simpa using he
          clear hfe
          go_wp2_with (first
            | (go_at_call 22; refine Calls.mono (by with_reducible exact HFM.out) ?_; rintro r w3 ⟨rfl, hkp⟩; have HK := Lib.hid (HK.out.trans hkp); have HO := Lib.hid (HO.out.kp0 hkp); clear hkp)
            | (go_at_call 19; refine Calls.mono (by with_reducible exact HPR.out _ HK.out) ?_; rintro r wa ⟨va, rfl, hoa, hkp⟩; have HKB := Lib.hid (HK.out.trans hkp); have HOA := Lib.hid hoa; clear hkp hoa)
            | (go_at_call 22; refine Calls.mono (by with_reducible exact HFR.out _ HKB.out _ HOA.out.has) ?_; rintro r wb ⟨rfl, hkp⟩; have HKC := Lib.hid (HKB.out.trans hkp); have HOB := Lib.hid (HOA.out.kp0 hkp); clear hkp)
            | (go_at_call 19; refine Calls.mono (by with_reducible exact HPT.out _ HKC.out) ?_; rintro r wc ⟨vc, rfl, hoc, hkp⟩; have HKD := Lib.hid (HKC.out.trans hkp); have HOC := Lib.hid (HOB.out.kp0 hkp); have HQC := Lib.hid hoc; clear hkp hoc)
            | (go_at_call 21; refine Calls.mono (by with_reducible exact HSM.out _ _ _ _ HRL.out HOC.out.has HQC.out.has) ?_; rintro r wd ⟨rfl, hkp⟩; have HKE := Lib.hid (HKD.out.trans hkp); clear hkp)
            | (go_at_call 11; refine Calls.mono (by with_reducible exact HKN.out _ HKE.out) ?_; rintro r wz ⟨rfl, hkp⟩; have HKZ := Lib.hid (HKE.out.trans hkp); clear hkp))
          go_ret
          exact ⟨rfl, HKZ.out⟩
      · have HFR := Lib.hid (show ∀ W, Kp [] w W → ∀ v, tmT.Has W v lr → Calls Tryz.prog 22 #[v] W fun r w' => r = .returned (.tuple #[.string (bs t), .int .i64 81]) ∧ Kp [] W w' from hfp)
        clear hfp hft hpr
        by_cases he : e = 0
        · subst he
          obtain ⟨hp, hc⟩ := parse_format (l := l) (by rw [hfe])
          rw [hfe] at hp
          have hps := fun W h => HP.out W h s HSL9.out
          rw [show parseG s = (l, 0) from hp] at hps
          have HPS := Lib.hid (show ∀ W, Kp [] w W → Calls Tryz.prog 19 #[.string (bs s)] W fun r w' => ∃ v, r = .returned (.tuple #[v, .int .i64 0]) ∧ tmT.Own w' W.heap.size v l ∧ Kp [] W w' from hps)
          have HCH := Lib.hid (show ∀ W, Kp [] w W → ∀ v, tmT.Has W v l → Calls Tryz.prog 15 #[v] W fun r w' => r = .returned (.int .i64 0) ∧ Kp [] W w' from fun W h v hh => by have := HC.out W h v l hh HL.out HSL.out; rw [hc] at this; exact this)
          clear hp hc hps hfe
          go_wp2_with (first
            | (go_at_call 22; refine Calls.mono (by with_reducible exact HFM.out) ?_; rintro r w3 ⟨rfl, hkp⟩; have HK := Lib.hid (HK.out.trans hkp); have HO := Lib.hid (HO.out.kp0 hkp); clear hkp)
            | (go_at_call 19; refine Calls.mono (by with_reducible exact HPS.out _ HK.out) ?_; rintro r w4 ⟨v4, rfl, ho4, hkp⟩; have HK4 := Lib.hid (HK.out.trans hkp); have HO4 := Lib.hid (HO.out.kp0 hkp); have HQ4 := Lib.hid ho4; clear hkp ho4)
            | (go_at_call 21; refine Calls.mono (by with_reducible exact HSM.out _ _ _ _ HL.out HO4.out.has HQ4.out.has) ?_; rintro r w5 ⟨rfl, hkp⟩; have HK5 := Lib.hid (HK4.out.trans hkp); have HO5 := Lib.hid (HO4.out.kp0 hkp); clear hkp)
            | (go_at_call 15; refine Calls.mono (by with_reducible exact HCH.out _ HK5.out _ HO5.out.has) ?_; rintro r w6 ⟨rfl, hkp⟩; have HKA := Lib.hid (HK5.out.trans hkp); clear hkp)
            | (go_at_call 19; refine Calls.mono (by with_reducible exact HPR.out _ HKA.out) ?_; rintro r wa ⟨va, rfl, hoa, hkp⟩; have HKB := Lib.hid (HKA.out.trans hkp); have HOA := Lib.hid hoa; clear hkp hoa)
            | (go_at_call 22; refine Calls.mono (by with_reducible exact HFR.out _ HKB.out _ HOA.out.has) ?_; rintro r wb ⟨rfl, hkp⟩; have HKC := Lib.hid (HKB.out.trans hkp); have HOB := Lib.hid (HOA.out.kp0 hkp); clear hkp)
            | (go_at_call 11; refine Calls.mono (by with_reducible exact HKN.out _ HKC.out) ?_; rintro r wz ⟨rfl, hkp⟩; have HKZ := Lib.hid (HKC.out.trans hkp); clear hkp))
          go_ret
          exact ⟨rfl, HKZ.out⟩
        · have hez : (e == 0) = false := by simpa using he
          clear hfe
          go_wp2_with (first
            | (go_at_call 22; refine Calls.mono (by with_reducible exact HFM.out) ?_; rintro r w3 ⟨rfl, hkp⟩; have HK := Lib.hid (HK.out.trans hkp); have HO := Lib.hid (HO.out.kp0 hkp); clear hkp)
            | (go_at_call 19; refine Calls.mono (by with_reducible exact HPR.out _ HK.out) ?_; rintro r wa ⟨va, rfl, hoa, hkp⟩; have HKB := Lib.hid (HK.out.trans hkp); have HOA := Lib.hid hoa; clear hkp hoa)
            | (go_at_call 22; refine Calls.mono (by with_reducible exact HFR.out _ HKB.out _ HOA.out.has) ?_; rintro r wb ⟨rfl, hkp⟩; have HKC := Lib.hid (HKB.out.trans hkp); have HOB := Lib.hid (HOA.out.kp0 hkp); clear hkp)
            | (go_at_call 11; refine Calls.mono (by with_reducible exact HKN.out _ HKC.out) ?_; rintro r wz ⟨rfl, hkp⟩; have HKZ := Lib.hid (HKC.out.trans hkp); clear hkp))
          go_ret
          exact ⟨rfl, HKZ.out⟩
    · have hezr : (er == 0) = false := by simpa using her
      have HPR := Lib.hid (show ∀ W, Kp [] w W → Calls Tryz.prog 19 #[.string (bs raw)] W fun r w' => ∃ v, r = .returned (.tuple #[v, .int .i64 er]) ∧ tmT.Own w' W.heap.size v lr ∧ Kp [] W w' from hpp)
      clear hpp hrs hrl hpr
      by_cases he : e = 0
      · subst he
        obtain ⟨hp, hc⟩ := parse_format (l := l) (by rw [hfe])
        rw [hfe] at hp
        have hps := fun W h => HP.out W h s HSL9.out
        rw [show parseG s = (l, 0) from hp] at hps
        have HPS := Lib.hid (show ∀ W, Kp [] w W → Calls Tryz.prog 19 #[.string (bs s)] W fun r w' => ∃ v, r = .returned (.tuple #[v, .int .i64 0]) ∧ tmT.Own w' W.heap.size v l ∧ Kp [] W w' from hps)
        have HCH := Lib.hid (show ∀ W, Kp [] w W → ∀ v, tmT.Has W v l → Calls Tryz.prog 15 #[v] W fun r w' => r = .returned (.int .i64 0) ∧ Kp [] W w' from fun W h v hh => by have := HC.out W h v l hh HL.out HSL.out; rw [hc] at this; exact this)
        clear hp hc hps hfe
        go_wp2_with (first
          | (go_at_call 22; refine Calls.mono (by with_reducible exact HFM.out) ?_; rintro r w3 ⟨rfl, hkp⟩; have HK := Lib.hid (HK.out.trans hkp); have HO := Lib.hid (HO.out.kp0 hkp); clear hkp)
          | (go_at_call 19; refine Calls.mono (by with_reducible exact HPS.out _ HK.out) ?_; rintro r w4 ⟨v4, rfl, ho4, hkp⟩; have HK4 := Lib.hid (HK.out.trans hkp); have HO4 := Lib.hid (HO.out.kp0 hkp); have HQ4 := Lib.hid ho4; clear hkp ho4)
          | (go_at_call 21; refine Calls.mono (by with_reducible exact HSM.out _ _ _ _ HL.out HO4.out.has HQ4.out.has) ?_; rintro r w5 ⟨rfl, hkp⟩; have HK5 := Lib.hid (HK4.out.trans hkp); have HO5 := Lib.hid (HO4.out.kp0 hkp); clear hkp)
          | (go_at_call 15; refine Calls.mono (by with_reducible exact HCH.out _ HK5.out _ HO5.out.has) ?_; rintro r w6 ⟨rfl, hkp⟩; have HKA := Lib.hid (HK5.out.trans hkp); clear hkp)
          | (go_at_call 19; refine Calls.mono (by with_reducible exact HPR.out _ HKA.out) ?_; rintro r wa ⟨va, rfl, hoa, hkp⟩; have HKB := Lib.hid (HKA.out.trans hkp); have HOA := Lib.hid hoa; clear hkp hoa)
          | (go_at_call 11; refine Calls.mono (by with_reducible exact HKN.out _ HKB.out) ?_; rintro r wz ⟨rfl, hkp⟩; have HKZ := Lib.hid (HKB.out.trans hkp); clear hkp))
        go_ret
        exact ⟨rfl, HKZ.out⟩
      · have hez : (e == 0) = false := by simpa using he
        clear hfe
        go_wp2_with (first
          | (go_at_call 22; refine Calls.mono (by with_reducible exact HFM.out) ?_; rintro r w3 ⟨rfl, hkp⟩; have HK := Lib.hid (HK.out.trans hkp); have HO := Lib.hid (HO.out.kp0 hkp); clear hkp)
          | (go_at_call 19; refine Calls.mono (by with_reducible exact HPR.out _ HK.out) ?_; rintro r wa ⟨va, rfl, hoa, hkp⟩; have HKB := Lib.hid (HK.out.trans hkp); have HOA := Lib.hid hoa; clear hkp hoa)
          | (go_at_call 11; refine Calls.mono (by with_reducible exact HKN.out _ HKB.out) ?_; rintro r wz ⟨rfl, hkp⟩; have HKZ := Lib.hid (HKB.out.trans hkp); clear hkp))
        go_ret
        exact ⟨rfl, HKZ.out⟩
theorem grammarBack_walk (raw : ByteArray) (a : Option Addr) (n c : Nat) (w : World) (hE : Env w) (hi : Ints w w.heap.size (.slice a n c)) : Calls Tryz.prog 6 #[.string raw, .slice a n c] w fun e w' => e = .returned (.bool true) ∧ Below w.heap.size w w' := by
  rw [← bs_of raw]
  exact (grammarBack_list _ a n c w hE hi).mono fun _ _ ⟨h1, h2⟩ => ⟨h1, h2.below (Nat.le_refl _) (by simp)⟩
end Go.Proofs.YtkkibibecgcbmaaGreatDoor
