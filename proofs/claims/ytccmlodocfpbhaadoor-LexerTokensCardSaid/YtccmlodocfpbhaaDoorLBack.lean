/- The walk of LexerBack. -/
import Derived.Test.YtccmlodocfpbhaaDoorY
namespace Go.Proofs.YtccmlodocfpbhaaDoor
open Go.RowKit

theorem valL_len : ∀ (n : Nat) (s v q : List UInt8), s.length ≤ n → valL s = .ok v q → v.length + q.length + 1 ≤ s.length
  | _, [], v, q, _, h => by rw [valL.eq_def] at h; cases h
  | n + 1, b :: r, v, q, hn, h => by
    rw [valL.eq_def] at h
    simp only at h
    simp only [List.length_cons] at hn ⊢
    split at h
    · cases h
      simp
    · split at h
      · cases h
      · split at h
        · split at h
          · cases h
          · cases h
          · rename_i r' _ _ v' q' hv
            cases h
            simp only [List.length_cons] at hn ⊢
            have := valL_len n _ _ _ (by omega) hv
            omega
        · split at h
          · cases h
          · cases h
          · rename_i hv
            cases h
            have := valL_len n _ _ _ (by omega) hv
            simp only [List.length_cons]
            omega
theorem opL_len {k n s q : List UInt8} {x : Tok} (h : opL k n s = .ok x q) : x.key = k ∧ x.name = n ∧ x.op.length ≤ 2 ∧ x.val.length ≤ s.length := by
  unfold opL at h
  split at h
  · cases h
  · rename_i o ho
    have ho2 : o ∈ opsL := List.mem_of_find?_eq_some ho
    have ho3 : ∀ o ∈ opsL, o.length ≤ 2 := by decide
    split at h
    · rename_i r hr
      split at h
      · cases h
      · cases h
      · rename_i v q' hv
        cases h
        have h1 := valL_len _ r v _ (Nat.le_refl _) hv
        have hd : (s.drop o.length).length ≤ s.length := by simp
        rw [hr, List.length_cons] at hd
        exact ⟨rfl, rfl, ho3 o ho2, by simp only; omega⟩
    · cases h
theorem tokenL_len {s q : List UInt8} {x : Tok} (h : tokenL s = .ok x q) : x.key.length ≤ s.length ∧ x.name.length ≤ s.length ∧ x.op.length ≤ 2 ∧ x.val.length ≤ s.length := by
  have e1 := congrArg List.length (spanL_eq upCh s).1
  rw [List.length_append] at e1
  unfold tokenL at h
  split at h
  · cases h
  · split at h
    · obtain ⟨a, b, c, d⟩ := opL_len h
      rw [a, b]
      simp only [List.length_nil] at d ⊢
      exact ⟨by omega, by omega, c, by omega⟩
    · rename_i c s1 hs1
      rw [hs1, List.length_cons] at e1
      split at h
      · unfold nameL at h
        have e2 := congrArg List.length (spanL_eq nmCh s1).1
        rw [List.length_append] at e2
        split at h
        · cases h
        · rename_i c2 s2 hs2
          rw [hs2, List.length_cons] at e2
          split at h
          · cases h
          · split at h
            · obtain ⟨a, b, c, d⟩ := opL_len h
              rw [a, b]
              exact ⟨by omega, by omega, c, by omega⟩
            · cases h
      · obtain ⟨a, b, c, d⟩ := opL_len h
        rw [a, b]
        simp only [List.length_nil, List.length_cons] at d ⊢
        exact ⟨by omega, by omega, c, by omega⟩
theorem tokensF_len (N : Nat) : ∀ (f : Nat) (s : List UInt8) (l : List Tok) (q : List UInt8), s.all lnCh = true → s.length ≤ N → tokensF f s = .ok l q → l.length ≤ s.length ∧ ∀ x ∈ l, x.key.length ≤ N ∧ x.name.length ≤ N ∧ x.op.length ≤ 2 ∧ x.val.length ≤ N
  | 0, _, _, _, _, _, h => by cases h
  | f + 1, s, l, q, hs, hN, h => by
    rw [tokensF] at h
    split at h
    · cases h
      exact ⟨Nat.zero_le _, fun x hx => by cases hx⟩
    · split at h
      · cases h
      · cases h
      · rename_i x r hx
        obtain ⟨g, p, hp, hpn⟩ := tokenL_good hs hx
        obtain ⟨y1, y2, y3, y4⟩ := tokenL_len hx
        split at h
        · cases h
        · split at h
          · cases h
          · cases h
          · rename_i l' q' hl
            cases h
            have hr : r.all lnCh = true := all_suffix hs hp.symm
            have ht : (trimL r).all lnCh = true := List.all_eq_true.2 fun b hb => List.all_eq_true.1 hr b ((List.dropWhile_sublist _).mem hb)
            have hlr := trimL_le r
            have hls : r.length < s.length := by
              rw [hp, List.length_append]
              have := List.length_pos_iff.2 hpn
              omega
            obtain ⟨i1, i2⟩ := tokensF_len N f (trimL r) l' _ ht (by omega) hl
            refine ⟨by rw [List.length_cons]; omega, fun z hz => ?_⟩
            rcases List.mem_cons.1 hz with rfl | hz
            · exact ⟨by omega, by omega, y3, by omega⟩
            · exact i2 z hz
/-- WHAT A LINE'S TOKENS ARE LIKE. -/
theorem read_ok {t : List UInt8} {l : List Tok} (h : tokensE t = (l, 0)) : l.length ≤ 1024 ∧ (∀ x ∈ l, Good x) ∧ ∀ x ∈ l, Sm x := by
  unfold tokensE at h
  split at h
  · cases h
  · split at h
    · cases h
    · rename_i h1 h2
      split at h
      · cases h
      · cases h
      · rename_i l' q hl
        cases h
        have hln : t.all lnCh = true := by simpa using h2
        have ht : (trimL t).all lnCh = true := List.all_eq_true.2 fun b hb => List.all_eq_true.1 hln b ((List.dropWhile_sublist _).mem hb)
        have hlt := trimL_le t
        obtain ⟨i1, i2⟩ := tokensF_len 1024 _ _ _ _ ht (by omega) hl
        exact ⟨by omega, tokensF_good _ _ _ _ ht hl, fun x hx => by obtain ⟨a, b, c, d⟩ := i2 x hx; exact ⟨by omega, by omega, by omega, by omega⟩⟩

/-- Two texts in a row. -/
def Two (w : World) (b : Nat) (s t : List UInt8) : Prop := b < w.heap.size ∧ ∀ (j : Nat) x, [s, t][j]? = some x → w.cell? ⟨b, j, none⟩ = some (.string (bs x))
theorem Two.kp0 {w w' : World} {b : Nat} {s t : List UInt8} (h : Two w b s t) (hk : Kp [] w w') : Two w' b s t :=
  ⟨by have := hk.size; have := h.1; omega, fun j x hx => by
    have := h.2 j x hx
    simp only [World.cell?, hk.block b h.1 (by simp)] at this ⊢
    exact this⟩
theorem two_new (w : World) (s t : List UInt8) : Two (w.alloc (.cells #[.string (bs s), .string (bs t)] 9)) w.heap.size s t :=
  ⟨by simp, fun j x hx => by
    rw [cell_of_row _ _ j _ _ _ (heap_alloc_last w _)]
    match j, hx with
    | 0, hx => cases hx; rfl
    | 1, hx => cases hx; rfl
    | j + 2, hx => simp at hx⟩

set_option maxHeartbeats 8000000 in
set_option maxRecDepth 100000 in
theorem lexerBack_list (raw : List UInt8) (a : Option Addr) (n c : Nat) (w : World) (hm : Max w) (hi : Ints w w.heap.size (.slice a n c)) : Calls Tryd.prog 6 #[.string (bs raw), .slice a n c] w fun e w' => e = .returned (.bool true) ∧ Below w.heap.size w w' := by
  obtain ⟨tb, htb⟩ : ∃ tb, w.heap.size = tb := ⟨_, rfl⟩
  obtain ⟨w1, hw1⟩ : ∃ w1, w.alloc (.cells #[.slice a n c, .int .i64 0] 31) = w1 := ⟨_, rfl⟩
  have ht0 := tape_new hi
  rw [hw1, htb] at ht0
  have hk1 : Kp [] w w1 := by rw [← hw1]; exact (Kp.refl [] w).alloc _
  have htw : w.heap.size ≤ tb := by omega
  have htn : 0 ≠ tb := by have := hm.pos; omega
  have HTW := Lib.hid htw
  have HTN := Lib.hid htn
  have HK1 := Lib.hid hk1
  have HT1B := Lib.hid ht0.lt
  have HD := Lib.hid (drawn_any ht0 (by omega))
  have HM := Lib.hid fun W (h : Kp [] w W) => (show Max W from hm.kp h (by simp))
  have HKN := Lib.hid fun W (h : Kp [] w W) => known_any W (HM.out _ h)
  have HSM := Lib.hid fun (W : World) (u v : Value) (l : List Tok) (hl : l.length ≤ 1024) => same_any (w := W) (su := u) (sv := v) (l := l) (by omega)
  clear ht0 hi hm hk1 htw htn
  by_cases hraw : 900 < raw.length
  · have hrz : (900 : Int) < ((bs raw).size : Int) := by rw [bs_size]; omega
    clear hraw
    go_enter Tryd.func6, Tryd.ntmps6
    go_wp2_with (first
      | (go_at_call 18; refine Calls.mono (by with_reducible exact HD.out) ?_; rintro r w2 ⟨v, rfl, xs, hown, hxl, hgd, k2, hT2, hk2, hkp⟩; have HO2 := Lib.hid hown; have HK2 := Lib.hid (HK1.out.tapeOff hkp HTW.out); have hfl := fmtL_lo xs fun x hx => (hgd x hx).2; have hfe : fmtE xs = (fmtL xs, 0) := (by rw [fmtE_good fun x hx => (hgd x hx).1, if_neg (by omega)]); have hbe := backE (l := xs) (fun x hx => (hgd x hx).1) (by omega); have hf := format_any (HM.out _ HK2.out) hown.has (by omega) (fun x hx => lo_sm (hgd x hx).2); rw [hfe] at hf; have HF := Lib.hid hf; have htk := (fun W h => tokens_any (fmtL xs) W (HM.out W h) (by omega)); rw [hbe] at htk; have HTK := Lib.hid htk; have HXL := Lib.hid (show xs.length ≤ 1024 by omega); clear hown hxl hgd hT2 hk2 hkp hfl hfe hbe hf htk)
      | (go_at_call 21; refine Calls.mono (by with_reducible exact HF.out) ?_; rintro r w3 ⟨rfl, hkp⟩; have HK3 := Lib.hid (HK2.out.trans hkp); have HO3 := Lib.hid (HO2.out.kp0 hkp); clear hkp)
      | (go_at_call 15; refine Calls.mono (by with_reducible exact HTK.out _ HK3.out) ?_; rintro r w4 ⟨v2, rfl, ho, hkp⟩; have HK4 := Lib.hid (HK3.out.trans hkp); have HO4 := Lib.hid (HO3.out.kp0 hkp); have HP4 := Lib.hid ho; clear hkp ho)
      | (go_at_call 17; refine Calls.mono (by with_reducible exact HSM.out _ _ _ _ HXL.out HO4.out.has HP4.out.has) ?_; rintro r w5 ⟨rfl, hkp⟩; have HK5 := Lib.hid (HK4.out.trans hkp); have HO5 := Lib.hid (HO4.out.kp0 hkp); have HP5 := Lib.hid (HP4.out.kp0 hkp); clear hkp)
      | (go_at_call 17; refine Calls.mono (by with_reducible exact HSM.out _ _ _ _ HXL.out HO5.out.has HP5.out.has) ?_; rintro r w6 ⟨rfl, hkp⟩; have HK6 := Lib.hid (HK5.out.trans hkp); clear hkp)
      | (go_at_call 10; refine Calls.mono (by with_reducible exact HKN.out _ HK6.out) ?_; rintro r w7 ⟨rfl, hkp⟩; have HK7 := Lib.hid (HK6.out.trans hkp); clear hkp))
    go_ret
    exact ⟨rfl, HK7.out.toBelowS⟩
  · have hrz : ¬ (900 : Int) < ((bs raw).size : Int) := by rw [bs_size]; omega
    have HRL := Lib.hid (show raw.length ≤ 1000 by omega)
    clear hraw
    go_enter Tryd.func6, Tryd.ntmps6
    go_wp2_with (first
      | (go_at_call 18; refine Calls.mono (by with_reducible exact HD.out) ?_; rintro r w2 ⟨v, rfl, xs, hown, hxl, hgd, k2, hT2, hk2, hkp⟩; have HO2 := Lib.hid hown; have HT2 := Lib.hid hT2; have HKK := Lib.hid (show k2 ≤ 500 by omega); have HK2 := Lib.hid (HK1.out.tapeOff hkp HTW.out); have hfl := fmtL_lo xs fun x hx => (hgd x hx).2; have hfe : fmtE xs = (fmtL xs, 0) := (by rw [fmtE_good fun x hx => (hgd x hx).1, if_neg (by omega)]); have hbe := backE (l := xs) (fun x hx => (hgd x hx).1) (by omega); have hf := format_any (HM.out _ HK2.out) hown.has (by omega) (fun x hx => lo_sm (hgd x hx).2); rw [hfe] at hf; have HF := Lib.hid hf; have htk := (fun W h => tokens_any (fmtL xs) W (HM.out W h) (by omega)); rw [hbe] at htk; have HTK := Lib.hid htk; have HXL := Lib.hid (show xs.length ≤ 1024 by omega); clear hown hxl hgd hT2 hk2 hkp hfl hfe hbe hf htk)
      | (go_at_call 21; refine Calls.mono (by with_reducible exact HF.out) ?_; rintro r w3 ⟨rfl, hkp⟩; have HK3 := Lib.hid (HK2.out.trans hkp); have HT3 := Lib.hid (HT2.out.kp hkp (by simp)); have HO3 := Lib.hid (HO2.out.kp0 hkp); clear hkp)
      | (go_at_call 15; refine Calls.mono (by with_reducible exact HTK.out _ HK3.out) ?_; rintro r w4 ⟨v2, rfl, ho, hkp⟩; have HK4 := Lib.hid (HK3.out.trans hkp); have HT4 := Lib.hid (HT3.out.kp hkp (by simp)); have HO4 := Lib.hid (HO3.out.kp0 hkp); have HP4 := Lib.hid ho; clear hkp ho)
      | (go_at_call 17; refine Calls.mono (by with_reducible exact HSM.out _ _ _ _ HXL.out HO4.out.has HP4.out.has) ?_; rintro r w5 ⟨rfl, hkp⟩; have HK5 := Lib.hid (HK4.out.trans hkp); have HL5 := Lib.hid (line_any (HM.out _ HK5.out) (HT4.out.kp hkp (by simp)) HKK.out HTN.out); clear hkp)
      | (go_at_call 14; refine Calls.mono (by with_reducible exact HL5.out) ?_; rintro r w6 ⟨ln, rfl, hll, hkp, hrest⟩; have HLL := Lib.hid hll; have HK6 := Lib.hid (HK5.out.tapeOff hkp HTW.out); obtain ⟨B2, hB2⟩ : ∃ B2, w6.heap.size = B2 := ⟨_, rfl⟩; obtain ⟨w7, hw7⟩ : ∃ w7, w6.alloc (.cells #[.string (bs raw), .string (bs ln)] 9) = w7 := ⟨_, rfl⟩; have htwo := two_new w6 raw ln; rw [hw7, hB2] at htwo; have HTWO := Lib.hid htwo; have HK7 := Lib.hid (HK6.out.trans (show Kp [] w6 w7 by rw [← hw7]; exact (Kp.refl [] w6).alloc _)); clear hll hkp hrest htwo))
    go_loopg [12, 6, 7, 8, 9, 10] 2 (fun g s12 s6 s7 s8 s9 s10 wx => ∃ i : Nat, s12 = .int .i64 (i : Int) ∧ i + g = 2 ∧ Kp [] w wx ∧ Two wx B2 raw ln)
    case atStart => exact ⟨0, rfl, rfl, HK7.out, HTWO.out⟩
    case round =>
      obtain ⟨i, rfl, hig, hkp, htwo⟩ := hrel
      by_cases hi : i < 2
      · obtain ⟨g, rfl⟩ : ∃ g, gk = g + 1 := ⟨gk - 1, by omega⟩
        have hiz : (i : Int) < 2 := by omega
        have hwi : IntKind.i64.wrap ((i : Int) + 1) = (i : Int) + 1 := by rw [IntKind.wrap_i64]; omega
        obtain ⟨t, ht⟩ : ∃ t, [raw, ln][i]? = some t := ⟨_, List.getElem?_eq_getElem (by simpa using hi)⟩
        have hc := htwo.2 i t ht
        have htl : t.length ≤ 1000 := by
          have := List.mem_of_getElem? ht
          simp only [List.mem_cons, List.not_mem_nil, or_false] at this
          rcases this with rfl | rfl
          · exact HRL.out
          · exact HLL.out
        obtain ⟨l, e, hte⟩ : ∃ l e, tokensE t = (l, e) := ⟨_, _, rfl⟩
        have htk := tokens_any t wr (HM.out _ hkp) (by omega)
        rw [hte] at htk
        have HK := Lib.hid hkp
        have HTWo := Lib.hid htwo
        have HIG := Lib.hid (show i + 1 + g = 2 by omega)
        by_cases he : e = 0
        · subst he
          obtain ⟨hl, hg, hs⟩ := read_ok hte
          have HTQ := Lib.hid (show Calls Tryd.prog 15 #[.string (bs t)] wr fun r w' => ∃ v, r = .returned (.tuple #[v, .int .i64 0]) ∧ tokT.Own w' wr.heap.size v l ∧ Kp [] wr w' from htk)
          have hfm := fun W v (h : Kp [] w W) (hh : tokT.Has W v l) => format_any (HM.out _ h) hh (by omega) hs
          have HL := Lib.hid hl
          by_cases hfl : 1024 < (fmtL l).length
          · rw [fmtE_good hg, if_pos hfl] at hfm
            have HFM := Lib.hid (show ∀ W v, Kp [] w W → tokT.Has W v l → Calls Tryd.prog 21 #[v] W fun r w' => r = .returned (.tuple #[.string (bs []), .int .i64 81]) ∧ Kp [] W w' from hfm)
            clear hig hkp htwo hi ht htl hte htk hl hg hs hfm hfl
            go_wp2_with (first
              | (go_at_call 15; refine Calls.mono (by with_reducible exact HTQ.out) ?_; rintro r wa ⟨va, rfl, ho, hkp⟩; have Ka := Lib.hid (HK.out.trans hkp); have Ta := Lib.hid (HTWo.out.kp0 hkp); have Oa := Lib.hid ho; clear ho hkp)
              | (go_at_call 21; refine Calls.mono (by with_reducible exact HFM.out _ _ Ka.out Oa.out.has) ?_; rintro r wb ⟨rfl, hkp⟩; have Kb := Lib.hid (Ka.out.trans hkp); have Tb := Lib.hid (Ta.out.kp0 hkp); clear hkp))
            go_roundg g
            case measure => omega
            case rel => exact ⟨i + 1, rfl, HIG.out, Kb.out, Tb.out⟩
          · rw [fmtE_good hg, if_neg hfl] at hfm
            have HFM := Lib.hid (show ∀ W v, Kp [] w W → tokT.Has W v l → Calls Tryd.prog 21 #[v] W fun r w' => r = .returned (.tuple #[.string (bs (fmtL l)), .int .i64 0]) ∧ Kp [] W w' from hfm)
            have htr := fun W (h : Kp [] w W) => tokens_any (fmtL l) W (HM.out _ h) (by omega)
            rw [backE hg (by omega)] at htr
            have HTR := Lib.hid (show ∀ W, Kp [] w W → Calls Tryd.prog 15 #[.string (bs (fmtL l))] W fun r w' => ∃ v, r = .returned (.tuple #[v, .int .i64 0]) ∧ tokT.Own w' W.heap.size v l ∧ Kp [] W w' from htr)
            clear hig hkp htwo hi ht htl hte htk hl hg hs hfm hfl htr
            go_wp2_with (first
              | (go_at_call 15; refine Calls.mono (by with_reducible exact HTQ.out) ?_; rintro r wa ⟨va, rfl, ho, hkp⟩; have Ka := Lib.hid (HK.out.trans hkp); have Ta := Lib.hid (HTWo.out.kp0 hkp); have Oa := Lib.hid ho; clear ho hkp)
              | (go_at_call 21; refine Calls.mono (by with_reducible exact HFM.out _ _ Ka.out Oa.out.has) ?_; rintro r wb ⟨rfl, hkp⟩; have Kb := Lib.hid (Ka.out.trans hkp); have Tb := Lib.hid (Ta.out.kp0 hkp); have Ob := Lib.hid (Oa.out.kp0 hkp); clear hkp)
              | (go_at_call 15; refine Calls.mono (by with_reducible exact HTR.out _ Kb.out) ?_; rintro r wc ⟨vc, rfl, ho, hkp⟩; have Kc := Lib.hid (Kb.out.trans hkp); have Tc := Lib.hid (Tb.out.kp0 hkp); have Oc := Lib.hid (Ob.out.kp0 hkp); have Pc := Lib.hid ho; clear ho hkp)
              | (go_at_call 17; refine Calls.mono (by with_reducible exact HSM.out _ _ _ _ HL.out Oc.out.has Pc.out.has) ?_; rintro r wd ⟨rfl, hkp⟩; have Kd := Lib.hid (Kc.out.trans hkp); have Td := Lib.hid (Tc.out.kp0 hkp); clear hkp))
            go_roundg g
            case measure => omega
            case rel => exact ⟨i + 1, rfl, HIG.out, Kd.out, Td.out⟩
        · have hez : ((e : Int) == 0) = false := by simp; exact he
          have HTQ := Lib.hid htk
          clear hig hkp htwo hi ht htl hte htk he
          go_wp2_with (first
            | (go_at_call 15; refine Calls.mono (by with_reducible exact HTQ.out) ?_; rintro r wa ⟨va, rfl, ho, hkp⟩; have Ka := Lib.hid (HK.out.trans hkp); have Ta := Lib.hid (HTWo.out.kp0 hkp); clear ho hkp))
          go_roundg g
          case measure => omega
          case rel => exact ⟨i + 1, rfl, HIG.out, Ka.out, Ta.out⟩
      · have hiz : ¬ ((i : Int) < 2) := by omega
        have HKK2 := Lib.hid hkp
        clear hig hkp htwo hi
        go_wp2_with (go_at_call 10; refine Calls.mono (by with_reducible exact HKN.out _ HKK2.out) ?_; rintro r w7 ⟨rfl, hkp⟩; have HK8 := Lib.hid (HKK2.out.trans hkp); clear hkp)
        go_ret
        exact ⟨rfl, HK8.out.toBelowS⟩
theorem lexerBack_walk (raw : ByteArray) (a : Option Addr) (n c : Nat) (w : World) (hm : Max w) (hi : Ints w w.heap.size (.slice a n c)) : Calls Tryd.prog 6 #[.string raw, .slice a n c] w fun e w' => e = .returned (.bool true) ∧ Below w.heap.size w w' := by
  rw [← bs_of raw]
  exact lexerBack_list _ a n c w hm hi
end Go.Proofs.YtccmlodocfpbhaaDoor
