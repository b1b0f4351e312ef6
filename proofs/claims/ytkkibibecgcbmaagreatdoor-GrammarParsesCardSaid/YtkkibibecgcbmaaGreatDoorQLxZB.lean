/- LxZB -/
import Derived.Test.YtkkibibecgcbmaaGreatDoorQLxZA
open Go.Lib renaming hid → qH
open Go.Calls renaming mono → cM
set_option maxRecDepth 100000
set_option maxHeartbeats 16000000
namespace Go.Proofs.YtkkibibecgcbmaaGreatDoor.Lx
open Go.RowKit
def lnB (z : Int) : Bool := z == 9 || prB z
theorem lnB_eq (b : UInt8) : lnCh b = lnB (b.toNat : Int) := by
 have := forall_u8 (p := fun b => lnCh b == lnB (b.toNat : Int)) (by decide +kernel) b
 simpa using this
theorem lnB_no {z : Int} (h : lnB z = false) : z ≠ 9 ∧ (z < 32 ∨ 126 < z) := by
 unfold lnB prB at h
 rw [Bool.or_eq_false_iff] at h
 refine ⟨by simpa using h.1, ?_⟩
 have h2 := h.2
 simp only [Bool.not_eq_false', Bool.or_eq_true, decide_eq_true_eq] at h2
 exact h2
theorem lnB_yes {z : Int} (h : lnB z = true) : z = 9 ∨ ¬ z < 32 ∧ ¬ 126 < z := by
 unfold lnB prB at h
 rw [Bool.or_eq_true] at h
 rcases h with h | h
 ·exact .inl (by simpa using h)
 ·right
  simp only [Bool.not_eq_true', Bool.or_eq_false_iff, decide_eq_false_iff_not] at h
  exact h
theorem tokensF_ne (f : Nat) {s : List UInt8} (h : s ≠ []) : tokensF (f + 1) s = match tokenL s with
  | .bad => .bad
  | .cut => .cut
  | .ok x r => if r ≠ [] ∧ trimL r = r then .bad else preT [x] (tokensF f (trimL r)) := by
 rw [tokensF, if_neg h]
 cases tokenL s with
 | bad => rfl
 | cut => rfl
 | ok x r =>
  simp only
  split
  ·rfl
  ·cases tokensF f (trimL r) <;> rfl
theorem tk_push {w w3 wb w7 : World} {v : Value} {xs : List Tok} {Nb tb : Nat} {x : Tok} (hk : Kp [] w w3) (ho : tokT.Own w3 w.heap.size v xs) (htb : w3.heap.size = tb) (hwb : w3.alloc (.cells (tokC x) 81) = wb) (hNb : wb.heap.size = Nb) (hw7 : wb.alloc (.cells (tokC x) 81) = w7) :
  TAt wb tb x ∧ Kp [] w w7 ∧ tokT.Own w7 w.heap.size v xs ∧ w7.rangeAt Nb 0 (tokT.cf x) := by
 have hk1 : Kp [] w3 wb := by rw [← hwb]; exact (Kp.refl [] _).alloc _
 have hk2 : Kp [] wb w7 := by rw [← hw7]; exact (Kp.refl [] _).alloc _
 refine ⟨by rw [← hwb, ← htb]; exact heap_alloc_last w3 _, hk.trans (hk1.trans hk2), ho.kp0 (hk1.trans hk2), ?_⟩
 have h : TAt w7 Nb x := by rw [← hw7, ← hNb]; exact heap_alloc_last wb _
 exact h.range
theorem refTokens_any (s : List UInt8) (w : World) : Calls Tryz.prog 48 #[.string (bs s)] w fun r w' => ∃ v, r = .returned (.tuple #[v, .int .i64 ((tokensE s).2 : Int)]) ∧ tokT.Own w' w.heap.size v (tokensE s).1 ∧ Kp [] w w' := by
 by_cases h1 : 1024 < s.length
 ·have hE : tokensE s = ([], 81) := if_pos h1
  have hz : (1024 : Int) < ((bs s).size : Int) := by rw [bs_size]; omega
  rw [hE]
  clear hE h1
  go_enter Tryz.func48, Tryz.ntmps48
  go_wp2
  go_ret2
  exact ⟨_, rfl, RT.Own.nil _ _ _, Kp.refl _ _⟩
 ·have hz : ¬ (1024 : Int) < ((bs s).size : Int) := by rw [bs_size]; omega
  have HE := qH (show tokensE s = if s.all lnCh = false then ([], 80) else match tokensL s with | .bad => ([], 82) | .cut => ([], 83) | .ok l _ => (l, 0) by unfold tokensE; rw [if_neg h1]; rfl)
  have HL := qH (show s.length ≤ 1024 by omega)
  clear h1
  go_enter Tryz.func48, Tryz.ntmps48
  go_wp2
  go_loopg [4] s.length (fun g s4 wx => w = wx ∧ ∃ i : Nat, s4 = .int .i64 (i : Int) ∧ i + g = s.length ∧ Hid ((s.take i).all lnCh = true))
  case atStart => exact ⟨rfl, 0, rfl, by omega, qH rfl⟩
  case round =>
   obtain ⟨rfl, i, rfl, hig, HG3⟩ := hrel
   have hbz : (bs s).size = s.length := bs_size _
   by_cases hi : i < s.length
   ·obtain ⟨g, rfl⟩ : ∃ g, gk = g + 1 := ⟨gk - 1, by omega⟩
    have hi2 : i < (bs s).size := by rw [hbz]; exact hi
    have hiz : (i : Int) < ((bs s).size : Int) := by omega
    have hwi : IntKind.i64.wrap ((i : Int) + 1) = ((i + 1 : Nat) : Int) := by rw [IntKind.wrap_i64]; have := HL.out; omega
    have HI := qH hig
    have hpe := lnB_eq ((bs s)[i]'hi2)
    obtain ⟨z, hzz⟩ : ∃ z, (((bs s)[i]'hi2).toNat : Int) = z := ⟨_, rfl⟩
    rw [hzz] at hpe
    cases hc : lnCh ((bs s)[i]'hi2) with
    | false =>
     have HB := qH (show tokensE s = ([], 80) by rw [HE.out, if_pos (show s.all lnCh = false from all_not hi hc)])
     obtain ⟨z1, z2⟩ := lnB_no (hpe ▸ hc)
     have hz9 : (z != 9) = true := by simpa using z1
     clear hc hig hi hbz HG3 hpe z1
     by_cases h1 : z < 32
     ·clear z2
      go_wp2
      go_ret2
      rw [HB.out]
      exact ⟨_, rfl, RT.Own.nil _ _ _, Kp.refl _ _⟩
     ·have h2 : 126 < z := by omega
      clear z2
      go_wp2
      go_ret2
      rw [HB.out]
      exact ⟨_, rfl, RT.Own.nil _ _ _, Kp.refl _ _⟩
    | true =>
     have HG2 := qH (show (s.take (i + 1)).all lnCh = true from all_at hi HG3.out hc)
     have hzy := lnB_yes (hpe ▸ hc)
     clear hc hig hi hbz HG3 hpe
     by_cases h9 : z = 9
     ·have hz9 : (z != 9) = false := by rw [h9]; rfl
      clear hzy h9
      go_wp2
      go_roundg g
      case measure => omega
      case rel => exact ⟨rfl, i + 1, rfl, by have := HI.out; omega, HG2⟩
     ·have hz9 : (z != 9) = true := by simpa using h9
      have h1 : ¬ z < 32 := by omega
      have h2 : ¬ 126 < z := by omega
      clear hzy h9
      go_wp2
      go_roundg g
      case measure => omega
      case rel => exact ⟨rfl, i + 1, rfl, by have := HI.out; omega, HG2⟩
   ·have hiz : ¬ ((i : Int) < ((bs s).size : Int)) := by omega
    have hall : s.all lnCh = true := by
     have h := HG3.out
     rwa [List.take_of_length_le (by omega)] at h
    have HE3 := qH (show tokensE s = match tokensL s with | .bad => ([], 82) | .cut => ([], 83) | .ok l _ => (l, 0) by rw [HE.out, if_neg (by rw [hall]; simp)])
    have HALL := qH hall
    have HTR := qH (trimSep s w (by have := HL.out; omega))
    clear hig hi hbz HG3 hall HE
    go_wp2_with (go_at_call 45; refine cM (by with_reducible exact HTR.out) ?_; rintro r w2 ⟨rfl, hk⟩; have HK2 := qH hk; clear hk)
    go_loopg [5, 6, 7, 8, 9] (s.length + 1) (fun g s5 s6 s7 s8 s9 wx => ∃ v xs cur, v = s5 ∧ s6 = .string (bs cur) ∧ tokT.Own wx w.heap.size v xs ∧ Kp [] w wx ∧ cur.all lnCh = true ∧ cur.length < g ∧ xs.length + cur.length ≤ 1024 ∧ Hid (tokensL s = preT xs (tokensF g cur)))
    case atStart =>
     have h1 := trimL_le s
     have h2 := HL.out
     refine ⟨_, [], trimL s, rfl, rfl, RT.Own.nil _ _ _, HK2.out, trimL_all HALL.out, by omega, by simp; omega, qH ?_⟩
     rw [preT_nil]
     rfl
    case round =>
     obtain ⟨v, xs, cur, rfl, rfl, hown, hkx, hra, hrf, hxr, HTK⟩ := hrel
     have HO := qH hown
     have HKX := qH hkx
     obtain ⟨f', rfl⟩ : ∃ f', gk = f' + 1 := ⟨gk - 1, by omega⟩
     by_cases hre : cur = []
     ·subst hre
      have he0 : (bs []).toList.isEmpty = true := bs_isEmpty []
      have HE2 := qH (show tokensE s = (xs, 0) by rw [HE3.out, HTK.out, show tokensF (f' + 1) [] = .ok [] [] from rfl]; simp [preT])
      clear hown hkx hra hrf hxr
      go_wp2
      go_ret2
      rw [HE2.out]
      exact ⟨_, rfl, HO.out, HKX.out⟩
     ·have hne : (bs cur).toList.isEmpty = false := by
       rw [bs_isEmpty]
       simp [hre]
      have htk := HTK.out
      rw [tokensF_ne f' hre] at htk
      have HT0 := token_any cur wr (by omega)
      cases hb : tokenL cur with
      | bad =>
       rw [hb] at htk
       simp only [preT] at htk
       have HE2 := qH (show tokensE s = ([], 82) by rw [HE3.out, htk])
       have HC := qH (show Calls Tryz.prog 78 #[.string (bs cur)] wr fun r w' => ∃ t rest, r = .returned (.tuple #[.agg (tokC t), .string (bs rest), .int .i64 82]) ∧ Kp [] wr w' from HT0.mono fun _ _ ⟨t, rest, e, h1, h2, h3⟩ => ⟨t, rest, by unfold TokR at h2; rw [hb] at h2; simp only at h2; rw [h1, h2]; rfl, h3⟩)
       unfold tokC at HC
       clear htk hb hown hkx hra hrf hxr hre HT0
       go_wp2_with (go_at_call 78; refine cM (by with_reducible exact HC.out) ?_; rintro r w3 ⟨t, rest, rfl, hk⟩; have HK3 := qH (HKX.out.trans hk); clear hk)
       go_ret2
       rw [HE2.out]
       exact ⟨_, rfl, RT.Own.nil _ _ _, HK3.out.alloc _⟩
      | cut =>
       rw [hb] at htk
       simp only [preT] at htk
       have HE2 := qH (show tokensE s = ([], 83) by rw [HE3.out, htk])
       have HC := qH (show Calls Tryz.prog 78 #[.string (bs cur)] wr fun r w' => ∃ t rest, r = .returned (.tuple #[.agg (tokC t), .string (bs rest), .int .i64 83]) ∧ Kp [] wr w' from HT0.mono fun _ _ ⟨t, rest, e, h1, h2, h3⟩ => ⟨t, rest, by unfold TokR at h2; rw [hb] at h2; simp only at h2; rw [h1, h2]; rfl, h3⟩)
       unfold tokC at HC
       clear htk hb hown hkx hra hrf hxr hre HT0
       go_wp2_with (go_at_call 78; refine cM (by with_reducible exact HC.out) ?_; rintro r w3 ⟨t, rest, rfl, hk⟩; have HK3 := qH (HKX.out.trans hk); clear hk)
       go_ret2
       rw [HE2.out]
       exact ⟨_, rfl, RT.Own.nil _ _ _, HK3.out.alloc _⟩
      | ok x q =>
       rw [hb] at htk
       simp only at htk
       have HC := qH (show Calls Tryz.prog 78 #[.string (bs cur)] wr fun r w' => r = .returned (.tuple #[.agg (tokC x), .string (bs q), .int .i64 0]) ∧ Kp [] wr w' from HT0.mono fun _ _ ⟨t, rest, e, h1, h2, h3⟩ => by
        unfold TokR at h2
        rw [hb] at h2
        simp only at h2
        obtain ⟨rfl, rfl, rfl⟩ := h2
        exact ⟨h1, h3⟩)
       unfold tokC at HC
       obtain ⟨_, pp, hpp, hpn⟩ := tokenL_good hra hb
       have hqa : q.all lnCh = true := all_suffix hra hpp.symm
       have hql : q.length < cur.length := by
        rw [hpp, List.length_append]
        have := List.length_pos_iff.2 hpn
        omega
       have HQA := qH hqa
       have HN := qH (show q.length < cur.length ∧ cur.length < f' + 1 ∧ xs.length + cur.length ≤ 1024 from ⟨hql, hrf, hxr⟩)
       have HXL := qH (show xs.length ≤ 1000000 by omega)
       have HTQ := qH fun W => trimSep q W (by omega)
       have hqe := bs_isEmpty q
       have hqq := str_eqb (trimL q) q
       by_cases hbad : q ≠ [] ∧ trimL q = q
       ·rw [if_pos hbad] at htk
        simp only [preT] at htk
        have HE2 := qH (show tokensE s = ([], 82) by rw [HE3.out, htk])
        have hq1 : (bs q).toList.isEmpty = false := by rw [hqe]; simp [hbad.1]
        have hq2 : ((bs (trimL q)).toList == (bs q).toList) = true := by rw [hqq]; simp [hbad.2]
        clear htk hb hown hkx hra hrf hxr hre HT0 hpp hpn hqa hql hqe hqq hbad
        go_wp2_with (first
         | (go_at_call 78; refine cM (by with_reducible exact HC.out) ?_; rintro r w3 ⟨rfl, hk⟩; obtain ⟨tb, htb⟩ : ∃ tb, w3.heap.size = tb := ⟨_, rfl⟩; obtain ⟨wb, hwb⟩ : ∃ wb, w3.alloc (.cells #[.string (bs x.key), .string (bs x.name), .string (bs x.op), .string (bs x.val)] 81) = wb := ⟨_, rfl⟩; obtain ⟨Nb, hNb⟩ : ∃ Nb, wb.heap.size = Nb := ⟨_, rfl⟩; obtain ⟨w7, hw7⟩ : ∃ w7, wb.alloc (.cells #[.string (bs x.key), .string (bs x.name), .string (bs x.op), .string (bs x.val)] 81) = w7 := ⟨_, rfl⟩; have h7 := tk_push (x := x) (HKX.out.trans hk) (HO.out.kp0 hk) htb hwb hNb hw7; obtain ⟨c0, c1, c2, c3⟩ := h7.1.cells; have H7 := qH h7.2; clear hk h7)
         | (at_builtin; refine wpList_append_r (r := tokT) rfl (.tmp 48) (.tmp 50) rfl w.heap.size v xs rfl H7.out.2.1 Nb 1 x rfl H7.out.2.2 HXL.out H7.out.1.size ?_; intro v8 w8 hown8 hgr8; have HO8 := qH hown8; have HK8 := qH (kp_grownK H7.out.1 hgr8 fun b hb => (H7.out.2.1.ge b hb).1); clear hown8 hgr8)
         | (go_at_call 45; refine cM (by with_reducible exact HTQ.out _) ?_; rintro r w9 ⟨rfl, hk⟩; have HK9 := qH (HK8.out.trans hk); clear hk))
        go_ret2
        rw [HE2.out]
        exact ⟨_, rfl, RT.Own.nil _ _ _, HK9.out⟩
       ·rw [if_neg hbad, preT_app] at htk
        have HT2 := qH htk
        by_cases hq0 : q = []
        ·have hq1 : (bs q).toList.isEmpty = true := by rw [hqe, hq0]; rfl
         clear htk hb hown hkx hra hrf hxr hre HT0 hpp hpn hqa hql hqe hqq hbad hq0
         go_wp2_with (first
          | (go_at_call 78; refine cM (by with_reducible exact HC.out) ?_; rintro r w3 ⟨rfl, hk⟩; obtain ⟨tb, htb⟩ : ∃ tb, w3.heap.size = tb := ⟨_, rfl⟩; obtain ⟨wb, hwb⟩ : ∃ wb, w3.alloc (.cells #[.string (bs x.key), .string (bs x.name), .string (bs x.op), .string (bs x.val)] 81) = wb := ⟨_, rfl⟩; obtain ⟨Nb, hNb⟩ : ∃ Nb, wb.heap.size = Nb := ⟨_, rfl⟩; obtain ⟨w7, hw7⟩ : ∃ w7, wb.alloc (.cells #[.string (bs x.key), .string (bs x.name), .string (bs x.op), .string (bs x.val)] 81) = w7 := ⟨_, rfl⟩; have h7 := tk_push (x := x) (HKX.out.trans hk) (HO.out.kp0 hk) htb hwb hNb hw7; obtain ⟨c0, c1, c2, c3⟩ := h7.1.cells; have H7 := qH h7.2; clear hk h7)
          | (at_builtin; refine wpList_append_r (r := tokT) rfl (.tmp 48) (.tmp 50) rfl w.heap.size v xs rfl H7.out.2.1 Nb 1 x rfl H7.out.2.2 HXL.out H7.out.1.size ?_; intro v8 w8 hown8 hgr8; have HO8 := qH hown8; have HK8 := qH (kp_grownK H7.out.1 hgr8 fun b hb => (H7.out.2.1.ge b hb).1); clear hown8 hgr8)
          | (go_at_call 45; refine cM (by with_reducible exact HTQ.out _) ?_; rintro r w9 ⟨rfl, hk⟩; have HK9 := qH (HK8.out.trans hk); have HO9 := qH (HO8.out.kp0 hk); clear hk))
         go_roundg f'
         case measure => omega
         case rel => exact ⟨v8, xs ++ [x], trimL q, rfl, rfl, HO9.out, HK9.out, trimL_all HQA.out, by have h1 := trimL_le q; have h2 := HN.out; omega, by have h1 := trimL_le q; have h2 := HN.out; rw [List.length_append, List.length_singleton]; omega, HT2⟩
        ·have hq1 : (bs q).toList.isEmpty = false := by rw [hqe]; simp [hq0]
         have hq2 : ((bs (trimL q)).toList == (bs q).toList) = false := by
          rw [hqq]
          simp only [beq_eq_false_iff_ne, ne_eq]
          exact fun h => hbad ⟨hq0, h⟩
         clear htk hb hown hkx hra hrf hxr hre HT0 hpp hpn hqa hql hqe hqq hbad hq0
         go_wp2_with (first
          | (go_at_call 78; refine cM (by with_reducible exact HC.out) ?_; rintro r w3 ⟨rfl, hk⟩; obtain ⟨tb, htb⟩ : ∃ tb, w3.heap.size = tb := ⟨_, rfl⟩; obtain ⟨wb, hwb⟩ : ∃ wb, w3.alloc (.cells #[.string (bs x.key), .string (bs x.name), .string (bs x.op), .string (bs x.val)] 81) = wb := ⟨_, rfl⟩; obtain ⟨Nb, hNb⟩ : ∃ Nb, wb.heap.size = Nb := ⟨_, rfl⟩; obtain ⟨w7, hw7⟩ : ∃ w7, wb.alloc (.cells #[.string (bs x.key), .string (bs x.name), .string (bs x.op), .string (bs x.val)] 81) = w7 := ⟨_, rfl⟩; have h7 := tk_push (x := x) (HKX.out.trans hk) (HO.out.kp0 hk) htb hwb hNb hw7; obtain ⟨c0, c1, c2, c3⟩ := h7.1.cells; have H7 := qH h7.2; clear hk h7)
          | (at_builtin; refine wpList_append_r (r := tokT) rfl (.tmp 48) (.tmp 50) rfl w.heap.size v xs rfl H7.out.2.1 Nb 1 x rfl H7.out.2.2 HXL.out H7.out.1.size ?_; intro v8 w8 hown8 hgr8; have HO8 := qH hown8; have HK8 := qH (kp_grownK H7.out.1 hgr8 fun b hb => (H7.out.2.1.ge b hb).1); clear hown8 hgr8)
          | (go_at_call 45; refine cM (by with_reducible exact HTQ.out _) ?_; rintro r w9 ⟨rfl, hk⟩; have HK9 := qH (HK8.out.trans hk); have HO9 := qH (HO8.out.kp0 hk); clear hk))
         go_roundg f'
         case measure => omega
         case rel => exact ⟨v8, xs ++ [x], trimL q, rfl, rfl, HO9.out, HK9.out, trimL_all HQA.out, by have h1 := trimL_le q; have h2 := HN.out; omega, by have h1 := trimL_le q; have h2 := HN.out; rw [List.length_append, List.length_singleton]; omega, HT2⟩
end Go.Proofs.YtkkibibecgcbmaaGreatDoor.Lx
