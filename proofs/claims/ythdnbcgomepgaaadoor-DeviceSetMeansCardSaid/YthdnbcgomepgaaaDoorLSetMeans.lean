/- DeviceSetMeans: the walk. -/
import Derived.Test.YthdnbcgomepgaaaDoorJ
namespace Go.Proofs.YthdnbcgomepgaaaDoor
open Go.RowKit

set_option maxHeartbeats 4000000 in
set_option maxRecDepth 100000 in
theorem deviceSetMeans_walk (la : Option Addr) (ln lc : Nat) (a x b y c : ByteArray) (w : World) (hm : Max w) (h : Ints w w.heap.size (.slice la ln lc)) :
    Calls Tryd.prog 6 #[.slice la ln lc, .string a, .string x, .string b, .string y, .string c] w (Bel (.bool true) w) := by
  have HM := Lib.hid hm
  have H0 := Lib.hid (attrs_any w.heap.size 0 (w.alloc (.cells #[.slice la ln lc, .int .i64 0] 30)) (by omega) (tape_new w _ h))
  clear hm h
  obtain ⟨ox, hox⟩ : ∃ ox, decide (x = ⟨#[]⟩) = ox := ⟨_, rfl⟩
  have hde : x.toList.isEmpty = ox := by
    rw [← hox]
    by_cases hv : x = ⟨#[]⟩
    · rw [str_empty hv, decide_eq_true hv]
    · rw [str_full hv, decide_eq_false hv]
  have hgA : ∀ l, getR a (setP a x l) = .tuple #[.string x, .bool !ox] := fun l => by
    unfold getR
    rw [get_set_same, ← hox]
    by_cases hv : x = ⟨#[]⟩
    · rw [if_pos hv, decide_eq_true hv]
      simp [hv]
    · rw [if_neg hv, decide_eq_false hv]
      rfl
  have HGA := Lib.hid hgA
  clear hgA hox
  go_enter Tryd.func6, Tryd.ntmps6
  go_wp2_with fail
  refine H0.out.mono ?_
  rintro e W1 ⟨u, l, k1, rfl, hown, hgood, hlen, hk1, hT, hg⟩
  have hb1 : Below w.heap.size w W1 := below_tape ((Below.refl _ w).alloc (Nat.le_refl _) _) (by simp) (Nat.le_refl _) hg
  have Hso := Lib.hid (srt_setP a x hgood.1)
  have hls := setP_length a x l
  have hlsy := setP_length b y l
  have Hu := Lib.hid hown.has
  have Hb1 := Lib.hid hb1
  clear hown hT hg hb1 H0
  go_wp2_with fail
  refine (set_any a x _ l _ (by omega) hgood.1 Hu.out).mono ?_
  rintro e W2 ⟨oo, rfl, hho, hbo⟩
  have S0 := Lib.hid (And.intro (Hb1.out.trans (hbo.mono Hb1.out.size)) (And.intro (Hu.out.below hbo) hho))
  clear hho hbo
  go_wp2_with fail
  refine (get_any a _ (setP a x l) _ (by omega) S0.out.2.2).mono ?_
  rintro e W3 ⟨rfl, hb3⟩
  have S1 := Lib.hid (And.intro (S0.out.1.trans (hb3.mono S0.out.1.size)) (And.intro (S0.out.2.1.below hb3) (S0.out.2.2.below hb3)))
  rw [HGA.out]
  clear hb3
  have hsrt := srtB_of Hso.out
  have HSo := Lib.hid (fun W sv (h : Has W sv (setP a x l)) => sorted_any sv (setP a x l) W (by omega) h)
  rw [hsrt] at HSo
  clear hsrt
  cases ox with
  | true =>
    go_wp2_with fail
    refine (HSo.out _ _ S1.out.2.2).mono ?_
    rintro e W4 ⟨rfl, hb4⟩
    have S2 := Lib.hid (And.intro (S1.out.1.trans (hb4.mono S1.out.1.size)) (And.intro (S1.out.2.1.below hb4) (S1.out.2.2.below hb4)))
    clear hb4
    by_cases hca : c = a
    · have hq1 := str_eq hca
      clear hca
      by_cases hab : a = b
      · have hq2 := str_eq hab
        clear hab
        go_wp2_with fail
        refine (set_any a x _ (setP a x l) _ (by omega) Hso.out S2.out.2.2).mono ?_
        rintro e Wa ⟨ov, rfl, hha, hba⟩
        have S3 := Lib.hid (And.intro (S2.out.1.trans (hba.mono S2.out.1.size)) (And.intro (S2.out.2.1.below hba) (S2.out.2.2.below hba)))
        rw [set_set_same a x hgood.1] at hha
        have Hv := Lib.hid hha
        clear hha hba
        go_wp2_with fail
        refine (sameAttrs_any _ _ (setP a x l) (setP a x l) _ (by omega) Hv.out S3.out.2.2).mono ?_
        rintro e Wb ⟨rfl, hbb⟩
        have S4 := Lib.hid (And.intro (S3.out.1.trans (hbb.mono S3.out.1.size)) (And.intro (S3.out.2.1.below hbb) (S3.out.2.2.below hbb)))
        rw [decide_eq_true rfl]
        clear hbb
        go_wp2_with fail
        refine (known_any _ (HM.out.below S4.out.1)).mono ?_
        rintro e Wc ⟨rfl, hbc⟩
        have Hfin := Lib.hid (S4.out.1.trans (hbc.mono S4.out.1.size))
        clear hbc
        go_wp2
        go_ret
        exact ⟨rfl, Hfin.out⟩
      · have hq2 := str_ne hab
        have Hab := Lib.hid hab
        clear hab
        go_wp2_with fail
        refine (set_any b y _ (setP a x l) _ (by omega) Hso.out S2.out.2.2).mono ?_
        rintro e Wd ⟨od, rfl, hhd, hbd⟩
        have S3 := Lib.hid (And.intro (S2.out.1.trans (hbd.mono S2.out.1.size)) (And.intro (S2.out.2.1.below hbd) (S2.out.2.2.below hbd)))
        have Hd := Lib.hid hhd
        clear hhd hbd
        go_wp2_with fail
        refine (set_any b y _ l _ (by omega) hgood.1 S3.out.2.1).mono ?_
        rintro e We ⟨oe, rfl, hhe, hbe⟩
        have S4 := Lib.hid (And.intro (S3.out.1.trans (hbe.mono S3.out.1.size)) (And.intro (S3.out.2.1.below hbe) (S3.out.2.2.below hbe)))
        have Hd2 := Lib.hid (Hd.out.below hbe)
        have He := Lib.hid hhe
        clear hhe hbe
        go_wp2_with fail
        refine (set_any a x _ (setP b y l) _ (by omega) (srt_setP b y hgood.1) He.out).mono ?_
        rintro e Wf ⟨of, rfl, hhf, hbf⟩
        have S5 := Lib.hid (And.intro (S4.out.1.trans (hbf.mono S4.out.1.size)) (And.intro (S4.out.2.1.below hbf) (S4.out.2.2.below hbf)))
        have Hd3 := Lib.hid (Hd2.out.below hbf)
        rw [← set_set_comm Hab.out x y hgood.1] at hhf
        have Hf := Lib.hid hhf
        clear hhf hbf
        go_wp2_with fail
        refine (sameAttrs_any _ _ _ _ _ (Nat.le_trans (setP_length b y (setP a x l)) (by omega)) Hd3.out Hf.out).mono ?_
        rintro e Wg ⟨rfl, hbg⟩
        have S6 := Lib.hid (And.intro (S5.out.1.trans (hbg.mono S5.out.1.size)) (And.intro (S5.out.2.1.below hbg) (S5.out.2.2.below hbg)))
        rw [decide_eq_true rfl]
        clear hbg
        go_wp2_with fail
        refine (set_any a x _ (setP a x l) _ (by omega) Hso.out S6.out.2.2).mono ?_
        rintro e Wa ⟨ov, rfl, hha, hba⟩
        have S7 := Lib.hid (And.intro (S6.out.1.trans (hba.mono S6.out.1.size)) (And.intro (S6.out.2.1.below hba) (S6.out.2.2.below hba)))
        rw [set_set_same a x hgood.1] at hha
        have Hv := Lib.hid hha
        clear hha hba
        go_wp2_with fail
        refine (sameAttrs_any _ _ (setP a x l) (setP a x l) _ (by omega) Hv.out S7.out.2.2).mono ?_
        rintro e Wb ⟨rfl, hbb⟩
        have S8 := Lib.hid (And.intro (S7.out.1.trans (hbb.mono S7.out.1.size)) (And.intro (S7.out.2.1.below hbb) (S7.out.2.2.below hbb)))
        rw [decide_eq_true rfl]
        clear hbb
        go_wp2_with fail
        refine (known_any _ (HM.out.below S8.out.1)).mono ?_
        rintro e Wc ⟨rfl, hbc⟩
        have Hfin := Lib.hid (S8.out.1.trans (hbc.mono S8.out.1.size))
        clear hbc
        go_wp2
        go_ret
        exact ⟨rfl, Hfin.out⟩
    · have hq1 := str_ne hca
      have Hca := Lib.hid hca
      clear hca
      go_wp2_with fail
      refine (get_any c _ (setP a x l) _ (by omega) S2.out.2.2).mono ?_
      rintro e W5 ⟨rfl, hb5⟩
      have S3 := Lib.hid (And.intro (S2.out.1.trans (hb5.mono S2.out.1.size)) (And.intro (S2.out.2.1.below hb5) (S2.out.2.2.below hb5)))
      have hgc : getR c (setP a x l) = getR c l := by unfold getR; rw [get_set_other _ _ _ Hca.out]
      rw [hgc]
      unfold getR
      clear hb5 hgc
      go_wp2_with fail
      refine (get_any c _ l _ (by omega) S3.out.2.1).mono ?_
      rintro e W6 ⟨rfl, hb6⟩
      have S4 := Lib.hid (And.intro (S3.out.1.trans (hb6.mono S3.out.1.size)) (And.intro (S3.out.2.1.below hb6) (S3.out.2.2.below hb6)))
      unfold getR
      clear hb6
      by_cases hab : a = b
      · have hq2 := str_eq hab
        clear hab
        go_wp2_with fail
        refine (set_any a x _ (setP a x l) _ (by omega) Hso.out S4.out.2.2).mono ?_
        rintro e Wa ⟨ov, rfl, hha, hba⟩
        have S5 := Lib.hid (And.intro (S4.out.1.trans (hba.mono S4.out.1.size)) (And.intro (S4.out.2.1.below hba) (S4.out.2.2.below hba)))
        rw [set_set_same a x hgood.1] at hha
        have Hv := Lib.hid hha
        clear hha hba
        go_wp2_with fail
        refine (sameAttrs_any _ _ (setP a x l) (setP a x l) _ (by omega) Hv.out S5.out.2.2).mono ?_
        rintro e Wb ⟨rfl, hbb⟩
        have S6 := Lib.hid (And.intro (S5.out.1.trans (hbb.mono S5.out.1.size)) (And.intro (S5.out.2.1.below hbb) (S5.out.2.2.below hbb)))
        rw [decide_eq_true rfl]
        clear hbb
        go_wp2_with fail
        refine (known_any _ (HM.out.below S6.out.1)).mono ?_
        rintro e Wc ⟨rfl, hbc⟩
        have Hfin := Lib.hid (S6.out.1.trans (hbc.mono S6.out.1.size))
        clear hbc
        go_wp2
        go_ret
        exact ⟨rfl, Hfin.out⟩
      · have hq2 := str_ne hab
        have Hab := Lib.hid hab
        clear hab
        go_wp2_with fail
        refine (set_any b y _ (setP a x l) _ (by omega) Hso.out S4.out.2.2).mono ?_
        rintro e Wd ⟨od, rfl, hhd, hbd⟩
        have S5 := Lib.hid (And.intro (S4.out.1.trans (hbd.mono S4.out.1.size)) (And.intro (S4.out.2.1.below hbd) (S4.out.2.2.below hbd)))
        have Hd := Lib.hid hhd
        clear hhd hbd
        go_wp2_with fail
        refine (set_any b y _ l _ (by omega) hgood.1 S5.out.2.1).mono ?_
        rintro e We ⟨oe, rfl, hhe, hbe⟩
        have S6 := Lib.hid (And.intro (S5.out.1.trans (hbe.mono S5.out.1.size)) (And.intro (S5.out.2.1.below hbe) (S5.out.2.2.below hbe)))
        have Hd2 := Lib.hid (Hd.out.below hbe)
        have He := Lib.hid hhe
        clear hhe hbe
        go_wp2_with fail
        refine (set_any a x _ (setP b y l) _ (by omega) (srt_setP b y hgood.1) He.out).mono ?_
        rintro e Wf ⟨of, rfl, hhf, hbf⟩
        have S7 := Lib.hid (And.intro (S6.out.1.trans (hbf.mono S6.out.1.size)) (And.intro (S6.out.2.1.below hbf) (S6.out.2.2.below hbf)))
        have Hd3 := Lib.hid (Hd2.out.below hbf)
        rw [← set_set_comm Hab.out x y hgood.1] at hhf
        have Hf := Lib.hid hhf
        clear hhf hbf
        go_wp2_with fail
        refine (sameAttrs_any _ _ _ _ _ (Nat.le_trans (setP_length b y (setP a x l)) (by omega)) Hd3.out Hf.out).mono ?_
        rintro e Wg ⟨rfl, hbg⟩
        have S8 := Lib.hid (And.intro (S7.out.1.trans (hbg.mono S7.out.1.size)) (And.intro (S7.out.2.1.below hbg) (S7.out.2.2.below hbg)))
        rw [decide_eq_true rfl]
        clear hbg
        go_wp2_with fail
        refine (set_any a x _ (setP a x l) _ (by omega) Hso.out S8.out.2.2).mono ?_
        rintro e Wa ⟨ov, rfl, hha, hba⟩
        have S9 := Lib.hid (And.intro (S8.out.1.trans (hba.mono S8.out.1.size)) (And.intro (S8.out.2.1.below hba) (S8.out.2.2.below hba)))
        rw [set_set_same a x hgood.1] at hha
        have Hv := Lib.hid hha
        clear hha hba
        go_wp2_with fail
        refine (sameAttrs_any _ _ (setP a x l) (setP a x l) _ (by omega) Hv.out S9.out.2.2).mono ?_
        rintro e Wb ⟨rfl, hbb⟩
        have S10 := Lib.hid (And.intro (S9.out.1.trans (hbb.mono S9.out.1.size)) (And.intro (S9.out.2.1.below hbb) (S9.out.2.2.below hbb)))
        rw [decide_eq_true rfl]
        clear hbb
        go_wp2_with fail
        refine (known_any _ (HM.out.below S10.out.1)).mono ?_
        rintro e Wc ⟨rfl, hbc⟩
        have Hfin := Lib.hid (S10.out.1.trans (hbc.mono S10.out.1.size))
        clear hbc
        go_wp2
        go_ret
        exact ⟨rfl, Hfin.out⟩
  | false =>
    go_wp2_with fail
    refine (HSo.out _ _ S1.out.2.2).mono ?_
    rintro e W4 ⟨rfl, hb4⟩
    have S2 := Lib.hid (And.intro (S1.out.1.trans (hb4.mono S1.out.1.size)) (And.intro (S1.out.2.1.below hb4) (S1.out.2.2.below hb4)))
    clear hb4
    by_cases hca : c = a
    · have hq1 := str_eq hca
      clear hca
      by_cases hab : a = b
      · have hq2 := str_eq hab
        clear hab
        go_wp2_with fail
        refine (set_any a x _ (setP a x l) _ (by omega) Hso.out S2.out.2.2).mono ?_
        rintro e Wa ⟨ov, rfl, hha, hba⟩
        have S3 := Lib.hid (And.intro (S2.out.1.trans (hba.mono S2.out.1.size)) (And.intro (S2.out.2.1.below hba) (S2.out.2.2.below hba)))
        rw [set_set_same a x hgood.1] at hha
        have Hv := Lib.hid hha
        clear hha hba
        go_wp2_with fail
        refine (sameAttrs_any _ _ (setP a x l) (setP a x l) _ (by omega) Hv.out S3.out.2.2).mono ?_
        rintro e Wb ⟨rfl, hbb⟩
        have S4 := Lib.hid (And.intro (S3.out.1.trans (hbb.mono S3.out.1.size)) (And.intro (S3.out.2.1.below hbb) (S3.out.2.2.below hbb)))
        rw [decide_eq_true rfl]
        clear hbb
        go_wp2_with fail
        refine (known_any _ (HM.out.below S4.out.1)).mono ?_
        rintro e Wc ⟨rfl, hbc⟩
        have Hfin := Lib.hid (S4.out.1.trans (hbc.mono S4.out.1.size))
        clear hbc
        go_wp2
        go_ret
        exact ⟨rfl, Hfin.out⟩
      · have hq2 := str_ne hab
        have Hab := Lib.hid hab
        clear hab
        go_wp2_with fail
        refine (set_any b y _ (setP a x l) _ (by omega) Hso.out S2.out.2.2).mono ?_
        rintro e Wd ⟨od, rfl, hhd, hbd⟩
        have S3 := Lib.hid (And.intro (S2.out.1.trans (hbd.mono S2.out.1.size)) (And.intro (S2.out.2.1.below hbd) (S2.out.2.2.below hbd)))
        have Hd := Lib.hid hhd
        clear hhd hbd
        go_wp2_with fail
        refine (set_any b y _ l _ (by omega) hgood.1 S3.out.2.1).mono ?_
        rintro e We ⟨oe, rfl, hhe, hbe⟩
        have S4 := Lib.hid (And.intro (S3.out.1.trans (hbe.mono S3.out.1.size)) (And.intro (S3.out.2.1.below hbe) (S3.out.2.2.below hbe)))
        have Hd2 := Lib.hid (Hd.out.below hbe)
        have He := Lib.hid hhe
        clear hhe hbe
        go_wp2_with fail
        refine (set_any a x _ (setP b y l) _ (by omega) (srt_setP b y hgood.1) He.out).mono ?_
        rintro e Wf ⟨of, rfl, hhf, hbf⟩
        have S5 := Lib.hid (And.intro (S4.out.1.trans (hbf.mono S4.out.1.size)) (And.intro (S4.out.2.1.below hbf) (S4.out.2.2.below hbf)))
        have Hd3 := Lib.hid (Hd2.out.below hbf)
        rw [← set_set_comm Hab.out x y hgood.1] at hhf
        have Hf := Lib.hid hhf
        clear hhf hbf
        go_wp2_with fail
        refine (sameAttrs_any _ _ _ _ _ (Nat.le_trans (setP_length b y (setP a x l)) (by omega)) Hd3.out Hf.out).mono ?_
        rintro e Wg ⟨rfl, hbg⟩
        have S6 := Lib.hid (And.intro (S5.out.1.trans (hbg.mono S5.out.1.size)) (And.intro (S5.out.2.1.below hbg) (S5.out.2.2.below hbg)))
        rw [decide_eq_true rfl]
        clear hbg
        go_wp2_with fail
        refine (set_any a x _ (setP a x l) _ (by omega) Hso.out S6.out.2.2).mono ?_
        rintro e Wa ⟨ov, rfl, hha, hba⟩
        have S7 := Lib.hid (And.intro (S6.out.1.trans (hba.mono S6.out.1.size)) (And.intro (S6.out.2.1.below hba) (S6.out.2.2.below hba)))
        rw [set_set_same a x hgood.1] at hha
        have Hv := Lib.hid hha
        clear hha hba
        go_wp2_with fail
        refine (sameAttrs_any _ _ (setP a x l) (setP a x l) _ (by omega) Hv.out S7.out.2.2).mono ?_
        rintro e Wb ⟨rfl, hbb⟩
        have S8 := Lib.hid (And.intro (S7.out.1.trans (hbb.mono S7.out.1.size)) (And.intro (S7.out.2.1.below hbb) (S7.out.2.2.below hbb)))
        rw [decide_eq_true rfl]
        clear hbb
        go_wp2_with fail
        refine (known_any _ (HM.out.below S8.out.1)).mono ?_
        rintro e Wc ⟨rfl, hbc⟩
        have Hfin := Lib.hid (S8.out.1.trans (hbc.mono S8.out.1.size))
        clear hbc
        go_wp2
        go_ret
        exact ⟨rfl, Hfin.out⟩
    · have hq1 := str_ne hca
      have Hca := Lib.hid hca
      clear hca
      go_wp2_with fail
      refine (get_any c _ (setP a x l) _ (by omega) S2.out.2.2).mono ?_
      rintro e W5 ⟨rfl, hb5⟩
      have S3 := Lib.hid (And.intro (S2.out.1.trans (hb5.mono S2.out.1.size)) (And.intro (S2.out.2.1.below hb5) (S2.out.2.2.below hb5)))
      have hgc : getR c (setP a x l) = getR c l := by unfold getR; rw [get_set_other _ _ _ Hca.out]
      rw [hgc]
      unfold getR
      clear hb5 hgc
      go_wp2_with fail
      refine (get_any c _ l _ (by omega) S3.out.2.1).mono ?_
      rintro e W6 ⟨rfl, hb6⟩
      have S4 := Lib.hid (And.intro (S3.out.1.trans (hb6.mono S3.out.1.size)) (And.intro (S3.out.2.1.below hb6) (S3.out.2.2.below hb6)))
      unfold getR
      clear hb6
      by_cases hab : a = b
      · have hq2 := str_eq hab
        clear hab
        go_wp2_with fail
        refine (set_any a x _ (setP a x l) _ (by omega) Hso.out S4.out.2.2).mono ?_
        rintro e Wa ⟨ov, rfl, hha, hba⟩
        have S5 := Lib.hid (And.intro (S4.out.1.trans (hba.mono S4.out.1.size)) (And.intro (S4.out.2.1.below hba) (S4.out.2.2.below hba)))
        rw [set_set_same a x hgood.1] at hha
        have Hv := Lib.hid hha
        clear hha hba
        go_wp2_with fail
        refine (sameAttrs_any _ _ (setP a x l) (setP a x l) _ (by omega) Hv.out S5.out.2.2).mono ?_
        rintro e Wb ⟨rfl, hbb⟩
        have S6 := Lib.hid (And.intro (S5.out.1.trans (hbb.mono S5.out.1.size)) (And.intro (S5.out.2.1.below hbb) (S5.out.2.2.below hbb)))
        rw [decide_eq_true rfl]
        clear hbb
        go_wp2_with fail
        refine (known_any _ (HM.out.below S6.out.1)).mono ?_
        rintro e Wc ⟨rfl, hbc⟩
        have Hfin := Lib.hid (S6.out.1.trans (hbc.mono S6.out.1.size))
        clear hbc
        go_wp2
        go_ret
        exact ⟨rfl, Hfin.out⟩
      · have hq2 := str_ne hab
        have Hab := Lib.hid hab
        clear hab
        go_wp2_with fail
        refine (set_any b y _ (setP a x l) _ (by omega) Hso.out S4.out.2.2).mono ?_
        rintro e Wd ⟨od, rfl, hhd, hbd⟩
        have S5 := Lib.hid (And.intro (S4.out.1.trans (hbd.mono S4.out.1.size)) (And.intro (S4.out.2.1.below hbd) (S4.out.2.2.below hbd)))
        have Hd := Lib.hid hhd
        clear hhd hbd
        go_wp2_with fail
        refine (set_any b y _ l _ (by omega) hgood.1 S5.out.2.1).mono ?_
        rintro e We ⟨oe, rfl, hhe, hbe⟩
        have S6 := Lib.hid (And.intro (S5.out.1.trans (hbe.mono S5.out.1.size)) (And.intro (S5.out.2.1.below hbe) (S5.out.2.2.below hbe)))
        have Hd2 := Lib.hid (Hd.out.below hbe)
        have He := Lib.hid hhe
        clear hhe hbe
        go_wp2_with fail
        refine (set_any a x _ (setP b y l) _ (by omega) (srt_setP b y hgood.1) He.out).mono ?_
        rintro e Wf ⟨of, rfl, hhf, hbf⟩
        have S7 := Lib.hid (And.intro (S6.out.1.trans (hbf.mono S6.out.1.size)) (And.intro (S6.out.2.1.below hbf) (S6.out.2.2.below hbf)))
        have Hd3 := Lib.hid (Hd2.out.below hbf)
        rw [← set_set_comm Hab.out x y hgood.1] at hhf
        have Hf := Lib.hid hhf
        clear hhf hbf
        go_wp2_with fail
        refine (sameAttrs_any _ _ _ _ _ (Nat.le_trans (setP_length b y (setP a x l)) (by omega)) Hd3.out Hf.out).mono ?_
        rintro e Wg ⟨rfl, hbg⟩
        have S8 := Lib.hid (And.intro (S7.out.1.trans (hbg.mono S7.out.1.size)) (And.intro (S7.out.2.1.below hbg) (S7.out.2.2.below hbg)))
        rw [decide_eq_true rfl]
        clear hbg
        go_wp2_with fail
        refine (set_any a x _ (setP a x l) _ (by omega) Hso.out S8.out.2.2).mono ?_
        rintro e Wa ⟨ov, rfl, hha, hba⟩
        have S9 := Lib.hid (And.intro (S8.out.1.trans (hba.mono S8.out.1.size)) (And.intro (S8.out.2.1.below hba) (S8.out.2.2.below hba)))
        rw [set_set_same a x hgood.1] at hha
        have Hv := Lib.hid hha
        clear hha hba
        go_wp2_with fail
        refine (sameAttrs_any _ _ (setP a x l) (setP a x l) _ (by omega) Hv.out S9.out.2.2).mono ?_
        rintro e Wb ⟨rfl, hbb⟩
        have S10 := Lib.hid (And.intro (S9.out.1.trans (hbb.mono S9.out.1.size)) (And.intro (S9.out.2.1.below hbb) (S9.out.2.2.below hbb)))
        rw [decide_eq_true rfl]
        clear hbb
        go_wp2_with fail
        refine (known_any _ (HM.out.below S10.out.1)).mono ?_
        rintro e Wc ⟨rfl, hbc⟩
        have Hfin := Lib.hid (S10.out.1.trans (hbc.mono S10.out.1.size))
        clear hbc
        go_wp2
        go_ret
        exact ⟨rfl, Hfin.out⟩
end Go.Proofs.YthdnbcgomepgaaaDoor
