/- DeviceGets: the walk. -/
import Derived.Test.YthdnbcgomepgaaaDoorJ
namespace Go.Proofs.YthdnbcgomepgaaaDoor
open Go.RowKit

set_option maxHeartbeats 4000000 in
set_option maxRecDepth 100000 in
theorem deviceGets_walk (sv : Value) (n : ByteArray) (la : Option Addr) (ln lc : Nat) (w : World) (hm : Max w) {L : List Atr} (hL : Has w sv L ∧ L.length ≤ 9223372036854775807) (h : Ints w w.heap.size (.slice la ln lc)) :
    Calls Tryd.prog 4 #[sv, .string n, .slice la ln lc] w (Bel (.bool true) w) := by
  have HM := Lib.hid hm
  have H0 := Lib.hid (attrs_any w.heap.size 0 (w.alloc (.cells #[.slice la ln lc, .int .i64 0] 30)) (by omega) (tape_new w _ h))
  obtain ⟨hS, hLen⟩ := hL
  have HS := Lib.hid hS
  clear hm h hS
  go_enter Tryd.func4, Tryd.ntmps4
  go_wp2_with fail
  refine H0.out.mono ?_
  rintro e W1 ⟨u, l, k1, rfl, hown, hgood, hlen, hk1, hT, hg⟩
  have hb1 : Below w.heap.size w W1 := below_tape ((Below.refl _ w).alloc (Nat.le_refl _) _) (by simp) (Nat.le_refl _) hg
  have hBw : w.heap.size < (w.alloc (.cells #[.slice la ln lc, .int .i64 0] 30)).heap.size := by simp
  go_wp2_with fail
  refine (next_any w.heap.size k1 2 W1 (by omega) (by omega) (by omega) hT).mono ?_
  rintro e W2 ⟨r, hr, rfl, hT2, hg2, hs2⟩
  have hown2 := hown.tape hBw hg2
  have hb2 := below_tape hb1 hb1.size (Nat.le_refl _) hg2
  clear hown hT hg hg2 hs2 hb1 H0
  by_cases hr0 : r = 0
  · subst hr0
    have HO := Lib.hid (oneN4 w.heap.size (k1 + 1) W2 (by omega) hT2)
    go_wp2_with fail
    refine HO.out.mono ?_
    rintro e W3 ⟨x, hx, rfl, hT3, hg3⟩
    have hown3 := hown2.tape hBw hg3
    have hb3 := below_tape hb2 hb2.size (Nat.le_refl _) hg3
    have S0 := Lib.hid (And.intro hb3 hown3.has)
    clear hown2 hT2 hg3 hT3 hx HO hb2 hown3 hb3
    obtain ⟨X, B, hX⟩ : ∃ X B, getR x L = .tuple #[.string X, .bool B] := ⟨_, _, rfl⟩
    obtain ⟨Y, D, hY⟩ : ∃ X B, getR x l = .tuple #[.string X, .bool B] := ⟨_, _, rfl⟩
    have HG1 := Lib.hid (fun W (h : Below w.heap.size w W) => get_any x sv L W hLen (HS.out.below h))
    have HG2 := Lib.hid (fun W (h : Below w.heap.size w W) => refGet_any x sv L W hLen (HS.out.below h))
    have HG3 := Lib.hid (fun W (h : Has W u l) => get_any x u l W (by omega) h)
    have HG4 := Lib.hid (fun W (h : Has W u l) => refGet_any x u l W (by omega) h)
    have HG5 := Lib.hid (fun W (h : Below w.heap.size w W) => sorted_any sv L W hLen (HS.out.below h))
    have HG6 := Lib.hid (fun W (h : Below w.heap.size w W) => refSorted_any sv L W hLen (HS.out.below h))
    have HG7 := Lib.hid (fun W (h : Has W u l) => sorted_any u l W (by omega) h)
    rw [srtB_of hgood.1] at HG7
    generalize srtB L = R at HG5 HG6
    rw [hX] at HG1 HG2
    rw [hY] at HG3 HG4
    clear hX hY
    go_wp2_with fail
    refine (HG1.out _ S0.out.1).mono ?_
    rintro e Wa ⟨rfl, hb⟩
    have S1 := Lib.hid (And.intro (S0.out.1.trans (hb.mono S0.out.1.size)) (S0.out.2.below hb))
    clear hb
    go_wp2_with fail
    refine (HG2.out _ S1.out.1).mono ?_
    rintro e Wb ⟨rfl, hb⟩
    have S2 := Lib.hid (And.intro (S1.out.1.trans (hb.mono S1.out.1.size)) (S1.out.2.below hb))
    clear hb
    go_wp2_with fail
    refine (HG3.out _ S2.out.2).mono ?_
    rintro e Wc ⟨rfl, hb⟩
    have S3 := Lib.hid (And.intro (S2.out.1.trans (hb.mono S2.out.1.size)) (S2.out.2.below hb))
    clear hb
    go_wp2_with fail
    refine (HG4.out _ S3.out.2).mono ?_
    rintro e Wd ⟨rfl, hb⟩
    have S4 := Lib.hid (And.intro (S3.out.1.trans (hb.mono S3.out.1.size)) (S3.out.2.below hb))
    clear hb
    go_wp2_with fail
    refine (HG5.out _ S4.out.1).mono ?_
    rintro e We ⟨rfl, hb⟩
    have S5 := Lib.hid (And.intro (S4.out.1.trans (hb.mono S4.out.1.size)) (S4.out.2.below hb))
    clear hb
    go_wp2_with fail
    refine (HG6.out _ S5.out.1).mono ?_
    rintro e Wf ⟨rfl, hb⟩
    have S6 := Lib.hid (And.intro (S5.out.1.trans (hb.mono S5.out.1.size)) (S5.out.2.below hb))
    clear hb
    go_wp2_with fail
    refine (HG7.out _ S6.out.2).mono ?_
    rintro e Wg ⟨rfl, hb⟩
    have S7 := Lib.hid (And.intro (S6.out.1.trans (hb.mono S6.out.1.size)) (S6.out.2.below hb))
    clear hb
    go_wp2_with fail
    refine (known_any _ (HM.out.below S7.out.1)).mono ?_
    rintro e Wh ⟨rfl, hb⟩
    have Hfin := Lib.hid (S7.out.1.trans (hb.mono S7.out.1.size))
    clear hb
    go_wp2
    go_ret
    exact ⟨by simp, Hfin.out⟩
  · have hz : ¬ ((r : Int) = 0) := by omega
    have S0 := Lib.hid (And.intro hb2 hown2.has)
    clear hT2 hb2 hown2
    obtain ⟨X, B, hX⟩ : ∃ X B, getR n L = .tuple #[.string X, .bool B] := ⟨_, _, rfl⟩
    obtain ⟨Y, D, hY⟩ : ∃ X B, getR n l = .tuple #[.string X, .bool B] := ⟨_, _, rfl⟩
    have HG1 := Lib.hid (fun W (h : Below w.heap.size w W) => get_any n sv L W hLen (HS.out.below h))
    have HG2 := Lib.hid (fun W (h : Below w.heap.size w W) => refGet_any n sv L W hLen (HS.out.below h))
    have HG3 := Lib.hid (fun W (h : Has W u l) => get_any n u l W (by omega) h)
    have HG4 := Lib.hid (fun W (h : Has W u l) => refGet_any n u l W (by omega) h)
    have HG5 := Lib.hid (fun W (h : Below w.heap.size w W) => sorted_any sv L W hLen (HS.out.below h))
    have HG6 := Lib.hid (fun W (h : Below w.heap.size w W) => refSorted_any sv L W hLen (HS.out.below h))
    have HG7 := Lib.hid (fun W (h : Has W u l) => sorted_any u l W (by omega) h)
    rw [srtB_of hgood.1] at HG7
    generalize srtB L = R at HG5 HG6
    rw [hX] at HG1 HG2
    rw [hY] at HG3 HG4
    clear hX hY
    go_wp2_with fail
    refine (HG1.out _ S0.out.1).mono ?_
    rintro e Wa ⟨rfl, hb⟩
    have S1 := Lib.hid (And.intro (S0.out.1.trans (hb.mono S0.out.1.size)) (S0.out.2.below hb))
    clear hb
    go_wp2_with fail
    refine (HG2.out _ S1.out.1).mono ?_
    rintro e Wb ⟨rfl, hb⟩
    have S2 := Lib.hid (And.intro (S1.out.1.trans (hb.mono S1.out.1.size)) (S1.out.2.below hb))
    clear hb
    go_wp2_with fail
    refine (HG3.out _ S2.out.2).mono ?_
    rintro e Wc ⟨rfl, hb⟩
    have S3 := Lib.hid (And.intro (S2.out.1.trans (hb.mono S2.out.1.size)) (S2.out.2.below hb))
    clear hb
    go_wp2_with fail
    refine (HG4.out _ S3.out.2).mono ?_
    rintro e Wd ⟨rfl, hb⟩
    have S4 := Lib.hid (And.intro (S3.out.1.trans (hb.mono S3.out.1.size)) (S3.out.2.below hb))
    clear hb
    go_wp2_with fail
    refine (HG5.out _ S4.out.1).mono ?_
    rintro e We ⟨rfl, hb⟩
    have S5 := Lib.hid (And.intro (S4.out.1.trans (hb.mono S4.out.1.size)) (S4.out.2.below hb))
    clear hb
    go_wp2_with fail
    refine (HG6.out _ S5.out.1).mono ?_
    rintro e Wf ⟨rfl, hb⟩
    have S6 := Lib.hid (And.intro (S5.out.1.trans (hb.mono S5.out.1.size)) (S5.out.2.below hb))
    clear hb
    go_wp2_with fail
    refine (HG7.out _ S6.out.2).mono ?_
    rintro e Wg ⟨rfl, hb⟩
    have S7 := Lib.hid (And.intro (S6.out.1.trans (hb.mono S6.out.1.size)) (S6.out.2.below hb))
    clear hb
    go_wp2_with fail
    refine (known_any _ (HM.out.below S7.out.1)).mono ?_
    rintro e Wh ⟨rfl, hb⟩
    have Hfin := Lib.hid (S7.out.1.trans (hb.mono S7.out.1.size))
    clear hb
    go_wp2
    go_ret
    exact ⟨by simp, Hfin.out⟩
end Go.Proofs.YthdnbcgomepgaaaDoor
